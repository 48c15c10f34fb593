import PyProof.Rows.All
import Wide.All
import OpenK.AllK
import Wide.FinOn
import HandS.ForMost
import HandS.Wide
import HandS.Walk
import HandS.StrMore
import HandS.IsInst
import HandS.Conv
import HandS.RaiseMore
import HandS.EndBits
import PyProof.ReprRoads
import HandS.GenList
import HandS.GenYield
import PyProof.Rows.StrJoinMade
import HandS.Style
import HandS.DictComp
import HandS.Small
import PySem.Challenge.RW_sourceback_k02_tokens_of_texts
set_option Elab.async false
set_option linter.all false
set_option maxRecDepth 100000
namespace K2
/-! The tokens of a text, by its signs' numbers. -/

def span (p : Nat → Bool) (l : List Nat) : Nat := (l.takeWhile p).length
theorem span_le (p : Nat → Bool) (l : List Nat) : span p l ≤ l.length := (List.takeWhile_sublist p).length_le
theorem span_nil (p : Nat → Bool) : span p [] = 0 := rfl
theorem span_pos {p : Nat → Bool} {c : Nat} {r : List Nat} (h : p c = true) : span p (c :: r) = span p r + 1 := by
  unfold span
  rw [List.takeWhile_cons, if_pos h]
  rfl
theorem span_neg {p : Nat → Bool} {c : Nat} {r : List Nat} (h : p c = false) : span p (c :: r) = 0 := by
  unfold span
  rw [List.takeWhile_cons, if_neg (by rw [h]; exact Bool.false_ne_true)]
  rfl
theorem span_get {p : Nat → Bool} : ∀ {l : List Nat} {i : Nat} {c : Nat}, l[i]? = some c → i < span p l → p c = true
  | [], _, _, h, _ => by simp at h
  | x :: r, i, c, h, lt => by
    cases hx : p x with
    | false =>
      rw [span_neg hx] at lt
      omega
    | true =>
      rw [span_pos hx] at lt
      cases i with
      | zero =>
        cases h
        exact hx
      | succ i => exact span_get (l := r) h (by omega)
theorem span_end {p : Nat → Bool} : ∀ {l : List Nat} {c : Nat}, l[span p l]? = some c → p c = false
  | [], _, h => by simp at h
  | x :: r, c, h => by
    cases hx : p x with
    | false =>
      rw [span_neg hx] at h
      cases h
      exact hx
    | true =>
      rw [span_pos hx] at h
      exact span_end (l := r) h
theorem span_congr {p q : Nat → Bool} : ∀ {l : List Nat}, (∀ c ∈ l, p c = q c) → span p l = span q l
  | [], _ => rfl
  | x :: r, h => by
    have hx := h x List.mem_cons_self
    have hr := span_congr (l := r) fun c hc => h c (List.mem_cons_of_mem _ hc)
    cases e : p x with
    | false => rw [span_neg e, span_neg (hx ▸ e)]
    | true => rw [span_pos e, span_pos (hx ▸ e), hr]
/-- what runs on behind a part of its own kind -/
theorem span_app {p : Nat → Bool} : ∀ {a b : List Nat}, (∀ c ∈ a, p c = true) → span p (a ++ b) = a.length + span p b
  | [], b, _ => by simp
  | x :: r, b, h => by
    rw [List.cons_append, span_pos (h x List.mem_cons_self), span_app fun c hc => h c (List.mem_cons_of_mem _ hc), List.length_cons]
    omega

def isLet (c : Nat) : Bool := decide (97 ≤ c) && decide (c ≤ 122)
def isDig (c : Nat) : Bool := decide (48 ≤ c) && decide (c ≤ 57)
/-- { } [ ] ( ) : . , = + - * -/
def signs : List Nat := [123, 125, 91, 93, 40, 41, 58, 46, 44, 61, 43, 45, 42]
def isSign (c : Nat) : Bool := signs.contains c
def isIn (c : Nat) : Bool := decide (32 ≤ c) && decide (c ≤ 126) && decide (c ≠ 34) && decide (c ≠ 92)
def isGap (c : Nat) : Bool := decide (c = 32) || decide (c = 10)
def noFeed (c : Nat) : Bool := decide (c ≠ 10)

/-- how many signs the gap ahead has -/
def skip (l : List Nat) : Nat :=
  match l with
  | [] => 0
  | c :: r => if isGap c = true then 1 + skip r else if c = 35 then 1 + span noFeed r + skip (r.drop (span noFeed r)) else 0
termination_by l.length
decreasing_by
  all_goals simp only [List.length_cons, List.length_drop]; omega

theorem skip_nil : skip [] = 0 := by rw [skip]
theorem skip_gap {c : Nat} {r : List Nat} (h : isGap c = true) : skip (c :: r) = 1 + skip r := by rw [skip, if_pos h]
theorem skip_hash (r : List Nat) : skip (35 :: r) = 1 + span noFeed r + skip (r.drop (span noFeed r)) := by
  rw [skip, if_neg (by decide), if_pos rfl]
theorem skip_none {c : Nat} {r : List Nat} (h : isGap c = false) (n : c ≠ 35) : skip (c :: r) = 0 := by
  rw [skip, if_neg (by rw [h]; exact Bool.false_ne_true), if_neg n]
theorem skip_le : ∀ (n : Nat) (l : List Nat), l.length ≤ n → skip l ≤ l.length
  | _, [], _ => by rw [skip_nil]; exact Nat.le_refl 0
  | 0, c :: r, h => by simp at h
  | n + 1, c :: r, h => by
    have hr : r.length ≤ n := by simpa using h
    rw [List.length_cons]
    by_cases g : isGap c = true
    · rw [skip_gap g]
      have := skip_le n r hr
      omega
    · by_cases e : c = 35
      · subst e
        rw [skip_hash]
        have h1 := span_le noFeed r
        have h2 := skip_le n (r.drop (span noFeed r)) (by rw [List.length_drop]; omega)
        rw [List.length_drop] at h2
        omega
      · rw [skip_none (Bool.eq_false_iff.mpr g) e]
        exact Nat.zero_le _
theorem skip_len (l : List Nat) : skip l ≤ l.length := skip_le l.length l (Nat.le_refl _)

/-- how many signs the token has that comes next; 0 if there is none -/
def tokL : List Nat → Nat
  | [] => 0
  | c :: r => if isSign c = true then 1 else if isLet c = true then span isLet (c :: r) else if isDig c = true then (if c = 48 ∧ 1 < span isDig (c :: r) then 0 else span isDig (c :: r))
    else if c = 34 then (if r[span isIn r]? = some 34 ∧ span isIn r ≤ 60 then span isIn r + 2 else 0) else 0
theorem tokL_cons (c : Nat) (r : List Nat) : tokL (c :: r) = if isSign c = true then 1 else if isLet c = true then span isLet (c :: r) else if isDig c = true then (if c = 48 ∧ 1 < span isDig (c :: r) then 0 else span isDig (c :: r))
    else if c = 34 then (if r[span isIn r]? = some 34 ∧ span isIn r ≤ 60 then span isIn r + 2 else 0) else 0 := rfl
theorem tokL_le : ∀ (l : List Nat), tokL l ≤ l.length
  | [] => Nat.le_refl 0
  | c :: r => by
    have h1 := span_le isLet (c :: r)
    have h2 := span_le isDig (c :: r)
    rw [tokL_cons]
    split
    · simp
    · split
      · exact h1
      · split
        · split
          · exact Nat.zero_le _
          · exact h2
        · split
          · split
            · next h =>
              have := (List.getElem?_eq_some_iff.mp h.1).1
              rw [List.length_cons]
              omega
            · exact Nat.zero_le _
          · exact Nat.zero_le _

/-- all tokens, with their indexes; it ends where none begins -/
def scan (pos : Nat) (l : List Nat) : List (Nat × List Nat) :=
  if h : tokL (l.drop (skip l)) = 0 then [] else
    (pos + skip l, (l.drop (skip l)).take (tokL (l.drop (skip l)))) :: scan (pos + skip l + tokL (l.drop (skip l))) ((l.drop (skip l)).drop (tokL (l.drop (skip l))))
termination_by l.length
decreasing_by
  have h1 := tokL_le (l.drop (skip l))
  simp only [List.length_drop] at h1 ⊢
  omega
/-- nothing stands in the text that is no token and no gap -/
def clean (l : List Nat) : Bool :=
  if h : tokL (l.drop (skip l)) = 0 then decide (skip l = l.length) else clean ((l.drop (skip l)).drop (tokL (l.drop (skip l))))
termination_by l.length
decreasing_by
  have h1 := tokL_le (l.drop (skip l))
  simp only [List.length_drop] at h1 ⊢
  omega

theorem scan_end {pos : Nat} {l : List Nat} (h : tokL (l.drop (skip l)) = 0) : scan pos l = [] := by rw [scan, dif_pos h]
theorem scan_tok {pos : Nat} {l : List Nat} (h : tokL (l.drop (skip l)) ≠ 0) : scan pos l =
    (pos + skip l, (l.drop (skip l)).take (tokL (l.drop (skip l)))) :: scan (pos + skip l + tokL (l.drop (skip l))) ((l.drop (skip l)).drop (tokL (l.drop (skip l)))) := by
  rw [scan, dif_neg h]
theorem clean_end {l : List Nat} (h : tokL (l.drop (skip l)) = 0) : clean l = decide (skip l = l.length) := by rw [clean, dif_pos h]
theorem clean_tok {l : List Nat} (h : tokL (l.drop (skip l)) ≠ 0) : clean l = clean ((l.drop (skip l)).drop (tokL (l.drop (skip l)))) := by rw [clean, dif_neg h]

theorem scan_at {pos : Nat} {l m : List Nat} (e : l.drop (skip l) = m) (h : tokL m ≠ 0) : scan pos l = (pos + skip l, m.take (tokL m)) :: scan (pos + skip l + tokL m) (m.drop (tokL m)) := by
  subst e
  exact scan_tok h
theorem clean_at {l m : List Nat} (e : l.drop (skip l) = m) (h : tokL m ≠ 0) : clean l = clean (m.drop (tokL m)) := by
  subst e
  exact clean_tok h
/-- a gap ahead changes the indexes alone -/
theorem scan_shift {pos k : Nat} {l : List Nat} (h : skip l = k + skip (l.drop k)) : scan pos l = scan (pos + k) (l.drop k) := by
  obtain ⟨m, e1⟩ : ∃ m, l.drop (skip l) = m := ⟨_, rfl⟩
  have e2 : (l.drop k).drop (skip (l.drop k)) = m := by rw [List.drop_drop, ← h, e1]
  by_cases c : tokL m = 0
  · rw [scan_end (by rw [e1]; exact c), scan_end (by rw [e2]; exact c)]
  · have e : pos + (k + skip (l.drop k)) = pos + k + skip (l.drop k) := by omega
    rw [scan_at e1 c, scan_at e2 c, h, e]
theorem clean_shift {k : Nat} {l : List Nat} (h : skip l = k + skip (l.drop k)) (hk : k ≤ l.length) : clean l = clean (l.drop k) := by
  obtain ⟨m, e1⟩ : ∃ m, l.drop (skip l) = m := ⟨_, rfl⟩
  have e2 : (l.drop k).drop (skip (l.drop k)) = m := by rw [List.drop_drop, ← h, e1]
  by_cases c : tokL m = 0
  · rw [clean_end (by rw [e1]; exact c), clean_end (by rw [e2]; exact c), h, List.length_drop]
    by_cases z : k + skip (l.drop k) = l.length
    · rw [decide_eq_true z, decide_eq_true (by omega)]
    · rw [decide_eq_false z]
      exact (decide_eq_false (by omega)).symm
  · rw [clean_at e1 c, clean_at e2 c]

/-- at a sign that is none of a gap the tokens begin -/
theorem scan_here {pos c : Nat} {r : List Nat} (h : isGap c = false) (n : c ≠ 35) (t : tokL (c :: r) ≠ 0) :
    scan pos (c :: r) = (pos, (c :: r).take (tokL (c :: r))) :: scan (pos + tokL (c :: r)) ((c :: r).drop (tokL (c :: r))) := by
  have e := skip_none (r := r) h n
  have z := scan_at (pos := pos) (l := c :: r) (m := c :: r) (by rw [e]; rfl) t
  rw [e, Nat.add_zero] at z
  exact z
theorem clean_here {c : Nat} {r : List Nat} (h : isGap c = false) (n : c ≠ 35) (t : tokL (c :: r) ≠ 0) : clean (c :: r) = clean ((c :: r).drop (tokL (c :: r))) := by
  have e := skip_none (r := r) h n
  exact clean_at (l := c :: r) (m := c :: r) (by rw [e]; rfl) t
theorem clean_tokL {c : Nat} {r : List Nat} (h : isGap c = false) (n : c ≠ 35) (k : clean (c :: r) = true) : tokL (c :: r) ≠ 0 := by
  intro z
  have e := skip_none (r := r) h n
  rw [clean_end (l := c :: r) (by rw [e]; exact z), e] at k
  have := of_decide_eq_true k
  simp at this
theorem scan_nil (pos : Nat) : scan pos [] = [] := scan_end (by rw [skip_nil]; rfl)

theorem tokL_ne {l : List Nat} (h : tokL l ≠ 0) : l ≠ [] := by
  rintro rfl
  exact h rfl
end K2

namespace K2
open PySem PySem.Spec PyProof.Rows L2

def topS (i : Nat) : Stmt :=
  PySem.Challenge.pw_sourceback_k02_tokens_of_texts.main.body.getD i (.Pass ⟨0, 0, 0, 0⟩)
abbrev sInner : Stmt := topS 6
abbrev sTokens : Stmt := topS 7
abbrev sNext : Stmt := topS 8
abbrev sLine : Stmt := topS 9
abbrev sEnd : Stmt := topS 10
abbrev sRun : Stmt := topS 11
abbrev sStrEnd : Stmt := topS 12
abbrev sBox : Stmt := topS 14
abbrev sTake : Stmt := topS 15
abbrev sOf : Stmt := topS 16
abbrev sPlain : Stmt := topS 17
abbrev sSimple : Stmt := topS 18
abbrev sValue : Stmt := topS 19
abbrev sPaths : Stmt := topS 20
abbrev sBody : Stmt := topS 21
abbrev sLoop : Stmt := topS 22
abbrev sEntries : Stmt := topS 23
abbrev sBook : Stmt := topS 24
abbrev sLitS : Stmt := topS 25
abbrev sValS : Stmt := topS 26
abbrev sBodyS : Stmt := topS 27
abbrev sSigns : Stmt := topS 28
abbrev sText : Stmt := topS 29
abbrev sStrEndL : Stmt := topS 30
abbrev sTokEndL : Stmt := topS 31
abbrev sTokensL : Stmt := topS 32
abbrev sToken : Stmt := topS 33
abbrev sParts : Stmt := topS 34
abbrev sPut : Stmt := topS 35
abbrev sRight : Stmt := topS 36
abbrev sLaw : Stmt := topS 37

theorem scTake : FnScope ["_law_box_here", "_law_many", "_law_digit", "_law_mixed"] ["_law_box_here", "_law_many"]
    (defScope sTake) := ⟨rfl, rfl, rfl, by decide +kernel, rfl, by decide +kernel, by decide +kernel⟩

/-- a box of digits at b: what is left of the cell, the mixed number, the count of draws -/
def Box (c : Int) (H : Hp) (b : Addr) : Prop :=
  ∃ o m k : Int, H b = some (.lst [.int o, .int m, .int k]) ∧ (0 ≤ o ∧ o < 2 ^ 1100) ∧ (0 ≤ m ∧ m < 2 ^ 61) ∧ (0 ≤ k ∧ k ≤ c)
/-- all but b stands as before -/
def Kept (b : Addr) (H H' : Hp) : Prop := ∀ a o, H a = some o → a ≠ b → H' a = some o

theorem Kept.refl (b : Addr) (H : Hp) : Kept b H H := fun _ _ e _ => e
theorem Kept.trans {b : Addr} {H H' H'' : Hp} (x : Kept b H H') (y : Kept b H' H'') : Kept b H H'' :=
  fun a o e n => y a o (x a o e n) n
theorem Kept.upd {b : Addr} {H H' : Hp} {o : HO} (x : Kept b H H') : Kept b H (upd H' b o) := fun a u e n => by
  rw [upd_ne n]
  exact x a u e n

theorem small64 {x : Int} (h0 : 0 ≤ x) (h1 : x < 2 ^ 64) : -(2 ^ 64) < x ∧ x < 2 ^ 64 := ⟨by omega, h1⟩

theorem bits_le {x : Int} {n : Nat} (h : x.natAbs < 2 ^ n) (hn : 0 < n) : x.natAbs.log2 < n := PySem.Flt.log2_lt_of hn h

theorem pass_int {Q : V → Hp → Prop} {z : Int} {H : Hp} (h : ∀ x, x = z → Q (.int x) H) : Q (.int z) H := h z rfl

def spTake : Sp := fun vs H Q _ => ∃ (b : Addr) (n c : Int), vs = [.ref b, .int n] ∧ Box c H b ∧ 1 ≤ n ∧ n ≤ 2 ^ 20 ∧
  c ≤ 100000 ∧ ∀ H' r, Kept b H H' → Box (c + 1) H' b → 0 ≤ r → r < n → Q (.int r) H'

section
variable {P : Program} {w : World} {K : PySem.W.Frag} {mg : Str → Option Value} {base : Heap}

theorem ok_take {f : Addr} {fd : FuncData} (F : Fun K "_law_take" "_law_take" sTake f fd) :
    FnOk P w K mg base CX0 1 f fd ["_law_box_here", "_law_many"] spTake := by
  refine F.ok scTake (fun vs H Q E h => ?_) (fun cdv A outer s H vs Q E hr h => ?_)
  · obtain ⟨b, n, c, rfl, _⟩ := h
    rfl
  · obtain ⟨b, n, c, rfl, ⟨o, m, k, hb, ho, hm, hk⟩, n1, n2, hc, q⟩ := h
    refine ⟨_, pss_cons (ps_if (pt_cmpR op_gt (pe_ix ix_list (pv 0) pe_int (fun _ _ => rfl)) pe_int (nomark _))
        (pss_cons (ps_set (i := 2) scTake.nd rfl (.inl rfl)
            (pe_op op_mod (pe_ix ix_list (pv 0) pe_int (fun _ _ => rfl)) (pv 1)))
          (pss_cons (ps_asg (pe_op op_fdivW (pe_ix ix_list (pv 0) pe_int (fun _ _ => rfl)) (pv 1))
              (pg_sub (pv 0) pe_int set_list))
            (pss_one (ps_ret (pv 2))))) pss_nil)
      (pss_cons (ps_asg (pe_op op_add (pe_ix ix_list (pv 0) pe_int (fun _ _ => rfl)) pe_int)
          (pg_sub (pv 0) pe_int set_list))
      (pss_cons (ps_set (i := 3) scTake.nd rfl (.inl rfl)
          (pe_op op_mod (pe_op op_mul (pe_op op_add (pe_op op_add (pe_ix ix_list (pv 0) pe_int (fun _ _ => rfl))
              (pe_op op_mul (pe_op op_mul pe_int (pe_ix ix_list (pv 0) pe_int (fun _ _ => rfl)))
                (pe_ix ix_list (pv 0) pe_int (fun _ _ => rfl)))) pe_int) pe_int) pe_int))
      (pss_cons (ps_set (i := 3) scTake.nd rfl (.inl rfl)
          (pe_op op_mod (pe_op op_mul (pv 3) (pe_op op_add (pe_op op_mod (pv 3) pe_int)
            (pe_op op_mul pe_int (pe_ix ix_list (pv 0) pe_int (fun _ _ => rfl))))) pe_int))
      (pss_one (ps_ret (pe_op op_mod (pe_op op_add (pe_op op_fdiv (pv 3) pe_int) (pe_op op_fdiv (pv 3) pe_int))
        (pv 1))))))), ?_⟩
    have hB : SqL K H b [.int o, .int m, .int k] := SqL.of hb
    -- if box[0] > 0
    refine ⟨.ref b, rfl, b, _, 0, .int o, rfl, rfl, hB, atI_nat (j := 0) rfl, o, 0, rfl, rfl, _, rfl, ?_⟩
    refine ite2 (fun e => ?_) (fun e => ?_)
    · have ho0 : 0 < o := of_decide_eq_true e
      have hn0 : 0 < n := by omega
      refine ⟨.ref b, rfl, b, _, 0, .int o, rfl, rfl, hB, atI_nat (j := 0) rfl, .int n, rfl, o, n, rfl, rfl, hn0, ?_⟩
      -- box[0] = box[0] // many
      refine ⟨.ref b, rfl, b, _, 0, .int o, rfl, rfl, hB, atI_nat (j := 0) rfl, .int n, rfl, o, n, rfl, rfl,
        ⟨hn0, bits_le (n := 9000) (by omega) (by decide)⟩, ?_⟩
      refine ⟨.ref b, rfl, b, _, 0, 0, rfl, rfl, hb, rfl, ?_⟩
      refine ⟨.int (o % n), rfl, ?_⟩
      have d0 : 0 ≤ o / n := Int.ediv_nonneg ho.1 (by omega)
      have d1 : o / n ≤ o := Int.ediv_le_self _ ho.1
      exact q _ _ (Kept.refl b H).upd ⟨o / n, m, k, upd_same, ⟨d0, by omega⟩, hm, ⟨hk.1, by omega⟩⟩
        (Int.emod_nonneg _ (by omega)) (Int.emod_lt_of_pos _ hn0)
    · have hn0 : 0 < n := by omega
      -- box[2] = box[2] + 1
      refine ⟨.ref b, rfl, b, _, 2, .int k, rfl, rfl, hB, atI_nat (j := 2) rfl, k, 1, rfl, rfl, ?_⟩
      refine ⟨.ref b, rfl, b, _, 2, 2, rfl, rfl, hb, rfl, ?_⟩
      generalize hH1 : upd H b _ = H1
      have hb1 : H1 b = some (.lst [.int o, .int m, .int (k + 1)]) := by
        rw [← hH1, upd_same]
        rfl
      have hB1 : SqL K H1 b [.int o, .int m, .int (k + 1)] := SqL.of hb1
      have kp : Kept b H H1 := by
        rw [← hH1]
        exact (Kept.refl b H).upd
      have hk1 : 0 ≤ k + 1 := by omega
      have hk2 : k + 1 ≤ 100001 := by omega
      -- mixed
      refine ⟨.ref b, rfl, b, _, 1, .int m, rfl, rfl, hB1, atI_nat (j := 1) rfl, .ref b, rfl, b, _, 2, .int (k + 1), rfl, rfl,
        hB1, atI_nat (j := 2) rfl, 65551, k + 1, rfl, rfl, .inl ⟨by decide, by decide⟩, ?_⟩
      refine ⟨.ref b, rfl, b, _, 2, .int (k + 1), rfl, rfl, hB1, atI_nat (j := 2) rfl, 65551 * (k + 1), k + 1, rfl, rfl,
        .inr ⟨by omega, by omega⟩, ?_⟩
      refine ⟨m, 65551 * (k + 1) * (k + 1), rfl, rfl, m + 65551 * (k + 1) * (k + 1), 29, rfl, rfl, _, 48281, rfl, rfl,
        .inr ⟨by decide, by decide⟩, _, 2305843009213693921, rfl, rfl, by show (0 : Int) < 2305843009213693921; decide, ?_⟩
      show gName 3 (V.int ((m + 65551 * (k + 1) * (k + 1) + 29) * 48281 % 2305843009213693921)) _ H1 _
      generalize hx : (m + 65551 * (k + 1) * (k + 1) + 29) * 48281 % 2305843009213693921 = x
      have hx0 : 0 ≤ x := by
        rw [← hx]
        exact Int.emod_nonneg _ (by decide)
      have hx1 : x < 2305843009213693921 := by
        rw [← hx]
        exact Int.emod_lt_of_pos _ (by decide)
      -- mixed again
      refine ⟨.int x, rfl, .int x, rfl, x, 1000039, rfl, rfl, by show (0 : Int) < 1000039; decide, .ref b, rfl, b, _, 2, .int (k + 1), rfl, rfl,
        hB1, atI_nat (j := 2) rfl, 99989, k + 1, rfl, rfl, .inl ⟨by decide, by decide⟩, _, _, rfl, rfl, x, _, rfl, rfl,
        .inl ⟨by omega, by omega⟩, _, 2305843009213693907, rfl, rfl, by show (0 : Int) < 2305843009213693907; decide, ?_⟩
      show gName 3 (V.int (x * (x % 1000039 + 99989 * (k + 1)) % 2305843009213693907)) _ H1 _
      generalize hy : x * (x % 1000039 + 99989 * (k + 1)) % 2305843009213693907 = y
      -- the end
      refine ⟨.int y, rfl, y, 109, rfl, rfl, ⟨by decide, by decide⟩, .int y, rfl, y, 1000081, rfl, rfl, ⟨by decide, by decide⟩,
        _, _, rfl, rfl, .int n, rfl, _, n, rfl, rfl, hn0, ?_⟩
      exact q H1 _ kp ⟨o, m, k + 1, hb1, ho, hm, ⟨hk1, by omega⟩⟩ (Int.emod_nonneg _ (by omega)) (Int.emod_lt_of_pos _ hn0)
end
end K2

namespace K2
open PySem PySem.Spec PyProof.Rows L2

theorem scOf : FnScope ["_law_box_here", "_law_some"] ["_law_box_here", "_law_some"] (defScope sOf) :=
  ⟨rfl, rfl, rfl, by decide +kernel, rfl, by decide +kernel, by decide +kernel⟩
theorem scBox : FnScope ["_law_script", "_law_k", "_law_digits", "_law_own"] ["_law_script", "_law_k"] (defScope sBox) :=
  ⟨rfl, rfl, rfl, by decide +kernel, rfl, by decide +kernel, by decide +kernel⟩

/-- the names of the built-in things that the text reads: none is a name of its own -/
structure Bare (mg : Str → Option Value) : Prop where
  len : mg "len" = none
  abs : mg "abs" = none
  int : mg "int" = none
  isin : mg "isinstance" = none
  str : mg "str" = none
  all : mg "all" = none
  range : mg "range" = none
  list : mg "list" = none
  repr : mg "repr" = none
  max : mg "max" = none
  min : mg "min" = none

def spOf : Sp := fun vs H Q _ => ∃ (b l : Addr) (xs : List V) (c : Int), vs = [.ref b, .ref l] ∧ Box c H b ∧
  H l = some (.lst xs) ∧ l ≠ b ∧ 1 ≤ xs.length ∧ xs.length ≤ 1000 ∧ c ≤ 100000 ∧
  ∀ H' v, Kept b H H' → Box (c + 1) H' b → v ∈ xs → Q v H'

def spBox (K : PySem.W.Frag) : Sp := fun vs H Q _ => ∃ (a : Addr) (ns : List Int) (k : Int), vs = [.ref a, .int k] ∧
  SqL K H a (ns.map V.int) ∧ 0 ≤ k ∧ k ≤ 2 ∧ ∀ H' p, Same H H' → H p = none → Box 0 H' p → Q (.ref p) H'

section
variable {P : Program} {w : World} {K : PySem.W.Frag} {mg : Str → Option Value} {base : Heap}

theorem op_powB {X : Cx} : OpR X (binaryOp .Pow)
    (rI (fun i j => 0 ≤ j ∧ (Builtin.Int.intBits i : Int) * j ≤ 2 ^ 27) fun i j => .int (i ^ j.toNat)) :=
  opI fun _ _ _ _ _ _ _ hc q => pow_int hc.1 hc.2 q

theorem any_val {t : TE} {σ : L2.St} {H : Hp} {Q : VK} (h : ∀ Q' : VK, (∀ d : Int, Q' (.int d) H) → t σ H Q')
    (hq : ∀ d, Q (.int d) H) : t σ H Q := h Q hq
theorem same_upd {H : Hp} {p : Addr} {o : HO} (h : H p = none) : Same H (upd H p o) := fun b x e => by
  rw [upd_ne (ne_of_none e h)]
  exact e

theorem atI_toNat {xs : List V} {i : Int} {v : V} (h0 : 0 ≤ i) (h : xs[i.toNat]? = some v) : atI xs i = some v := by
  have e : i = ((i.toNat : Nat) : Int) := by omega
  rw [e]
  exact atI_nat h

theorem b01 (t : Bool) : -(2 ^ 64) < (if t then (1 : Int) else 0) ∧ (if t then (1 : Int) else 0) < 2 ^ 64 := by
  cases t <;> decide

theorem ok_of {f fT : Addr} {fd fdT : FuncData} (F : Fun K "_law_of" "_law_of" sOf f fd)
    (FT : Fun K "_law_take" "_law_take" sTake fT fdT) (bT : Binds K fdT ["_law_box_here", "_law_many"] [])
    (gT : mg "_law_take" = some (.ref fT)) (Z : Bare mg) :
    FnOk P w K mg base CX0 2 f fd ["_law_box_here", "_law_some"] spOf := by
  have GT : FnOk P w K mg base CX0 1 fT fdT ["_law_box_here", "_law_many"] spTake := ok_take FT
  refine F.ok scOf (fun vs H Q E h => ?_) (fun cdv A outer s H vs Q E hr h => ?_)
  · obtain ⟨b, l, xs, c, rfl, _⟩ := h
    rfl
  · obtain ⟨b, l, xs, c, rfl, hb, hl, nlb, n1, n2, hc, q⟩ := h
    refine ⟨_, pss_one (ps_ret (pe_ix ix_list (pv 1) (pe_call GT hr (by rfl) gT FT.kp bT .nil pass0
      (pa_cons (pv 0) (pa_cons (pe_callB call_len_seq (by rfl) Z.len PySem.boot_len (pa_cons (pv 1) pa_nil)) pa_nil)))
      (fun _ _ => rfl))), ?_⟩
    refine ⟨.ref l, rfl, .ref b, rfl, .ref l, rfl, l, xs, rfl, .inl (SqL.of hl), b, _, c, rfl, hb, by omega, by omega, hc, fun H' r kp hb' r0 r1 => ?_⟩
    have hl' : H' l = some (.lst xs) := kp _ _ hl nlb
    have hi : r.toNat < xs.length := by omega
    have er : r = ((r.toNat : Nat) : Int) := by omega
    refine ⟨l, xs, r, xs[r.toNat], rfl, rfl, SqL.of hl', ?_, q H' _ kp hb' (List.getElem_mem hi)⟩
    exact atI_toNat r0 (by simp [hi])

/-- own and mixed, for any digits -/
theorem own_lt (d : Int) (t : Bool) : 0 ≤ (if d < 0 then -d else d) % ((10 : Int) ^ (60 : Int).toNat) ^ (5 : Int).toNat * (if t then 1 else 0) ∧
    (if d < 0 then -d else d) % ((10 : Int) ^ (60 : Int).toNat) ^ (5 : Int).toNat * (if t then 1 else 0) < 2 ^ 1100 := by
  have h1 : (0 : Int) < ((10 : Int) ^ (60 : Int).toNat) ^ (5 : Int).toNat := by decide +kernel
  have h2 : ((10 : Int) ^ (60 : Int).toNat) ^ (5 : Int).toNat < 2 ^ 1100 := by decide +kernel
  generalize ((10 : Int) ^ (60 : Int).toNat) ^ (5 : Int).toNat = B at h1 h2 ⊢
  generalize (if d < 0 then -d else d) = x
  have h3 : 0 ≤ x % B := Int.emod_nonneg _ (by omega)
  have h4 : x % B < B := Int.emod_lt_of_pos _ h1
  cases t
  · simp only [Bool.false_eq_true, if_false, Int.mul_zero]
    exact ⟨Int.le_refl 0, by omega⟩
  · simp only [if_true, Int.mul_one]
    exact ⟨h3, by omega⟩

theorem ok_box {f : Addr} {fd : FuncData} (F : Fun K "_law_box" "_law_box" sBox f fd) (Z : Bare mg) :
    FnOk P w K mg base CX0 1 f fd ["_law_script", "_law_k"] (spBox K) := by
  refine F.ok scBox (fun vs H Q E h => ?_) (fun cdv A outer s H vs Q E hr h => ?_)
  · obtain ⟨a, ns, k, rfl, _⟩ := h
    rfl
  · obtain ⟨a, ns, k, rfl, hS, k0, k2, q⟩ := h
    refine ⟨_, pss_cons (ps_set (i := 2) scBox.nd rfl (.inl rfl)
        (pe_ifExp (pt_cmpR op_lt (pv 1) (pe_callB call_len_seq (by rfl) Z.len PySem.boot_len (pa_cons (pv 0) pa_nil)) (nomark _))
          (pe_ix ix_list (pv 0) (pv 1) (fun _ _ => rfl)) (pe_op op_add (pe_op op_mul pe_int (pv 1)) pe_int)))
      (pss_cons (ps_set (i := 3) scBox.nd rfl (.inl rfl)
        (pe_op op_mul (pe_op op_mod (pe_callB call_abs (by rfl) Z.abs (by decide +kernel) (pa_cons (pv 2) pa_nil))
            (pe_op op_powB (pe_op op_pow pe_int pe_int) pe_int))
          (pe_callTy call_int1 (by rfl) Z.int (by decide +kernel) (pa_cons (pe_cmpR op_ge
            (pe_callB call_abs (by rfl) Z.abs (by decide +kernel) (pa_cons (pv 2) pa_nil)) (pe_op op_pow pe_int pe_int) (nomark _)) pa_nil))))
      (pss_one (ps_ret (pe_lst (pa_cons (pv 3) (pa_cons
        (pe_op op_mod (pe_op op_add (pe_op op_add (pe_op op_mul (pe_op op_mod (pv 2) pe_int) pe_int)
          (pe_op op_mul (pe_op op_mul pe_int (pv 1)) (pv 1))) pe_int) pe_int) (pa_cons pe_int pa_nil))))))), ?_⟩
    show tIf _ _ _ _ _ _
    refine any_val (fun Qc hq => ?_) (fun d => ?_)
    · refine ⟨.int k, rfl, .ref a, rfl, a, _, rfl, .inl hS, k, _, rfl, rfl, _, rfl, ?_⟩
      refine ite2 (fun e => ?_) (fun e => ?_)
      · have e' : k < ((ns.map V.int).length : Int) := of_decide_eq_true e
        rw [List.length_map] at e'
        have hi : k.toNat < ns.length := by omega
        exact ⟨.ref a, rfl, .int k, rfl, a, _, k, .int ns[k.toNat], rfl, rfl, hS, atI_toNat k0 (by simp [hi]), hq _⟩
      · exact ⟨.int k, rfl, 37, k, rfl, rfl, .inl ⟨by decide, by decide⟩, 37 * k, 5, rfl, rfl, hq _⟩
    · -- own
      refine ⟨.int d, rfl, d, rfl, 10, 60, rfl, rfl, ⟨by decide, by decide, by decide⟩, _, 5, rfl, rfl, ⟨by decide, by decide +kernel⟩, _, _, rfl, rfl,
        (by show (0 : Int) < ((10 : Int) ^ (60 : Int).toNat) ^ (5 : Int).toNat; decide +kernel), ?_⟩
      refine ⟨.int d, rfl, d, rfl, 10, 18, rfl, rfl, ⟨by decide, by decide, by decide⟩, _, _, rfl, rfl, .inr ⟨_, rfl, _, _, rfl, rfl, .inr (b01 _), ?_⟩⟩
      show gName 3 (.int ((if d < 0 then -d else d) % ((10 : Int) ^ (60 : Int).toNat) ^ (5 : Int).toNat *
        (if decide ((10 : Int) ^ (18 : Int).toNat ≤ (if d < 0 then -d else d)) = true then 1 else 0))) _ H _
      have B := own_lt d (decide ((10 : Int) ^ (18 : Int).toNat ≤ (if d < 0 then -d else d)))
      revert B
      generalize (if d < 0 then -d else d) % ((10 : Int) ^ (60 : Int).toNat) ^ (5 : Int).toNat *
        (if decide ((10 : Int) ^ (18 : Int).toNat ≤ (if d < 0 then -d else d)) = true then 1 else 0) = o
      intro B
      -- the list
      refine ⟨.int o, rfl, .int d, rfl, d, 2305843009213693951, rfl, rfl, (by show (0 : Int) < 2305843009213693951; decide), _, 70079, rfl, rfl, .inr ⟨by decide, by decide⟩,
        .int k, rfl, 4799, k, rfl, rfl, .inl ⟨by decide, by decide⟩, .int k, rfl, 4799 * k, k, rfl, rfl, .inr ⟨by omega, by omega⟩, _, _, rfl, rfl, _, 71, rfl, rfl,
        _, 2305843009213693921, rfl, rfl, (by show (0 : Int) < 2305843009213693921; decide), (by show 3 ≤ sizeLine; decide), fun p hp => ?_⟩
      refine q _ p (same_upd hp) hp ⟨o, _, 0, upd_same, B, ⟨Int.emod_nonneg _ (by decide), ?_⟩, ⟨by decide, by decide⟩⟩
      exact Int.lt_trans (Int.emod_lt_of_pos _ (by decide)) (by decide)
end
end K2

set_option maxHeartbeats 2000000
/-! The program's own defs below `tokens`. -/
namespace K2
open PySem PySem.Spec PyProof.Rows L2

/-- the signs of a text -/
abbrev cp (x : Str) : List Nat := x.cps.toList
theorem cp_len (x : Str) : (cp x).length = x.length := by simp [cp, Str.length]
theorem cp_get (x : Str) (i : Nat) : x.cps[i]? = (cp x)[i]? := by simp [cp]
theorem drop_get {l : List Nat} {a i : Nat} : (l.drop a)[i]? = l[a + i]? := by rw [List.getElem?_drop]
theorem drop_at {l : List Nat} {a c : Nat} (h : l[a]? = some c) : l.drop a = c :: l.drop (a + 1) := by
  obtain ⟨lt, e⟩ := List.getElem?_eq_some_iff.mp h
  rw [List.drop_eq_getElem_cons lt, e]

def most : Nat := 2 ^ 19

/-! ### the first sign of a sort -/
theorem span_all {p : Nat → Bool} : ∀ {l : List Nat}, (∀ (i c : Nat), l[i]? = some c → p c = true) → span p l = l.length
  | [], _ => rfl
  | x :: r, h => by
    rw [span_pos (h 0 x rfl), span_all (l := r) fun i c e => h (i + 1) c e]
    rfl
theorem span_first {p : Nat → Bool} : ∀ {l : List Nat} {n c : Nat}, (∀ (i c : Nat), i < n → l[i]? = some c → p c = true) → l[n]? = some c → p c = false → span p l = n
  | [], _, _, _, h, _ => by simp at h
  | x :: r, 0, c, _, h, hc => by
    cases h
    exact span_neg hc
  | x :: r, n + 1, c, ha, h, hc => by
    rw [span_pos (ha 0 x (by omega) rfl), span_first (l := r) (n := n) (fun i c lt e => ha (i + 1) c (by omega) e) h hc]

theorem find3_sign (x : Str) (c a : Nat) (ha : a ≤ (cp x).length) :
    Txt.find3 x ⟨#[c]⟩ (a : Int) = if span (fun y => decide (y ≠ c)) ((cp x).drop a) = ((cp x).drop a).length then -1 else ((a + span (fun y => decide (y ≠ c)) ((cp x).drop a) : Nat) : Int) := by
  unfold Txt.find3
  have e0 : fromIndex x.length (a : Int) = a := by
    unfold fromIndex
    rw [if_neg (by omega)]
    omega
  rw [e0, StrLaws.occ_eq]
  have ll := cp_len x
  rcases StrLaws.occ_first x ⟨#[c]⟩ x.length 1 (Nat.le_refl 1) (List.range' a (x.length + 1 - a)) a (fun i hi => (List.mem_range'_1.mp hi).1) with ⟨e, n⟩ | ⟨pre, k, post, el, e, at_, n⟩
  · rw [e]
    have z : span (fun y => decide (y ≠ c)) ((cp x).drop a) = ((cp x).drop a).length := by
      refine span_all fun i d hd => decide_eq_true ?_
      rintro rfl
      rw [drop_get] at hd
      have lt := (List.getElem?_eq_some_iff.mp hd).1
      exact n (a + i) (List.mem_range'_1.mpr ⟨by omega, by omega⟩) ((StrLaws.subAt_one x d (a + i)).mpr hd)
    rw [if_pos z]
  · have hk : k = a + pre.length := by
      have := congrArg (fun l => l[pre.length]?) el
      simp only [List.getElem?_append_right (Nat.le_refl _), Nat.sub_self, List.getElem?_cons_zero] at this
      have lt : pre.length < x.length + 1 - a := by
        have := congrArg List.length el
        rw [List.length_range', List.length_append, List.length_cons] at this
        omega
      rw [List.getElem?_range' lt] at this
      have := Option.some.inj this
      omega
    have hc := (StrLaws.subAt_one x c k).mp at_
    have hs : span (fun y => decide (y ≠ c)) ((cp x).drop a) = pre.length := by
      refine span_first (c := c) (fun i d lt hd => decide_eq_true ?_) (by rw [drop_get, ← hk]; exact hc) (decide_eq_false (fun z => z rfl))
      rintro rfl
      rw [drop_get] at hd
      refine n (a + i) ?_ ((StrLaws.subAt_one x d (a + i)).mpr hd)
      have := congrArg (fun l => l[i]?) el
      simp only [List.getElem?_append_left lt] at this
      have lt2 : i < x.length + 1 - a := by
        have := congrArg List.length el
        rw [List.length_range', List.length_append, List.length_cons] at this
        omega
      rw [List.getElem?_range' lt2] at this
      rw [show a + i = a + 1 * i by omega]
      exact List.mem_of_getElem? this.symm
    have lk : k < (cp x).length := (List.getElem?_eq_some_iff.mp hc).1
    rw [hs, if_neg (by rw [List.length_drop]; omega), ← hk]
    generalize (forIn (m := Id) (List.range' a (x.length + 1 - a)) ((#[] : Array Nat), a) (StrLaws.occBody x ⟨#[c]⟩ x.length 1)).run.fst = O at e ⊢
    obtain ⟨l⟩ := O
    cases l with
    | nil => simp at e
    | cons y r =>
      have ey : y = k := by simpa using e
      subst ey
      rfl

theorem one_lt {c d : Nat} : decide ([c] < [d]) = decide (c < d) := by
  have e : ([c] < [d]) ↔ c < d := by
    rw [List.cons_lt_cons_iff]
    constructor
    · rintro (h | ⟨_, h⟩)
      · exact h
      · exact absurd h (List.not_lt_nil _)
    · exact fun h => .inl h
  by_cases h : c < d
  · rw [decide_eq_true h, decide_eq_true (e.mpr h)]
  · rw [decide_eq_false h, decide_eq_false (fun z => h (e.mp z))]

structure Names (mg : Str → Option Value) : Prop where
  let_ : ∃ t, mg "LETTERS" = some (.str "abcdefghijklmnopqrstuvwxyz" t)
  dig : ∃ t, mg "DIGITS" = some (.str "0123456789" t)
  sig : ∃ t, mg "SIGNS" = some (.str "{}[]():.,=+-*" t)
  quo : ∃ t, mg "QUOTE" = some (.str "\"" t)
  lng : ∃ t, mg "LONGEST_STRING" = some (.int 60 t)

theorem scInner : FnScope ["sign"] ["sign"] (defScope sInner) := ⟨rfl, rfl, rfl, by decide +kernel, rfl, by decide +kernel, by decide +kernel⟩
theorem scNext : FnScope ["text", "at"] ["text", "at"] (defScope sNext) := ⟨rfl, rfl, rfl, by decide +kernel, rfl, by decide +kernel, by decide +kernel⟩
theorem scLine : FnScope ["text", "at", "end"] ["text", "at"] (defScope sLine) := ⟨rfl, rfl, rfl, by decide +kernel, rfl, by decide +kernel, by decide +kernel⟩
theorem scEnd : FnScope ["text", "start", "sign", "end"] ["text", "start"] (defScope sEnd) := ⟨rfl, rfl, rfl, by decide +kernel, rfl, by decide +kernel, by decide +kernel⟩
theorem scRun : FnScope ["text", "at", "letters"] ["text", "at", "letters"] (defScope sRun) := ⟨rfl, rfl, rfl, by decide +kernel, rfl, by decide +kernel, by decide +kernel⟩
theorem scStrE : FnScope ["text", "start", "at"] ["text", "start"] (defScope sStrEnd) := ⟨rfl, rfl, rfl, by decide +kernel, rfl, by decide +kernel, by decide +kernel⟩

def spInner : Sp := fun vs H Q _ => ∃ c : Nat, vs = [.str ⟨#[c]⟩] ∧ Q (.bl (isIn c)) H
def spNext : Sp := fun vs H Q _ => ∃ (x : Str) (a : Nat), vs = [.str x, .int a] ∧ a ≤ (cp x).length ∧ (cp x).length ≤ most ∧ Q (.int ((a + skip ((cp x).drop a) : Nat) : Int)) H
def spLine : Sp := fun vs H Q _ => ∃ (x : Str) (a : Nat), vs = [.str x, .int a] ∧ a ≤ (cp x).length ∧ (cp x).length ≤ most ∧ Q (.int ((a + span noFeed ((cp x).drop a) : Nat) : Int)) H
def spRun : Sp := fun vs H Q _ => ∃ (x z : Str) (a : Nat), vs = [.str x, .int a, .str z] ∧ a ≤ (cp x).length ∧ (cp x).length ≤ most ∧ Q (.int ((a + span (fun c => decide (c ∈ cp z)) ((cp x).drop a) : Nat) : Int)) H
def strE (l : List Nat) (a : Nat) : Nat := if (l.drop (a + 1))[span isIn (l.drop (a + 1))]? = some 34 ∧ span isIn (l.drop (a + 1)) ≤ 60 then a + (span isIn (l.drop (a + 1)) + 2) else a
def spStrE : Sp := fun vs H Q _ => ∃ (x : Str) (a : Nat), vs = [.str x, .int a] ∧ a < (cp x).length ∧ (cp x).length ≤ most ∧ Q (.int ((strE (cp x) a : Nat) : Int)) H
def spEnd : Sp := fun vs H Q _ => ∃ (x : Str) (a : Nat), vs = [.str x, .int a] ∧ a < (cp x).length ∧ (cp x).length ≤ most ∧ Q (.int ((a + tokL ((cp x).drop a) : Nat) : Int)) H

section
variable {P : Program} {w : World} {K : PySem.W.Frag} {mg : Str → Option Value} {base : Heap}

theorem ok_inner {f : Addr} {fd : FuncData} (F : Fun K "is_inner" "is_inner" sInner f fd) (Z : Names mg) :
    FnOk P w K mg base CX0 1 f fd ["sign"] spInner := by
  obtain ⟨tq, gq⟩ := Z.quo
  refine F.ok scInner (fun vs H Q E h => ?_) (fun cdv A outer s H vs Q E hr h => ?_)
  · obtain ⟨c, rfl, _⟩ := h
    rfl
  · obtain ⟨c, rfl, q⟩ := h
    refine ⟨_, pss_one (ps_ret (pe_and (pe_chain op_le_str op_le_str pe_str (pv 0) pe_str)
      (pe_and (pe_cmpR op_ne (pv 0) (pe_glob (v := .str "\"") rfl gq ⟨_, rfl⟩) (nomark _)) (pe_one (pe_cmpR op_ne (pv 0) pe_str (nomark _)))))), ?_⟩
    have e0 : isIn c = (!decide ([c] < [32]) && (!decide ([126] < [c]) && (!decide (V.str ⟨#[c]⟩ = V.str "\"") && !decide (V.str ⟨#[c]⟩ = V.str "\\")))) := by
      have ea : decide (V.str ⟨#[c]⟩ = V.str "\"") = decide (c = 34) := by
        rw [show ("\"" : Str) = ⟨#[34]⟩ by decide +kernel]
        by_cases h : c = 34
        · subst h; rfl
        · rw [decide_eq_false h, decide_eq_false (by intro z; cases z; exact h rfl)]
      have eb : decide (V.str ⟨#[c]⟩ = V.str "\\") = decide (c = 92) := by
        rw [show ("\\" : Str) = ⟨#[92]⟩ by decide +kernel]
        by_cases h : c = 92
        · subst h; rfl
        · rw [decide_eq_false h, decide_eq_false (by intro z; cases z; exact h rfl)]
      rw [one_lt, one_lt, ea, eb, Bool.eq_iff_iff]
      simp [isIn]
      omega
    rw [e0] at q
    refine ⟨.str ⟨#[c]⟩, rfl, _, _, rfl, rfl, _, rfl, ?_⟩
    refine ite2 (fun e1 => ?_) (fun e1 => ?_)
    · have e1' : (!decide ([c] < [32])) = true := e1
      rw [e1', Bool.true_and] at q
      refine ⟨_, _, rfl, rfl, _, rfl, ?_⟩
      refine ite2 (fun e2 => ?_) (fun e2 => ?_)
      · have e2' : (!decide ([126] < [c])) = true := e2
        rw [e2', Bool.true_and] at q
        refine ⟨.str ⟨#[c]⟩, rfl, rfl, _, rfl, ?_⟩
        refine ite2 (fun e3 => ?_) (fun e3 => ?_)
        · rw [e3, Bool.true_and] at q
          exact ⟨.str ⟨#[c]⟩, rfl, rfl, q⟩
        · rw [Bool.eq_false_iff.mpr e3, Bool.false_and] at q
          exact q
      · have e2' : (!decide ([126] < [c])) = false := Bool.eq_false_iff.mpr e2
        rw [e2', Bool.false_and] at q
        exact q
    · have e1' : (!decide ([c] < [32])) = false := Bool.eq_false_iff.mpr e1
      rw [e1', Bool.false_and] at q
      exact ⟨false, rfl, iteF q⟩

theorem most_line {n : Nat} (h : n ≤ most) : n ≤ sizeLine := Nat.le_trans h (by decide)
theorem most63 {n : Nat} (h : n ≤ most) : (n : Int) < 2 ^ 63 := by
  have : n ≤ 2 ^ 19 := h
  omega

/-- at < len(text) -/
theorem lt_dec (x : Str) (a : Nat) : decide ((a : Int) < ((x.length : Nat) : Int)) = decide (a < (cp x).length) := by
  rw [cp_len]
  by_cases h : a < x.length
  · rw [decide_eq_true h, decide_eq_true (by omega)]
  · rw [decide_eq_false h, decide_eq_false (by omega)]

theorem ok_line {f : Addr} {fd : FuncData} (F : Fun K "line_end" "line_end" sLine f fd) (Z : Bare mg) :
    FnOk P w K mg base CX0 1 f fd ["text", "at"] spLine := by
  refine F.ok scLine (fun vs H Q E h => ?_) (fun cdv A outer s H vs Q E hr h => ?_)
  · obtain ⟨x, a, rfl, _⟩ := h
    rfl
  · obtain ⟨x, a, rfl, ha, hl, q⟩ := h
    refine ⟨_, pss_cons (ps_set (i := 2) scLine.nd rfl (.inl rfl) (pe_bm PySem.F.plainAttrs_str PySem.F.slot_str_find PySem.F.type_str_find mt_find3 (pv 0) (pa_cons pe_str (pa_cons (pv 1) pa_nil))))
      (pss_one (ps_ret (pe_ifExp (pt_cmpR op_lt (pv 2) pe_int (nomark _)) (pe_callB call_len_str (by rfl) Z.len PySem.boot_len (pa_cons (pv 0) pa_nil)) (pv 2)))), ?_⟩
    refine ⟨.str x, rfl, rfl, .int a, rfl, x, _, _, rfl, rfl, ?_⟩
    have e : noFeed = fun y => decide (y ≠ 10) := rfl
    have ef := find3_sign x 10 a ha
    rw [← e] at ef
    show gName 2 (V.int (Txt.find3 x ⟨#[10]⟩ (a : Int))) _ _ _
    rw [ef]
    have sl := span_le noFeed ((cp x).drop a)
    by_cases z : span noFeed ((cp x).drop a) = ((cp x).drop a).length
    · rw [if_pos z]
      refine ⟨.int (-1), rfl, _, _, rfl, rfl, _, rfl, iteT ⟨.str x, rfl, x, rfl, most_line (by rw [← cp_len]; exact hl), ?_⟩⟩
      rw [z, List.length_drop, show a + ((cp x).length - a) = x.length by rw [← cp_len]; omega] at q
      exact q
    · rw [if_neg z]
      refine ⟨_, rfl, _, _, rfl, rfl, _, rfl, ?_⟩
      rw [decide_eq_false (by omega)]
      exact iteF ⟨_, rfl, q⟩

theorem ok_run {f : Addr} {fd : FuncData} (F : Fun K "run_end" "run_end" sRun f fd) (Z : Bare mg) :
    FnOk P w K mg base CX0 1 f fd ["text", "at", "letters"] spRun := by
  refine F.ok scRun (fun vs H Q E h => ?_) (fun cdv A outer s H vs Q E hr h => ?_)
  · obtain ⟨x, z, a, rfl, _⟩ := h
    rfl
  · obtain ⟨x, z, a, rfl, ha, hl, q⟩ := h
    refine ⟨_, pss_cons (ps_while PassesOwn.never
        (PW.pt (pw_and (pt_cmpR op_lt (pv 1) (pe_callB call_len_str (by rfl) Z.len PySem.boot_len (pa_cons (pv 0) pa_nil)) (nomark _))
          (pw_and1 (pt_cmpR op_in_sign (pe_item_str (pv 0) (pv 1) (fun _ _ => rfl)) (pv 2) (by with_unfolding_all rfl)))))
        (pss_one (ps_aug (i := 1) scRun.nd rfl (.inl rfl) pe_int ip_add)))
      (pss_one (ps_ret (pv 1))), ?_⟩
    generalize hp : (fun c => decide (c ∈ cp z)) = p at q
    refine ⟨fun m σ H' => ∃ b : Nat, m = (cp x).length - b ∧ σ = [some (.str x), some (.int b), some (.str z)] ∧ H = H' ∧ b ≤ (cp x).length ∧ b + span p ((cp x).drop b) = a + span p ((cp x).drop a), ⟨_, a, rfl, rfl, rfl, ha, rfl⟩, ?_⟩
    rintro m σ H' ⟨b, rfl, rfl, rfl, hb, he⟩
    refine ⟨.int b, rfl, .str x, rfl, x, rfl, most_line (by rw [← cp_len]; exact hl), _, _, rfl, rfl, _, rfl, ?_⟩
    rw [lt_dec]
    refine ite2 (fun e1 => ?_) (fun e1 => ?_)
    · have lt : b < (cp x).length := of_decide_eq_true e1
      have hc : (cp x)[b]? = some ((cp x)[b]) := List.getElem?_eq_getElem lt
      generalize (cp x)[b] = c at hc
      have m63 := most63 hl
      refine ⟨.str x, rfl, .int b, rfl, x, b, c, rfl, rfl, by omega, by omega, by rw [← cp_len]; omega, by rw [cp_get]; exact hc, .str z, rfl, c, z, rfl, rfl, _, rfl, ?_⟩
      have ec : decide (c ∈ z.cps.toList) = p c := by rw [← hp]
      rw [ec]
      cases hpc : p c with
      | true =>
        refine iteT ⟨fun σ' H' => ∃ m', m' < (cp x).length - b ∧ ∃ b : Nat, m' = (cp x).length - b ∧ σ' = [some (.str x), some (.int b), some (.str z)] ∧ H = H' ∧ b ≤ (cp x).length ∧ b + span p ((cp x).drop b) = a + span p ((cp x).drop a), fun _ _ w => w, ?_⟩
        refine ⟨.int b, rfl, b, 1, rfl, rfl, (cp x).length - (b + 1), by omega, b + 1, rfl, rfl, rfl, lt, ?_⟩
        rw [← he, drop_at hc, span_pos hpc]
        omega
      | false =>
        rw [drop_at hc, span_neg hpc] at he
        refine iteF ⟨.int b, rfl, ?_⟩
        rw [show b = a + span p ((cp x).drop a) by omega]
        exact q
    · have ge : ¬ b < (cp x).length := fun z => e1 (decide_eq_true z)
      rw [List.drop_eq_nil_of_le (by omega), span_nil] at he
      refine ⟨.int b, rfl, ?_⟩
      rw [show b = a + span p ((cp x).drop a) by omega]
      exact q

theorem pure_str (z : Str) (L : List Nat) (f : Nat → Bool) (hz : cp z = L) (ha : ∀ c ∈ L, c < 128) (hb : ∀ c, f c = true → c < 128) (hs : ∀ c, c < 128 → L.contains c = f c) (c : Nat) :
    decide (c ∈ cp z) = f c := by
  rw [hz, Bool.eq_iff_iff, decide_eq_true_iff]
  constructor
  · intro h
    rw [← hs c (ha c h)]
    exact List.contains_iff_mem.mpr h
  · intro h
    rw [← hs c (hb c h)] at h
    exact List.contains_iff_mem.mp h
theorem letters_is (c : Nat) : decide (c ∈ cp ("abcdefghijklmnopqrstuvwxyz" : Str)) = isLet c :=
  pure_str _ (List.range' 97 26) isLet (by decide +kernel) (by decide +kernel) (fun c h => by simp [isLet] at h; omega) (by decide +kernel) c
theorem digits_is (c : Nat) : decide (c ∈ cp ("0123456789" : Str)) = isDig c :=
  pure_str _ (List.range' 48 10) isDig (by decide +kernel) (by decide +kernel) (fun c h => by simp [isDig] at h; omega) (by decide +kernel) c
theorem signs_is (c : Nat) : decide (c ∈ cp ("{}[]():.,=+-*" : Str)) = isSign c :=
  pure_str _ signs isSign (by decide +kernel) (by decide +kernel) (fun c h => by
    exact (show ∀ d ∈ signs, d < 128 by decide +kernel) c (List.contains_iff_mem.mp h)) (by decide +kernel) c
def isLead (c : Nat) : Bool := isGap c || decide (c = 35)
theorem lead_is (c : Nat) : decide (c ∈ cp (" \n#" : Str)) = isLead c :=
  pure_str _ [32, 10, 35] isLead (by decide +kernel) (by decide +kernel) (fun c h => by simp [isLead, isGap] at h; omega) (by decide +kernel) c

theorem dec_sign (c d : Nat) (z : Str) (hz : z = ⟨#[d]⟩) : decide (V.str ⟨#[c]⟩ = V.str z) = decide (c = d) := by
  subst hz
  by_cases h : c = d
  · subst h
    rw [decide_eq_true rfl, decide_eq_true rfl]
  · rw [decide_eq_false h, decide_eq_false (by intro z; cases z; exact h rfl)]

theorem ok_next {f fL : Addr} {fd fdL : FuncData} (F : Fun K "next_start" "next_start" sNext f fd) (Z : Bare mg)
    (FL : Fun K "line_end" "line_end" sLine fL fdL) (bL : Binds K fdL ["text", "at"] []) (gL : mg "line_end" = some (.ref fL)) :
    FnOk P w K mg base CX0 2 f fd ["text", "at"] spNext := by
  have GL : FnOk P w K mg base CX0 1 fL fdL ["text", "at"] spLine := ok_line FL Z
  refine F.ok scNext (fun vs H Q E h => ?_) (fun cdv A outer s H vs Q E hr h => ?_)
  · obtain ⟨x, a, rfl, _⟩ := h
    rfl
  · obtain ⟨x, a, rfl, ha, hl, q⟩ := h
    refine ⟨_, pss_cons (ps_while PassesOwn.never
        (PW.pt (pw_and (pt_cmpR op_lt (pv 1) (pe_callB call_len_str (by rfl) Z.len PySem.boot_len (pa_cons (pv 0) pa_nil)) (nomark _))
          (pw_and1 (pt_cmpR op_in_sign (pe_item_str (pv 0) (pv 1) (fun _ _ => rfl)) pe_str (by with_unfolding_all rfl)))))
        (pss_one (ps_if (pt_cmpR op_eq (pe_item_str (pv 0) (pv 1) (fun _ _ => rfl)) pe_str (nomark _))
          (pss_one (ps_set (i := 1) scNext.nd rfl (.inl rfl) (pe_call GL hr (by rfl) gL FL.kp bL .nil pass0 (pa_cons (pv 0) (pa_cons (pv 1) pa_nil)))))
          (pss_one (ps_aug (i := 1) scNext.nd rfl (.inl rfl) pe_int ip_add)))))
      (pss_one (ps_ret (pv 1))), ?_⟩
    refine ⟨fun m σ H' => ∃ b : Nat, m = (cp x).length - b ∧ σ = [some (.str x), some (.int b)] ∧ H = H' ∧ b ≤ (cp x).length ∧ b + skip ((cp x).drop b) = a + skip ((cp x).drop a), ⟨_, a, rfl, rfl, rfl, ha, rfl⟩, ?_⟩
    rintro m σ H' ⟨b, rfl, rfl, rfl, hb, he⟩
    refine ⟨.int b, rfl, .str x, rfl, x, rfl, most_line (by rw [← cp_len]; exact hl), _, _, rfl, rfl, _, rfl, ?_⟩
    rw [lt_dec]
    refine ite2 (fun e1 => ?_) (fun e1 => ?_)
    · have lt : b < (cp x).length := of_decide_eq_true e1
      have hc : (cp x)[b]? = some ((cp x)[b]) := List.getElem?_eq_getElem lt
      generalize (cp x)[b] = c at hc
      have m63 := most63 hl
      have lt' : (b : Int) < x.length := by rw [← cp_len]; omega
      have hc' : x.cps[(b : Int).toNat]? = some c := by rw [cp_get]; exact hc
      refine ⟨.str x, rfl, .int b, rfl, x, b, c, rfl, rfl, by omega, by omega, lt', hc', c, _, rfl, rfl, _, rfl, ?_⟩
      rw [lead_is]
      refine ite2 (fun e2 => ?_) (fun e2 => ?_)
      · refine ⟨fun σ' H' => ∃ m', m' < (cp x).length - b ∧ ∃ b : Nat, m' = (cp x).length - b ∧ σ' = [some (.str x), some (.int b)] ∧ H = H' ∧ b ≤ (cp x).length ∧ b + skip ((cp x).drop b) = a + skip ((cp x).drop a), fun _ _ w => w, ?_⟩
        refine ⟨.str x, rfl, .int b, rfl, x, b, c, rfl, rfl, by omega, by omega, lt', hc', rfl, _, rfl, ?_⟩
        rw [dec_sign c 35 _ (by decide +kernel)]
        refine ite2 (fun e3 => ?_) (fun e3 => ?_)
        · have ec : c = 35 := of_decide_eq_true e3
          subst ec
          refine ⟨.str x, rfl, .int b, rfl, x, b, rfl, hb, hl, ?_⟩
          have e5 : noFeed 35 = true := by decide
          have e4 : span noFeed ((cp x).drop b) = span noFeed ((cp x).drop (b + 1)) + 1 := by rw [drop_at hc, span_pos e5]
          have e6 : span noFeed ((cp x).drop (b + 1)) ≤ ((cp x).drop (b + 1)).length := span_le _ _
          rw [List.length_drop] at e6
          refine ⟨(cp x).length - (b + span noFeed ((cp x).drop b)), by omega, b + span noFeed ((cp x).drop b), rfl, rfl, rfl, by omega, ?_⟩
          rw [← he, drop_at hc, skip_hash, ← drop_at hc, e4, List.drop_drop, show b + (span noFeed ((cp x).drop (b + 1)) + 1) = b + 1 + span noFeed ((cp x).drop (b + 1)) by omega]
          omega
        · have ec : c ≠ 35 := fun z => e3 (decide_eq_true z)
          have g : isGap c = true := by
            have e2' : (isGap c || decide (c = 35)) = true := e2
            rw [decide_eq_false ec, Bool.or_false] at e2'
            exact e2'
          refine ⟨.int b, rfl, b, 1, rfl, rfl, (cp x).length - (b + 1), by omega, b + 1, rfl, rfl, rfl, lt, ?_⟩
          rw [← he, drop_at hc, skip_gap g]
          omega
      · have e2' : (isGap c || decide (c = 35)) = false := Bool.eq_false_iff.mpr e2
        rw [Bool.or_eq_false_iff] at e2'
        rw [drop_at hc, skip_none e2'.1 (of_decide_eq_false e2'.2)] at he
        refine ⟨.int b, rfl, ?_⟩
        rw [show b = a + skip ((cp x).drop a) by omega]
        exact q
    · have ge : ¬ b < (cp x).length := fun z => e1 (decide_eq_true z)
      rw [List.drop_eq_nil_of_le (by omega), skip_nil] at he
      refine ⟨.int b, rfl, ?_⟩
      rw [show b = a + skip ((cp x).drop a) by omega]
      exact q

theorem ok_strE {f fI : Addr} {fd fdI : FuncData} (F : Fun K "string_end" "string_end" sStrEnd f fd) (Z : Bare mg) (N : Names mg)
    (FI : Fun K "is_inner" "is_inner" sInner fI fdI) (bI : Binds K fdI ["sign"] []) (gI : mg "is_inner" = some (.ref fI)) :
    FnOk P w K mg base CX0 2 f fd ["text", "start"] spStrE := by
  have GI : FnOk P w K mg base CX0 1 fI fdI ["sign"] spInner := ok_inner FI N
  obtain ⟨tq, gq⟩ := N.quo
  obtain ⟨tl, gl⟩ := N.lng
  refine F.ok scStrE (fun vs H Q E h => ?_) (fun cdv A outer s H vs Q E hr h => ?_)
  · obtain ⟨x, a, rfl, _⟩ := h
    rfl
  · obtain ⟨x, a, rfl, ha, hl, q⟩ := h
    refine ⟨_, pss_cons (ps_set (i := 2) scStrE.nd rfl (.inl rfl) (pe_op op_add (pv 1) pe_int))
      (pss_cons (ps_while PassesOwn.never
        (PW.pt (pw_and (pt_cmpR op_lt (pv 2) (pe_callB call_len_str (by rfl) Z.len PySem.boot_len (pa_cons (pv 0) pa_nil)) (nomark _))
          (pw_and1 (pt_val (pe_call GI hr (by rfl) gI FI.kp bI .nil pass0 (pa_cons (pe_item_str (pv 0) (pv 2) (fun _ _ => rfl)) pa_nil))))))
        (pss_one (ps_aug (i := 2) scStrE.nd rfl (.inl rfl) pe_int ip_add)))
      (pss_cons (ps_if (PW.pt (pw_or (pt_cmpR op_eq (pv 2) (pe_callB call_len_str (by rfl) Z.len PySem.boot_len (pa_cons (pv 0) pa_nil)) (nomark _))
          (pw_or (pt_cmpR op_ne (pe_item_str (pv 0) (pv 2) (fun _ _ => rfl)) (pe_glob (v := .str "\"") rfl gq ⟨_, rfl⟩) (nomark _))
            (pw_or1 (pt_cmpR op_gt (pe_op op_sub (pe_op op_sub (pv 2) (pv 1)) pe_int) (pe_glob (v := .int 60) rfl gl ⟨_, rfl⟩) (nomark _))))))
        (pss_one (ps_ret (pv 1))) pss_nil)
      (pss_one (ps_ret (pe_op op_add (pv 2) pe_int))))), ?_⟩
    refine ⟨.int a, rfl, _, _, rfl, rfl, ?_⟩
    obtain ⟨n, hn⟩ : ∃ n, n = span isIn ((cp x).drop (a + 1)) := ⟨_, rfl⟩
    have nl : n ≤ (cp x).length - (a + 1) := by
      rw [hn, ← List.length_drop]
      exact span_le _ _
    have ll : x.length = (cp x).length := (cp_len x).symm
    have m63 := most63 hl
    unfold strE at q
    rw [← hn] at q
    refine ⟨fun m σ H' => ∃ b : Nat, m = (cp x).length - b ∧ σ = [some (.str x), some (.int a), some (.int b)] ∧ H = H' ∧ b ≤ (cp x).length ∧ b + span isIn ((cp x).drop b) = a + 1 + n, ⟨_, a + 1, rfl, rfl, rfl, ha, by rw [hn]⟩, ?_⟩
    rintro m σ H' ⟨b, rfl, rfl, rfl, hb, he⟩
    refine ⟨.int b, rfl, .str x, rfl, x, rfl, most_line (by rw [← cp_len]; exact hl), _, _, rfl, rfl, _, rfl, ?_⟩
    rw [lt_dec]
    refine ite2 (fun e1 => ?_) (fun e1 => ?_)
    · have lt : b < (cp x).length := of_decide_eq_true e1
      have hc : (cp x)[b]? = some ((cp x)[b]) := List.getElem?_eq_getElem lt
      generalize (cp x)[b] = c at hc
      have lt' : (b : Int) < x.length := by rw [← cp_len]; omega
      have hc' : x.cps[(b : Int).toNat]? = some c := by rw [cp_get]; exact hc
      refine ⟨.str x, rfl, .int b, rfl, x, b, c, rfl, rfl, by omega, by omega, lt', hc', c, rfl, _, rfl, ?_⟩
      cases hin : isIn c with
      | true =>
        refine iteT ⟨fun σ' H' => ∃ m', m' < (cp x).length - b ∧ ∃ b : Nat, m' = (cp x).length - b ∧ σ' = [some (.str x), some (.int a), some (.int b)] ∧ H = H' ∧ b ≤ (cp x).length ∧ b + span isIn ((cp x).drop b) = a + 1 + n, fun _ _ w => w, ?_⟩
        refine ⟨.int b, rfl, b, 1, rfl, rfl, (cp x).length - (b + 1), by omega, b + 1, rfl, rfl, rfl, lt, ?_⟩
        rw [← he, drop_at hc, span_pos hin]
        omega
      | false =>
        rw [drop_at hc, span_neg hin] at he
        have eb : b = a + 1 + n := by omega
        rw [drop_get, ← eb, hc] at q
        have nq : decide (V.int (b : Int) = V.int (x.length : Int)) = false := decide_eq_false (by intro z; cases z; omega)
        refine iteF ⟨.int b, rfl, .str x, rfl, x, rfl, most_line (by rw [← cp_len]; exact hl), rfl, _, rfl, ?_⟩
        rw [nq]
        refine iteF ⟨.str x, rfl, .int b, rfl, x, b, c, rfl, rfl, by omega, by omega, lt', hc', rfl, _, rfl, ?_⟩
        rw [dec_sign c 34 _ (by decide +kernel)]
        by_cases ec : c = 34
        · subst ec
          refine iteF ⟨.int b, rfl, .int a, rfl, _, _, rfl, rfl, _, _, rfl, rfl, _, _, rfl, rfl, _, rfl, ?_⟩
          by_cases e6 : n ≤ 60
          · rw [if_pos ⟨rfl, e6⟩] at q
            rw [decide_eq_false (by omega)]
            refine iteF ⟨.int b, rfl, _, _, rfl, rfl, ?_⟩
            rw [show ((a + (n + 2) : Nat) : Int) = (b : Int) + 1 by omega] at q
            exact q
          · rw [if_neg (fun z => e6 z.2)] at q
            rw [decide_eq_true (by omega)]
            exact iteT ⟨.int a, rfl, q⟩
        · rw [if_neg (fun z => ec (Option.some.inj z.1))] at q
          rw [decide_eq_false ec]
          exact iteT (iteT ⟨.int a, rfl, q⟩)
    · have ge : ¬ b < (cp x).length := fun z => e1 (decide_eq_true z)
      rw [List.drop_eq_nil_of_le (by omega), span_nil] at he
      have eb : b = a + 1 + n := by omega
      rw [drop_get, ← eb, List.getElem?_eq_none (by omega), if_neg (fun z => nomatch z.1)] at q
      have nq : decide (V.int (b : Int) = V.int (x.length : Int)) = true := decide_eq_true (by rw [show (b : Int) = (x.length : Int) by omega])
      refine iteF ⟨.int b, rfl, .str x, rfl, x, rfl, most_line (by rw [← cp_len]; exact hl), rfl, _, rfl, ?_⟩
      rw [nq]
      exact iteT (iteT ⟨.int a, rfl, q⟩)

theorem ok_end {f fI fR fS : Addr} {fd fdI fdR fdS : FuncData} (F : Fun K "token_end" "token_end" sEnd f fd) (Z : Bare mg) (N : Names mg)
    (FI : Fun K "is_inner" "is_inner" sInner fI fdI) (bI : Binds K fdI ["sign"] []) (gI : mg "is_inner" = some (.ref fI))
    (FR : Fun K "run_end" "run_end" sRun fR fdR) (bR : Binds K fdR ["text", "at", "letters"] []) (gR : mg "run_end" = some (.ref fR))
    (FS : Fun K "string_end" "string_end" sStrEnd fS fdS) (bS : Binds K fdS ["text", "start"] []) (gS : mg "string_end" = some (.ref fS)) :
    FnOk P w K mg base CX0 3 f fd ["text", "start"] spEnd := by
  have GR : FnOk P w K mg base CX0 1 fR fdR ["text", "at", "letters"] spRun := ok_run FR Z
  have GS : FnOk P w K mg base CX0 2 fS fdS ["text", "start"] spStrE := ok_strE FS Z N FI bI gI
  obtain ⟨tq, gq⟩ := N.quo
  obtain ⟨ta, ga⟩ := N.let_
  obtain ⟨td, gd⟩ := N.dig
  obtain ⟨ts, gs⟩ := N.sig
  refine F.ok scEnd (fun vs H Q E h => ?_) (fun cdv A outer s H vs Q E hr h => ?_)
  · obtain ⟨x, a, rfl, _⟩ := h
    rfl
  · obtain ⟨x, a, rfl, ha, hl, q⟩ := h
    refine ⟨_, pss_cons (ps_set (i := 2) scEnd.nd rfl (.inl rfl) (pe_item_str (pv 0) (pv 1) (fun _ _ => rfl)))
      (pss_cons (ps_if (pt_cmpR op_in_sign (pv 2) (pe_glob (v := .str "{}[]():.,=+-*") rfl gs ⟨_, rfl⟩) (by with_unfolding_all rfl))
        (pss_one (ps_ret (pe_op op_add (pv 1) pe_int))) pss_nil)
      (pss_cons (ps_if (pt_cmpR op_in_sign (pv 2) (pe_glob (v := .str "abcdefghijklmnopqrstuvwxyz") rfl ga ⟨_, rfl⟩) (by with_unfolding_all rfl))
        (pss_one (ps_ret (pe_call GR (hr.mono (by decide)) (by rfl) gR FR.kp bR .nil pass0 (pa_cons (pv 0) (pa_cons (pv 1) (pa_cons (pe_glob (v := .str "abcdefghijklmnopqrstuvwxyz") rfl ga ⟨_, rfl⟩) pa_nil)))))) pss_nil)
      (pss_cons (ps_if (pt_cmpR op_in_sign (pv 2) (pe_glob (v := .str "0123456789") rfl gd ⟨_, rfl⟩) (by with_unfolding_all rfl))
        (pss_cons (ps_set (i := 3) scEnd.nd rfl (.inl rfl) (pe_call GR (hr.mono (by decide)) (by rfl) gR FR.kp bR .nil pass0 (pa_cons (pv 0) (pa_cons (pv 1) (pa_cons (pe_glob (v := .str "0123456789") rfl gd ⟨_, rfl⟩) pa_nil)))))
          (pss_one (ps_ret (pe_ifExp (PW.pt (pw_and (pt_cmpR op_eq (pv 2) pe_str (nomark _)) (pw_and1 (pt_cmpR op_gt (pv 3) (pe_op op_add (pv 1) pe_int) (nomark _)))))
            (pv 1) (pv 3))))) pss_nil)
      (pss_cons (ps_if (pt_cmpR op_eq (pv 2) (pe_glob (v := .str "\"") rfl gq ⟨_, rfl⟩) (nomark _))
        (pss_one (ps_ret (pe_call GS hr (by rfl) gS FS.kp bS .nil pass0 (pa_cons (pv 0) (pa_cons (pv 1) pa_nil))))) pss_nil)
      (pss_one (ps_ret (pv 1))))))), ?_⟩
    have hc : (cp x)[a]? = some ((cp x)[a]) := List.getElem?_eq_getElem ha
    generalize (cp x)[a] = c at hc
    have m63 := most63 hl
    have la : (a : Int) < x.length := by rw [← cp_len]; omega
    have hc' : x.cps[(a : Int).toNat]? = some c := by rw [cp_get]; exact hc
    have ed := drop_at hc
    rw [ed, tokL_cons] at q
    refine ⟨.str x, rfl, .int a, rfl, x, a, c, rfl, rfl, by omega, by omega, la, hc', ?_⟩
    refine ⟨.str ⟨#[c]⟩, rfl, c, _, rfl, rfl, _, rfl, ?_⟩
    rw [signs_is]
    cases h1 : isSign c with
    | true =>
      rw [if_pos h1] at q
      exact iteT ⟨.int a, rfl, _, _, rfl, rfl, q⟩
    | false =>
      rw [if_neg (by rw [h1]; decide)] at q
      refine iteF ⟨.str ⟨#[c]⟩, rfl, c, _, rfl, rfl, _, rfl, ?_⟩
      rw [letters_is]
      cases h2 : isLet c with
      | true =>
        rw [if_pos h2, ← ed] at q
        refine iteT ⟨.str x, rfl, .int a, rfl, x, _, a, rfl, by omega, hl, ?_⟩
        rw [show (fun c => decide (c ∈ cp ("abcdefghijklmnopqrstuvwxyz" : Str))) = isLet from funext letters_is]
        exact q
      | false =>
        rw [if_neg (by rw [h2]; decide)] at q
        refine iteF ⟨.str ⟨#[c]⟩, rfl, c, _, rfl, rfl, _, rfl, ?_⟩
        rw [digits_is]
        cases h3 : isDig c with
        | true =>
          rw [if_pos h3, ← ed] at q
          refine iteT ⟨.str x, rfl, .int a, rfl, x, _, a, rfl, by omega, hl, ?_⟩
          rw [show (fun c => decide (c ∈ cp ("0123456789" : Str))) = isDig from funext digits_is]
          generalize span isDig ((cp x).drop a) = k at q
          refine ⟨.str ⟨#[c]⟩, rfl, rfl, _, rfl, ?_⟩
          rw [dec_sign c 48 _ (by decide +kernel)]
          by_cases h4 : c = 48
          · rw [decide_eq_true h4]
            refine iteT ⟨_, rfl, .int a, rfl, _, _, rfl, rfl, _, _, rfl, rfl, _, rfl, ?_⟩
            by_cases h5 : 1 < k
            · rw [if_pos ⟨h4, h5⟩] at q
              rw [decide_eq_true (by omega)]
              exact iteT ⟨.int a, rfl, q⟩
            · rw [if_neg (fun z => h5 z.2)] at q
              rw [decide_eq_false (by omega)]
              exact iteF ⟨_, rfl, q⟩
          · rw [decide_eq_false h4]
            rw [if_neg (fun z => h4 z.1)] at q
            exact iteF (iteF ⟨_, rfl, q⟩)
        | false =>
          rw [if_neg (by rw [h3]; decide)] at q
          refine iteF ⟨.str ⟨#[c]⟩, rfl, rfl, _, rfl, ?_⟩
          rw [dec_sign c 34 _ (by decide +kernel)]
          by_cases h4 : c = 34
          · rw [if_pos h4] at q
            rw [decide_eq_true h4]
            refine iteT ⟨.str x, rfl, .int a, rfl, x, a, rfl, ha, hl, ?_⟩
            have e : strE (cp x) a = a + (if ((cp x).drop (a + 1))[span isIn ((cp x).drop (a + 1))]? = some 34 ∧ span isIn ((cp x).drop (a + 1)) ≤ 60 then span isIn ((cp x).drop (a + 1)) + 2 else 0) := by
              unfold strE
              split <;> rfl
            rw [e]
            exact q
          · rw [if_neg h4] at q
            rw [decide_eq_false h4]
            exact iteF ⟨.int a, rfl, q⟩
end
end K2

/-! A def that shows values (repr): its promise holds where no repr is under way on the stack (guards are []). -/
namespace K2
open PySem PySem.Spec PyProof.Rows L2

/-- the promise of a def, kept wherever no repr stands on the stack -/
structure FnG (P : Program) (w : World) (K : PySem.W.Frag) (mg : Str → Option Value) (base : Heap) (k : Nat)
    (f : Addr) (fd : FuncData) (ps : List Str) (sp : Sp) : Prop where
  len : ∀ vs H Q E, sp vs H Q E → vs.length = ps.length
  run : ∀ (B : Around) (fr : List Env) (s : Shared) (H : Hp) (args : Args) (us : List Value) (vs : List V) (Q : VK)
    (E : XK), B.guards = some [] → Room k B → Env0 P w K mg base B fr s H → BindsTo s fd args (ps.zip us) →
    Vals vs us → sp vs H Q E → codeAny (model P w) B (.call (.ref f) args) (CR CX0 fr P w H s Q E) s

section
variable {P : Program} {w : World} {K : PySem.W.Frag} {mg : Str → Option Value} {base : Heap}

theorem FnG.mk' {x qual : Str} {st : Stmt} {f : Addr} {fd : FuncData} {N ps : List Str} {k : Nat} {sp : Sp}
    (F : Fun K x qual st f fd) (S : FnScope N ps (defScope st))
    (len : ∀ vs H Q E, sp vs H Q E → vs.length = ps.length)
    (hbody : ∀ (cdv : Value) (B : Around) (fr : List Env) (s : Shared) (H : Hp) (vs : List V) (Q : VK) (E : XK),
      B.guards = some [] → Room k (B.deeper (envOfC qual (defScope st) s.heap.objs.size f cdv)) → sp vs H Q E →
      ∃ t, PSs (cxOf CX0 P w K mg base N qual (defScope st) f cdv B fr s H E).nox (defBody st) t ∧
        t { nx := fun _ H' => Q .non H', rt := Q } (start N vs) H) : FnG P w K mg base (k + 1) f fd ps sp := by
  obtain ⟨oc, od, kV, doc, pm, an, cdv, ct, osl, rfl, look, code⟩ := F.ex
  refine ⟨len, fun B fr s H args us vs Q E hG room e0 bd rv want => ?_⟩
  have lv := len _ _ _ _ want
  have kin : K.In s.heap := e0.mod.kin.keeps fun b o h => (e0.bs b o h).1
  have nol : s.heap.NoLimit := e0.mod.nolimit.keeps fun b o h => (e0.bs b o h).1
  have par : ∀ y ∈ ps.zip us, (defScope st).names.lookup y.1 = some .local ∨
      ((defScope st).names.lookup y.1 = some .cell ∧
        ((cellsFrom (s.heap.objs.size + 1) (defScope st).names []).lookup y.1).isSome = true) := by
    rintro ⟨n, v⟩ hy
    rcases S.par n (List.of_mem_zip hy).1 with q | q
    · exact Or.inl q
    · exact Or.inr ⟨q, PySem.W.cellsFrom_some _ _ _ (Or.inl q)⟩
  refine codeAny_call_function room.depth (kin _ _ look) rfl S.co S.gen rfl
    (PySem.W.codeRec_of kin code) (bd _ _ _ _ ?_)
  refine wpAny_newFunctionEnv_cells S.kind par fun env he s1 inc => ?_
  subst he
  refine ⟨nol.keeps inc.toInCall.keep, codeAny_func ?_⟩
  obtain ⟨t, ht, hq⟩ := hbody cdv B fr s H vs Q E hG (room.deeper _) want
  have inv : Inv (cxOf CX0 P w K mg base N qual (defScope st) f cdv B fr s H E) [] (start N vs) H s1 :=
    inv_start S room.hd e0 lv rv inc
  refine wpAny_mono (ht.nox.run [] s1 (start N vs) H _ inv hq) ?_ (fun _ _ z => z)
  have done : ∀ {s' : Shared} {σ' : L2.St} {H' : Hp} {v : V} {u : Value},
      Inv (cxOf CX0 P w K mg base N qual (defScope st) f cdv B fr s H E) [] σ' H' s' → RelV v u → Q v H' →
      CE fr P w H s Q u s' := fun J r q => ⟨_, _, J.os, J.bare, J.base, J.hok, r, q⟩
  intro fl s' hs
  cases fl with
  | brk => exact hs.choose_spec.choose_spec.2.elim
  | cont => exact hs.choose_spec.choose_spec.2.elim
  | next =>
    obtain ⟨σ', H', J, q⟩ := hs
    exact done (v := V.non) (u := Value.none) J rfl q
  | ret u =>
    obtain ⟨v, σ', H', J, r, q⟩ := hs
    exact done J r q
end

section
variable {X : Cx} {k : Nat} {f : Addr} {fd : FuncData} {ps : List Str} {sp : Sp} {E : XK} {x : Str} {p pos : Pos}
  {e : Expr} {es : List Expr} {t : TA}

theorem run_fnG {pins : List (Addr × Obj)} {σ : L2.St} {H : Hp} {s : Shared} {Q : VK} {us : List Value} {vs : List V}
    (F : FnG X.prog X.w X.K X.mg X.base k f fd ps sp) (hG : X.A.guards = some []) (room : Room k X.A)
    (bd : Binds X.K fd ps []) (hx : Passes CX0 X E) (I : Inv X pins σ H s) (r : Vals vs us) (h : sp vs H Q E) :
    wpAny (model X.prog X.w) X.A (call (.ref f) us) (EP X pins σ Q) X.xe s := by
  have el : (us ++ []).length = ps.length := by
    rw [List.append_nil, ← r.length]
    exact F.len _ _ _ _ h
  have hb := bd s us I.kIn el
  rw [List.append_nil] at hb
  refine wpAny_call (codeAny_mono (F.run X.A X.stack s H ⟨us, []⟩ us vs Q E hG room I.env0 hb r h) ?_)
  rintro (⟨er⟩ | ⟨fl⟩) s' hq
  · exact hx pins σ H s er s' I hq
  · rcases fl with _ | _ | _ | u
    · exact hq.elim
    · exact hq.elim
    · exact hq.elim
    · exact I.after hq

/-- f(e, ..), f a def that shows values -/
theorem pe_callG (F : FnG X.prog X.w X.K X.mg X.base k f fd ps sp) (hG : X.A.guards = some []) (room : Room k X.A)
    (hg : Gl X x) (hm : X.mg x = some (.ref f)) (keep : PySem.W.keepIn X.K (.ref f) = true)
    (bd : Binds X.K fd ps []) (hx : Passes CX0 X E) (ha : PA X (e :: es) t)
    (hdb : (x == ("__debug__" : Str)) = false := by decide)
    (he : starEach (e :: es) X.env = (false, eval e X.env) :: starEach es X.env := by rfl)
    (hpl : (backTo pos (starEach es X.env)).any (·.1) = false := by rfl) :
    PE X (.Call (.Name x p) (e :: es) [] pos) (tCall sp [] E t) := by
  refine ⟨fun pins s σ H Q I h => wpAny_Call_Name_kw (ld_glob I hg hm ?_ hdb)⟩
  refine PySem.W.callWith_K (h₀ := X.base) I.ok.mod.kin keep (thn (ha.run pos pins s σ H _ I h) ?_) he hpl
  rintro us s1 ⟨vs, H1, I1, r, q⟩
  rw [List.append_nil] at q
  exact ⟨I1.kIn, run_fnG F hG room bd hx I1 r q⟩
end
end K2

set_option maxHeartbeats 2000000
/-! `tokens`, as list(..) walks it. -/
namespace K2
open PySem PySem.Spec PyProof.Rows L2

/-- a pair of an index and a token stands at a place -/
def TokAt (H : Hp) (v : V) (e : Nat × List Nat) : Prop := ∃ t, v = .ref t ∧ H t = some (.tup [.int e.1, .str ⟨e.2.toArray⟩])
inductive Toks (H : Hp) : List V → List (Nat × List Nat) → Prop
  | nil : Toks H [] []
  | cons {v : V} {vs : List V} {e : Nat × List Nat} {es : List (Nat × List Nat)} : TokAt H v e → Toks H vs es → Toks H (v :: vs) (e :: es)
theorem TokAt.mono {H H' : Hp} {v : V} {e : Nat × List Nat} (x : TokAt H v e) (h : Same H H') : TokAt H' v e := by
  obtain ⟨t, ev, ht⟩ := x
  exact ⟨t, ev, h _ _ ht⟩
theorem Toks.mono {H H' : Hp} {vs : List V} {es : List (Nat × List Nat)} (x : Toks H vs es) (h : Same H H') : Toks H' vs es := by
  induction x with
  | nil => exact .nil
  | cons a _ ih => exact .cons (a.mono h) ih
theorem Toks.snoc {H : Hp} {vs : List V} {es : List (Nat × List Nat)} {v : V} {e : Nat × List Nat} (x : Toks H vs es) (y : TokAt H v e) : Toks H (vs ++ [v]) (es ++ [e]) := by
  induction x with
  | nil => exact .cons y .nil
  | cons a _ ih => exact .cons a ih
theorem Toks.length {H : Hp} {vs : List V} {es : List (Nat × List Nat)} (x : Toks H vs es) : vs.length = es.length := by
  induction x with
  | nil => rfl
  | cons a _ ih => simp [ih]
theorem Toks.get {H : Hp} {vs : List V} {es : List (Nat × List Nat)} (x : Toks H vs es) : ∀ {i : Nat} {v : V}, vs[i]? = some v → ∃ e, es[i]? = some e ∧ TokAt H v e := by
  induction x with
  | nil =>
    intro i v h
    simp at h
  | cons a _ ih =>
    intro i v h
    cases i with
    | zero =>
      cases h
      exact ⟨_, rfl, a⟩
    | succ i => exact ih (i := i) (by simpa using h)
theorem Toks.take {H : Hp} {vs : List V} {es : List (Nat × List Nat)} (x : Toks H vs es) : ∀ n, Toks H (vs.take n) (es.take n) := by
  induction x with
  | nil =>
    intro n
    simp only [List.take_nil]
    exact .nil
  | cons a _ ih =>
    intro n
    cases n with
    | zero => exact .nil
    | succ n => exact .cons a (ih n)
def tokD (e : Nat × List Nat) : PyData := .tuple [.int e.1, .str ⟨e.2.toArray⟩]
theorem TokAt.dp {K : PySem.W.Frag} {H : Hp} {v : V} {e : Nat × List Nat} (x : TokAt H v e) : Dp K H v (tokD e) := by
  obtain ⟨t, rfl, h⟩ := x
  exact .tup (SqT.of h) (.cons (.int _) (.cons (.str _) .nil))
theorem Toks.dp {K : PySem.W.Frag} {H : Hp} {vs : List V} {es : List (Nat × List Nat)} (x : Toks H vs es) : DpAll K H vs (es.map tokD) := by
  induction x with
  | nil => exact .nil
  | cons a _ ih => exact .cons a.dp ih

theorem scTok : GScope ["text", "start", "end"] ["text"] (defScope sTokens) := ⟨rfl, rfl, rfl, by decide +kernel, rfl, by decide +kernel, by decide +kernel⟩

def spGTok : SpG := fun vs H Q _ => ∃ x : Str, vs = [.str x] ∧ (cp x).length ≤ most ∧ ∀ ys H', Same H H' → Toks H' ys (scan 0 (cp x)) → Q ys H'

/-- a part of a text -/
theorem cut_is (x : Str) (a b : Nat) (h1 : a ≤ b) (h2 : b ≤ (cp x).length) : cutS x (some (a : Int)) (some (b : Int)) = ⟨(((cp x).drop a).take (b - a)).toArray⟩ := by
  have ll := cp_len x
  have ea : ∀ d : Nat, HT.sIx x.length d (some (a : Int)) = a := fun d => by rw [HT.sIx_nat]; omega
  have eb : ∀ d : Nat, HT.sIx x.length d (some (b : Int)) = b := fun d => by rw [HT.sIx_nat]; omega
  unfold cutS
  rw [ea, eb]

theorem skip_scan {pos : Nat} {l : List Nat} (h : tokL (l.drop (skip l)) = 0) : scan pos l = [] := scan_end h

section
variable {P : Program} {w : World} {K : PySem.W.Frag} {mg : Str → Option Value} {base : Heap}

theorem gfn_tokens {f fN fE : Addr} {fd fdN fdE : FuncData} (F : Fun K "tokens" "tokens" sTokens f fd) (Z : Bare mg)
    (FN : Fun K "next_start" "next_start" sNext fN fdN) (bN : Binds K fdN ["text", "at"] []) (gN : mg "next_start" = some (.ref fN))
    (GN : FnOk P w K mg base CX0 2 fN fdN ["text", "at"] spNext)
    (FE : Fun K "token_end" "token_end" sEnd fE fdE) (bE : Binds K fdE ["text", "start"] []) (gE : mg "token_end" = some (.ref fE))
    (GE : FnOk P w K mg base CX0 3 fE fdE ["text", "start"] spEnd) :
    GFn P w K mg base 4 f fd ["text"] spGTok := by
  obtain ⟨oc, od, kV, doc, pm, an, cdv, ct, osl, rfl, look, code⟩ := F.ex
  refine gfn_of look code scTok (fun vs H Q E h => ?_) (fun A outer s H vs Q E pn hr h => ?_)
  · obtain ⟨x, rfl, _⟩ := h
    rfl
  · obtain ⟨x, rfl, hl, q⟩ := h
    refine ⟨_, gss_cons (gs_ps (ps_set (i := 1) scTok.nd rfl (.inl rfl) (pe_call GN (hr.mono (by decide)) (by rfl) gN FN.kp bN .nil pass0 (pa_cons (pv 0) (pa_cons pe_int pa_nil)))))
      (gss_cons (gs_while owns_gcx (pt_cmpR op_lt (pv 1) (pe_callB call_len_str (by rfl) Z.len PySem.boot_len (pa_cons (pv 0) pa_nil)) (nomark _))
        (gss_cons (gs_ps (ps_set (i := 2) scTok.nd rfl (.inl rfl) (pe_call GE hr (by rfl) gE FE.kp bE .nil pass0 (pa_cons (pv 0) (pa_cons (pv 1) pa_nil)))))
        (gss_cons (gs_ps (ps_if (pt_cmpR op_eq (pv 2) (pv 1) (nomark _)) (pss_one ps_retN) pss_nil))
        (gss_cons (gs_yield (pe_tup (pa_cons (pv 1) (pa_cons (pe_slice sl_str (pv 0) (po_some (pv 1)) (po_some (pv 2))) pa_nil))))
        (gss_cons (gs_ps (ps_set (i := 1) scTok.nd rfl (.inl rfl) (pe_call GN (hr.mono (by decide)) (by rfl) gN FN.kp bN .nil pass0 (pa_cons (pv 0) (pa_cons (pv 2) pa_nil)))))
        gss_nil))))) gss_nil), ?_⟩
    obtain ⟨l, hll⟩ : ∃ l, cp x = l := ⟨_, rfl⟩
    have ll : x.length = l.length := by rw [← cp_len, hll]
    refine ⟨.str x, rfl, x, 0, rfl, Nat.zero_le _, hl, ?_⟩
    refine ⟨fun m ys σ H' => ∃ (p : Nat) (e : Option V) (done : List (Nat × List Nat)), m = l.length - p ∧ p ≤ l.length ∧ σ = [some (.str x), some (.int ((p + skip (l.drop p) : Nat) : Int)), e] ∧
      Same H H' ∧ Toks H' ys done ∧ done ++ scan p (l.drop p) = scan 0 l ∧ ys.length ≤ p, ⟨_, 0, none, [], rfl, Nat.zero_le _, by rw [hll]; rfl, fun _ _ e => e, .nil, rfl, Nat.le_refl _⟩, ?_⟩
    rintro m ys σ H1 ⟨p, e, done, rfl, hp, rfl, sm, tk, hs, hys⟩
    generalize hb : p + skip (l.drop p) = b
    have hsk : skip (l.drop p) ≤ (l.drop p).length := skip_len _
    rw [List.length_drop] at hsk
    have hbl : b ≤ l.length := by omega
    have em : (l.drop p).drop (skip (l.drop p)) = l.drop b := by rw [List.drop_drop, hb]
    refine ⟨.int b, rfl, .str x, rfl, x, rfl, most_line (by rw [← cp_len]; exact hl), _, _, rfl, rfl, _, rfl, ?_⟩
    rw [lt_dec, hll]
    refine ite2 (fun e1 => ?_) (fun e1 => ?_)
    · have lt : b < l.length := of_decide_eq_true e1
      have hl' : l.length ≤ most := hll ▸ hl
      have m24 : most < sizeLine := by decide
      refine ⟨fun ys' σ' H' => ∃ m', m' < l.length - p ∧ ∃ (p : Nat) (e : Option V) (done : List (Nat × List Nat)), m' = l.length - p ∧ p ≤ l.length ∧ σ' = [some (.str x), some (.int ((p + skip (l.drop p) : Nat) : Int)), e] ∧
        Same H H' ∧ Toks H' ys' done ∧ done ++ scan p (l.drop p) = scan 0 l ∧ ys'.length ≤ p, fun _ _ _ w => w, ?_⟩
      refine ⟨.str x, rfl, .int b, rfl, x, b, rfl, by rw [hll]; exact lt, hl, ?_⟩
      rw [hll]
      have tl := tokL_le (l.drop b)
      rw [List.length_drop] at tl
      refine ⟨_, rfl, .int b, rfl, rfl, _, rfl, ?_⟩
      by_cases z : tokL (l.drop b) = 0
      · rw [z, Nat.add_zero, decide_eq_true rfl]
        refine iteT ⟨rfl, q _ _ sm ?_⟩
        rw [scan_end (by rw [em]; exact z), List.append_nil] at hs
        rw [hll, ← hs]
        exact tk
      · have ne : decide (V.int ((b + tokL (l.drop b) : Nat) : Int) = V.int (b : Int)) = false := decide_eq_false (by intro w; have := V.int.inj w; omega)
        rw [ne]
        refine iteF ⟨Nat.lt_of_le_of_lt (by omega : ys.length ≤ most) m24, .int b, rfl, .str x, rfl, .int b, rfl, b, rfl, _, rfl, ((b + tokL (l.drop b) : Nat) : Int), rfl, x, rfl, most_line (by rw [← cp_len]; exact hl), by show 2 ≤ sizeLine; decide, fun t ht => ?_⟩
        refine ⟨.str x, rfl, _, rfl, x, _, rfl, by rw [hll]; omega, hl, ?_⟩
        rw [hll]
        have sm1 : Same H1 (upd H1 t (.tup [.int b, .str (cutS x (some (b : Int)) (some ((b + tokL (l.drop b) : Nat) : Int)))])) := same_upd ht
        refine ⟨l.length - (b + tokL (l.drop b)), by omega, b + tokL (l.drop b), _, done ++ [(b, (l.drop b).take (tokL (l.drop b)))], rfl, by omega, rfl, fun a o ea => sm1 a o (sm a o ea), ?_, ?_, ?_⟩
        · refine (tk.mono sm1).snoc ⟨t, rfl, ?_⟩
          rw [upd_same, cut_is x b _ (by omega) (by rw [hll]; omega), hll, show b + tokL (l.drop b) - b = tokL (l.drop b) by omega]
        · rw [scan_at em z, hb, List.drop_drop] at hs
          rw [List.append_assoc]
          exact hs
        · rw [List.length_append, List.length_singleton]
          omega
    · have ge : ¬ b < l.length := fun z => e1 (decide_eq_true z)
      refine q _ _ sm ?_
      rw [scan_end (by rw [em, List.drop_eq_nil_of_le (by omega)]; rfl), List.append_nil] at hs
      rw [hll, ← hs]
      exact tk
end
end K2

set_option maxHeartbeats 2000000
/-! tuple(g), list(g): of a generator def that never raises. -/
namespace K2
open PySem PySem.Spec PyProof.Rows L2 GenW

def never : XK := fun _ _ _ => False

theorem no_cx {P : Program} {w : World} {outer : List Env} {H : Hp} {sc : Shared} {e : Value} {s' : Shared} (h : CX P w outer H sc never e s') : False := by
  obtain ⟨a, B, H', cls, d, _, fl, _, _, _, _, _, hW⟩ := h
  exact hW

theorem collect_gen {P : Program} {w : World} {outer : List Env} {H : Hp} {sc s : Shared} {ex : List Addr} {Q : List V → Hp → Prop} {A : Around} {k : Nat} {u : Value} {Q' : List Value → Shared → Prop} {E : Value → Shared → Prop}
    (hr : Room (k + 2) A) (hfr : A.frames = some outer) (h : GMade P w k outer H sc ex Q never u s)
    (hQ : ∀ S s' acc c H' ys, s.heap.objs.size ≤ S → s'.heap.get? S = some (lstObj acc c) → Vals ys acc.toList → ys.length ≤ sizeLine → s'.os = sc.os → AllBare s'.gens → Un (frs outer) ex H H' sc.heap s'.heap → HOk P w H' s'.heap → H' S = none → Q ys H' → Q' acc.toList s') :
    wpAny (model P w) A (collect u) Q' E s := by
  obtain ⟨a, g, c, rfl, ha1, ha2, hg, hgs, hos, hb, hl, hkp, wake⟩ := h
  have hSa : s.heap.objs.size ≠ a := Nat.ne_of_gt ha2
  have hcl : cStatics < s.heap.objs.size := let ⟨_, hn, _⟩ := hl; hn.lt
  have hSc : s.heap.objs.size ≠ cStatics := Nat.ne_of_gt hcl
  unfold collect
  refine wpAny_bind (wpAny_runValue (codeAny_builtin F.entry_proto_collect ?_))
  rw [Around.under_plainId F.plain_proto_collect _]
  show wpAny _ A.in1 (newList [] >>= fun l => again (.builtin "list.__iadd__" ⟨[l, .ref a], []⟩)) _ _ s
  refine wpAny_bind (wpAny_newObj_type ?_)
  refine wpAny_pure ⟨plainId_quiet F.plain_list_iadd _, codeAny_builtin F.entry_list_iadd ?_⟩
  rw [Around.under_plainId F.plain_list_iadd _]
  show wpAny _ A.in1 (Builtin.List.listExtendWith (.ref s.heap.objs.size) (.ref a) (.ref s.heap.objs.size)) _ _ _
  have hS2 : (s.heap.push { cls := .type "list", data := .seq ([] : List Value).toArray }).get? s.heap.objs.size = some { cls := .type "list", data := .seq #[] 0 } := Heap.get?_push_size _ rfl
  unfold Builtin.List.listExtendWith
  have up : ∀ (h : Heap) (f : Obj → Obj), (∀ b o, s.heap.get? b = some o → h.get? b = some o) → ∀ b o, s.heap.get? b = some o → (h.update s.heap.objs.size f).get? b = some o := fun h f q b o e =>
    (Heap.get?_update_other _ _ (Ne.symm (Nat.ne_of_lt (Heap.lt_size e)))).trans (q b o e)
  have k2 : ∀ b o, s.heap.get? b = some o → (s.heap.push { cls := .type "list", data := .seq ([] : List Value).toArray }).get? b = some o := fun b o e => Heap.get?_push_of_some _ e
  have gty : ∀ {h : Heap}, (∀ b o, s.heap.get? b = some o → h.get? b = some o) → h.IsGen a g := fun {h} q => hg.keeps q
  refine wpAny_bind (wpAny_typeOf (Heap.IsGen.typeIs (s := { s with heap := _ }) (gty k2)) ?_)
  have h1 : Builtin.List.listSameRef (.ref s.heap.objs.size) (.ref a) = false := by simp [Builtin.List.listSameRef, hSa]
  have h2 : (Value.type "generator" == Value.type "list") = false := by decide
  have h3 : (Value.type "generator" == Value.type "tuple") = false := by decide
  simp only [h1, h2, h3, Bool.or_false, Bool.false_eq_true, if_false]
  refine wpAny_bind (wpAny_pyIter_gen (s := { s with heap := _ }) (gty k2) ?_)
  refine wpAny_bind (wpAny_holding ?_)
  unfold Builtin.List.listLengthHint
  refine wpAny_bind (wpAny_specialOf (Heap.IsGen.typeIs (s := { s with heap := _ }) (gty k2)) F.gen_no_len ?_)
  show wpAny _ A.in1 (specialOf (Value.ref a) (Str.ofString "__length_hint__") >>= _) _ _ _
  refine wpAny_bind (wpAny_specialOf (Heap.IsGen.typeIs (s := { s with heap := _ }) (gty k2)) F.gen_no_hint ?_)
  refine wpAny_pure ?_
  show wpAny _ A.in1 (rule "list.extend.makes-room" >>= fun _ => Builtin.List.listTouch (.ref s.heap.objs.size) >>= fun _ =>
    again (.builtin "list.extend.loop" ⟨[.ref s.heap.objs.size, .ref a, .ref s.heap.objs.size], []⟩)) _ _ _
  refine wpAny_bind (wpAny_rule ?_)
  refine wpAny_bind ?_
  show wpAny _ A.in1 (updateSeq s.heap.objs.size (·.push .none) >>= fun _ => updateSeq s.heap.objs.size (·.pop)) _ _ _
  refine wpAny_bind (wpAny_updateSeq hS2 rfl ?_)
  have hS3 := Heap.get?_update_self (Obj.mapSeq (·.push Value.none)) hS2 rfl
  refine wpAny_updateSeq (hz := by seq_fits) hS3 rfl ?_
  have hS4 := Heap.get?_update_self (Obj.mapSeq (·.pop)) hS3 rfl
  have k4 := up _ (Obj.mapSeq (·.pop)) (up _ (Obj.mapSeq (·.push Value.none)) k2)
  refine wpAny_pure ⟨plainId_quiet F.plain_extend_loop _, ?_⟩
  refine drain (P := P) (w := w) (outer := outer) (H := H) (sc := sc) (ex := ex) (Q := Q) (EX := never) (A := A) (g := g) hr.hd (by have := hr.dp; show A.depth < _; omega) hSa hSc
    (fun s' acc c H' ys q1 q2 q3 q4 q5 q6 q7 q8 q9 => ?_) (fun e s' hc => (no_cx hc).elim)
    sizeLine _ (gty k4) (hl.keeps k4) ⟨_, hgs, rfl, ?_⟩
  · show wpAny _ A (load s.heap.objs.size >>= _) _ _ _
    exact wpAny_bind (wpAny_load q1 (wpAny_pure (hQ _ s' acc c H' ys (Nat.le_refl _) q1 q2 q3 q4 q5 q6 q7 q8 q9)))
  refine wake _ _ _ ⟨hr.hd, ?_, ?_⟩ hfr (Nat.le_refl _) k4 ⟨_, hS4⟩ hos (allBare_setGen (s := { s with heap := _ }) hb rfl)
  · have := hr.dp
    show A.depth + 3 * k + 5 < _
    omega
  · have := hr.un
    show A.units + 1 + 1 + 16 * k + 200 < _
    omega

theorem call_tuple_gen {P : Program} {w : World} {outer : List Env} {H : Hp} {sc s : Shared} {ex : List Addr} {Q : List V → Hp → Prop} {A : Around} {k : Nat} {u : Value} {Q' : Value → Shared → Prop} {E : Value → Shared → Prop}
    (hr : Room (k + 3) A) (hfr : A.frames = some outer) (h : GMade P w k outer H sc ex Q never u s)
    (hQ : ∀ (S : Addr) (s' : Shared) (acc : Array Value) (c : Nat) (H' : Hp) (ys : List V), s.heap.objs.size ≤ S → s'.heap.get? S = some (lstObj acc c) → Vals ys acc.toList → ys.length ≤ sizeLine → s'.os = sc.os → AllBare s'.gens → Un (frs outer) ex H H' sc.heap s'.heap → HOk P w H' s'.heap → H' S = none → Q ys H' →
      Q' (.ref s'.heap.objs.size) { s' with heap := s'.heap.push { cls := .type "tuple", data := .seq acc } }) :
    wpAny (model P w) A (call (.type "tuple") [u]) Q' E s := by
  obtain ⟨a, g, rfl, hg⟩ : ∃ a g, u = .ref a ∧ s.heap.IsGen a g := by
    obtain ⟨a, g, c, rfl, _, _, hg, _⟩ := id h
    exact ⟨a, g, rfl, hg⟩
  refine callType_codes (Q₁ := fun obj s₁ => s₁.TypeIs obj "tuple" ∧ Q' obj s₁) F.called_tuple (F.typeCall_tuple_1 _) F.entry_object_init ?_ fun obj s₁ h₁ => ?_
  · refine codeAny_of_tree ?_
    show wpAny _ A.in1.in1 (do checkBuiltinCall "tuple.__new__" ⟨[.type "tuple", .ref a], []⟩; again (.builtin "tuple.__new__" ⟨[.type "tuple", .ref a], []⟩)) _ _ s
    refine wpAny_bind (wpAny_of_eq (F.newCall_tuple_1 _) (wpAny_pure ⟨plainId_quiet F.plain_tuple_new _, codeAny_builtin F.entry_tuple_new ?_⟩))
    rw [Around.under_plainId F.plain_tuple_new _]
    have hsub := sub_tuple_self
    have hinit := init_tuple_lookup
    have hmh := madeHere_tuple
    have hTI : s.TypeIs (.ref a) "generator" := hg.typeIs
    have hr2 : Room (k + 2) A.in1.in1 := ⟨hr.hd, by have := hr.dp; show A.depth + 3 * (k + 2) + 5 < _; omega, by have := hr.un; show A.units + 1 + 1 + 16 * (k + 2) + 200 < _; omega⟩
    have hfr2 : A.in1.in1.frames = some outer := hfr
    wp_walk using wpAny_typeOf hTI, collect_gen (A := A.in1.in1) hr2 hfr2 h
    intro S s' acc c H' ys q0 q1 q2 q3 q4 q5 q6 q7 q8 q9
    show wpAny _ _ (Builtin.Tuple.tupleExact acc.toList.toArray >>= fun v => ret v) _ _ _
    unfold Builtin.Tuple.tupleExact
    have la : acc.size ≤ sizeLine := by
      have := q2.length
      have e2 : acc.toList.length = acc.size := Array.length_toList
      omega
    refine wpAny_bind (wpAny_newObj_type ?_ (by show acc.toList.toArray.size ≤ sizeLine; simp only [Array.toArray_toList]; exact la))
    refine wpAny_pure ?_
    have e : acc.toList.toArray = acc := by simp
    rw [e]
    exact ⟨⟨_, Heap.get?_push_size _ rfl, rfl⟩, hQ S s' acc c H' ys q0 q1 q2 q3 q4 q5 q6 q7 q8 q9⟩
  · exact ⟨h₁.1, F.args_object_init_2 obj _, object_init_meets F.called_tuple.init.lookup F.called_tuple.made (by decide) P w A.in1 _ s₁ ⟨h₁.1, rfl, h₁.2⟩⟩

section
variable {X : Cx} {k : Nat} {p pos : Pos}
theorem passes_never : Passes (CX X.prog X.w) X never := by
  intro pins σ H s e s' I hc
  exact (no_cx hc).elim
theorem noStop_never {K : PySem.W.Frag} : NoStop K never := by
  intro cls d H h
  exact h.elim
def tTupG (tg : TGen) : TE := fun σ H Q => tg σ H fun out H2 => ∀ S p, H2 S = none → (upd H2 S (.lst out)) p = none → Q (.ref p) (upd (upd H2 S (.lst out)) p (.tup out))
/-- tuple(g) -/
theorem pe_tupG {e : Expr} {tg : TGen} (h : PGen X k e tg never) (hr : Room (k + 3) X.A) (hg : Gl X "tuple") (hmg : X.mg "tuple" = none)
    (he : starEach [e] X.env = (false, eval e X.env) :: starEach [] X.env := by rfl) : PE X (.Call (.Name "tuple" p) [e] [] pos) (tTupG tg) := by
  refine ⟨fun pins s σ H Q I hq => ?_⟩
  refine wpAny_Call_Name_kw (ld_blt I hg hmg boot_tuple ?_ (by decide) (by decide))
  refine PyProof.Rows.callWith_type1 ?_ he rfl
  rw [he]
  show wpAny _ _ (spliced ((false, eval e X.env) :: backTo pos (starEach [] X.env))) _ _ s
  refine Calls.spliced_cons (thn (h.run pins s σ H _ I hq) fun u s1 ⟨H1, sc, ex, I1, hex, hG⟩ => ?_)
  refine Calls.spliced_nil ?_
  have hsz : sc.heap.objs.size ≤ s1.heap.objs.size := by
    obtain ⟨a, g, c, _, h1, h2, _⟩ := hG
    exact Nat.le_trans h1 (Nat.le_of_lt h2)
  refine call_tuple_gen hr I1.ok.frames hG (fun S s' acc c H' ys q0 q1 q2 hl q3 q4 q5 q6 q7 q8 => ?_)
  have I2 := I1.drained (Nat.le_trans hsz q0) hl q1 q2 hex q3 q4 q5 q6 q7
  have new : (upd H' S (.lst ys)) s'.heap.objs.size = none := I2.hok.fresh (Nat.le_refl _)
  refine ⟨.ref s'.heap.objs.size, upd (upd H' S (.lst ys)) s'.heap.objs.size (.tup ys),
    I2.laid (t' := s'.toks) (fun b u e => Heap.get?_push_of_some _ e) (Nat.le_refl _) ?_, rfl, q8 S _ q7 new⟩
  have ea : (Array.toList acc).toArray = acc := by simp
  refine (show ObjOk X.prog X.w _ _ _ (.tup ys) from ⟨hl, acc.toList, q2, ?_⟩)
  rw [ea]
  exact IsTup.new _ _
end
end K2

set_option maxHeartbeats 2000000
/-! The law's own tokens. -/
namespace K2
open PySem PySem.Spec PyProof.Rows L2

theorem scSEL : FnScope ["_law_page", "_law_at", "_law_end"] ["_law_page", "_law_at"] (defScope sStrEndL) := ⟨rfl, rfl, rfl, by decide +kernel, rfl, by decide +kernel, by decide +kernel⟩
theorem scTEL : FnScope ["_law_page", "_law_at", "_law_letters", "_law_end"] ["_law_page", "_law_at"] (defScope sTokEndL) := ⟨rfl, rfl, rfl, by decide +kernel, rfl, by decide +kernel, by decide +kernel⟩
theorem scTL : FnScope ["_law_page", "_law_found", "_law_at", "_law_end"] ["_law_page"] (defScope sTokensL) := ⟨rfl, rfl, rfl, by decide +kernel, rfl, by decide +kernel, by decide +kernel⟩

def spSEL : Sp := fun vs H Q _ => ∃ (x : Str) (a : Nat), vs = [.str x, .int a] ∧ (cp x)[a]? = some 34 ∧ tokL ((cp x).drop a) ≠ 0 ∧ (cp x).length ≤ most ∧ Q (.int ((a + tokL ((cp x).drop a) : Nat) : Int)) H
def spTEL : Sp := fun vs H Q _ => ∃ (x : Str) (a : Nat), vs = [.str x, .int a] ∧ a < (cp x).length ∧ tokL ((cp x).drop a) ≠ 0 ∧ (cp x).length ≤ most ∧ ∀ H', Same H H' → Q (.int ((a + tokL ((cp x).drop a) : Nat) : Int)) H'
def spTL : Sp := fun vs H Q _ => ∃ x : Str, vs = [.str x] ∧ clean (cp x) = true ∧ (cp x).length ≤ most ∧ ∀ ys l H', Same H H' → H l = none → H' l = some (.lst ys) → Toks H' ys (scan 0 (cp x) ++ [((cp x).length, [])]) → Q (.ref l) H'

def isShut (c : Nat) : Bool := decide (c = 34) || decide (c = 10) || decide (c = 92)
theorem shut_is (c : Nat) : decide (c ∈ cp ("\"\n\\" : Str)) = isShut c :=
  pure_str _ [34, 10, 92] isShut (by decide +kernel) (by decide +kernel) (fun c h => by simp [isShut] at h; omega) (by decide +kernel) c
theorem in_shut {c : Nat} (h : isIn c = true) : isShut c = false := by
  simp [isIn, isShut] at h ⊢
  omega

theorem tok_str {l : List Nat} {a : Nat} (h : l[a]? = some 34) (ht : tokL (l.drop a) ≠ 0) :
    l[a + 1 + span isIn (l.drop (a + 1))]? = some 34 ∧ span isIn (l.drop (a + 1)) ≤ 60 ∧ tokL (l.drop a) = span isIn (l.drop (a + 1)) + 2 := by
  rw [drop_at h, tokL_cons, if_neg (by decide), if_neg (by decide), if_neg (by decide), if_pos rfl] at ht ⊢
  by_cases z : (l.drop (a + 1))[span isIn (l.drop (a + 1))]? = some 34 ∧ span isIn (l.drop (a + 1)) ≤ 60
  · rw [if_pos z]
    rw [drop_get] at z
    exact ⟨z.1, z.2, rfl⟩
  · rw [if_neg z] at ht
    exact absurd rfl ht

theorem let_lt {c : Nat} (h : isLet c = true) : c < 128 := by simp [isLet] at h; omega
theorem dig_lt {c : Nat} (h : isDig c = true) : c < 128 := by simp [isDig] at h; omega
theorem let_sign {c : Nat} (h : isLet c = true) : isSign c = false ∧ isDig c = false ∧ c ≠ 34 ∧ c ≠ 48 ∧ isGap c = false ∧ c ≠ 35 :=
  (show ∀ c < 128, isLet c = true → isSign c = false ∧ isDig c = false ∧ c ≠ 34 ∧ c ≠ 48 ∧ isGap c = false ∧ c ≠ 35 by decide +kernel) c (let_lt h) h
theorem dig_sign {c : Nat} (h : isDig c = true) : isSign c = false ∧ isLet c = false ∧ c ≠ 34 ∧ isGap c = false ∧ c ≠ 35 :=
  (show ∀ c < 128, isDig c = true → isSign c = false ∧ isLet c = false ∧ c ≠ 34 ∧ isGap c = false ∧ c ≠ 35 by decide +kernel) c (dig_lt h) h
theorem tokL_let {c : Nat} {r : List Nat} (h : isLet c = true) : tokL (c :: r) = span isLet (c :: r) := by
  rw [tokL_cons, if_neg (by rw [(let_sign h).1]; decide), if_pos h]
theorem tokL_dig {c : Nat} {r : List Nat} (h : isDig c = true) : tokL (c :: r) = if c = 48 ∧ 1 < span isDig (c :: r) then 0 else span isDig (c :: r) := by
  rw [tokL_cons, if_neg (by rw [(dig_sign h).1]; decide), if_neg (by rw [(dig_sign h).2.1]; decide), if_pos h]

section
variable {P : Program} {w : World} {K : PySem.W.Frag} {mg : Str → Option Value} {base : Heap}

theorem ok_SEL {f : Addr} {fd : FuncData} (F : Fun K "_law_string_end" "_law_string_end" sStrEndL f fd) (Z : Bare mg) :
    FnOk P w K mg base CX0 1 f fd ["_law_page", "_law_at"] spSEL := by
  refine F.ok scSEL (fun vs H Q E h => ?_) (fun cdv A outer s H vs Q E hr h => ?_)
  · obtain ⟨x, a, rfl, _⟩ := h
    rfl
  · obtain ⟨x, a, rfl, hc0, ht, hl, q⟩ := h
    refine ⟨_, pss_cons (ps_set (i := 2) scSEL.nd rfl (.inl rfl) (pe_op op_add (pv 1) pe_int))
      (pss_cons (ps_while PassesOwn.never
        (PW.pt (pw_and (pt_cmpR op_lt (pv 2) (pe_callB call_len_str (by rfl) Z.len PySem.boot_len (pa_cons (pv 0) pa_nil)) (nomark _))
          (pw_and (pt_cmpR op_notIn_sign (pe_item_str (pv 0) (pv 2) (fun _ _ => rfl)) pe_str (by with_unfolding_all rfl))
            (pw_and1 (pt_cmpR op_lt (pe_op op_sub (pv 2) (pv 1)) pe_int (nomark _))))))
        (pss_one (ps_set (i := 2) scSEL.nd rfl (.inl rfl) (pe_op op_add (pv 2) pe_int))))
      (pss_one (ps_ret (pe_ifExp (PW.pt (pw_and (pt_cmpR op_lt (pv 2) (pe_callB call_len_str (by rfl) Z.len PySem.boot_len (pa_cons (pv 0) pa_nil)) (nomark _))
          (pw_and (pt_cmpR op_eq (pe_item_str (pv 0) (pv 2) (fun _ _ => rfl)) pe_str (nomark _))
            (pw_and1 (pt_cmpR op_lt (pe_op op_sub (pv 2) (pv 1)) pe_int (nomark _))))))
        (pe_op op_add (pv 2) pe_int) pe_non)))), ?_⟩
    obtain ⟨hq, h60, ht2⟩ := tok_str hc0 ht
    rw [ht2] at q
    obtain ⟨n, hn⟩ : ∃ n, n = span isIn ((cp x).drop (a + 1)) := ⟨_, rfl⟩
    rw [← hn] at hq h60 q
    have lq : a + 1 + n < (cp x).length := (List.getElem?_eq_some_iff.mp hq).1
    have ll := cp_len x
    have m63 := most63 hl
    refine ⟨.int a, rfl, _, _, rfl, rfl, ?_⟩
    refine ⟨fun m σ H' => ∃ i : Nat, m = n - i ∧ i ≤ n ∧ σ = [some (.str x), some (.int a), some (.int ((a + 1 + i : Nat) : Int))] ∧ H = H', ⟨_, 0, rfl, Nat.zero_le _, rfl, rfl⟩, ?_⟩
    rintro m σ H' ⟨i, rfl, hi, rfl, rfl⟩
    refine ⟨_, rfl, .str x, rfl, x, rfl, most_line (by rw [← cp_len]; exact hl), _, _, rfl, rfl, _, rfl, ?_⟩
    rw [lt_dec, decide_eq_true (by omega)]
    obtain ⟨c, hc⟩ : ∃ c, (cp x)[a + 1 + i]? = some c := ⟨_, List.getElem?_eq_getElem (by omega)⟩
    have hc' : x.cps[(((a + 1 + i : Nat) : Int)).toNat]? = some c := by rw [cp_get]; exact hc
    refine iteT ⟨.str x, rfl, _, rfl, x, _, c, rfl, rfl, by omega, by omega, by omega, hc', c, _, rfl, rfl, _, rfl, ?_⟩
    rw [shut_is]
    by_cases e : i = n
    · subst e
      have ec : c = 34 := Option.some.inj (hc.symm.trans hq)
      subst ec
      rw [show (!isShut 34) = false by decide]
      refine iteF ⟨_, rfl, .str x, rfl, x, rfl, most_line (by rw [← cp_len]; exact hl), _, _, rfl, rfl, _, rfl, ?_⟩
      rw [lt_dec, decide_eq_true lq]
      refine iteT ⟨.str x, rfl, _, rfl, x, _, 34, rfl, rfl, by omega, by omega, by omega, hc', rfl, _, rfl, ?_⟩
      rw [dec_sign 34 34 _ (by decide +kernel), decide_eq_true rfl]
      refine iteT ⟨_, rfl, .int a, rfl, _, _, rfl, rfl, _, _, rfl, rfl, _, rfl, ?_⟩
      rw [decide_eq_true (by omega)]
      refine iteT ⟨_, rfl, _, _, rfl, rfl, ?_⟩
      rw [show ((a + (i + 2) : Nat) : Int) = ((a + 1 + i : Nat) : Int) + 1 by omega] at q
      exact q
    · have hin : isIn c = true := span_get (l := (cp x).drop (a + 1)) (i := i) (by rw [drop_get]; exact hc) (by omega)
      rw [in_shut hin]
      refine iteT ⟨_, rfl, .int a, rfl, _, _, rfl, rfl, _, _, rfl, rfl, _, rfl, ?_⟩
      rw [decide_eq_true (by omega)]
      refine iteT ⟨fun σ' H' => ∃ m', m' < n - i ∧ ∃ i : Nat, m' = n - i ∧ i ≤ n ∧ σ' = [some (.str x), some (.int a), some (.int ((a + 1 + i : Nat) : Int))] ∧ H = H', fun _ _ w => w, ?_⟩
      exact ⟨_, rfl, _, _, rfl, rfl, n - (i + 1), by omega, i + 1, rfl, by omega, rfl, rfl⟩


theorem ok_TEL {f fS : Addr} {fd fdS : FuncData} (F : Fun K "_law_token_end" "_law_token_end" sTokEndL f fd) (Z : Bare mg)
    (FS : Fun K "_law_string_end" "_law_string_end" sStrEndL fS fdS) (bS : Binds K fdS ["_law_page", "_law_at"] []) (gS : mg "_law_string_end" = some (.ref fS)) :
    FnOk P w K mg base CX0 2 f fd ["_law_page", "_law_at"] spTEL := by
  have GS : FnOk P w K mg base CX0 1 fS fdS ["_law_page", "_law_at"] spSEL := ok_SEL FS Z
  refine F.ok scTEL (fun vs H Q E h => ?_) (fun cdv A outer s H vs Q E hr h => ?_)
  · obtain ⟨x, a, rfl, _⟩ := h
    rfl
  · obtain ⟨x, a, rfl, ha, ht, hl, q⟩ := h
    refine ⟨_, pss_cons (ps_for PassesOwn.never rfl (pi_tup (pe_tup (pa_cons pe_str (pa_cons pe_str pa_nil)))) (pg_name (i := 2) scTEL.nd rfl (.inl rfl))
        (pss_cons (ps_set (i := 3) scTEL.nd rfl (.inl rfl) (pv 1))
        (pss_cons (ps_while PassesOwn.never
          (PW.pt (pw_and (pt_cmpR op_lt (pv 3) (pe_callB call_len_str (by rfl) Z.len PySem.boot_len (pa_cons (pv 0) pa_nil)) (nomark _))
            (pw_and1 (pt_cmpR op_in_sign (pe_item_str (pv 0) (pv 3) (fun _ _ => rfl)) (pv 2) (by with_unfolding_all rfl)))))
          (pss_one (ps_set (i := 3) scTEL.nd rfl (.inl rfl) (pe_op op_add (pv 3) pe_int))))
        (pss_one (ps_if (pt_cmpR op_gt (pv 3) (pv 1) (nomark _))
          (pss_one (ps_ret (pe_ifExp (PW.pt (pw_or (pt_cmpR op_ne (pe_item_str (pv 0) (pv 1) (fun _ _ => rfl)) pe_str (nomark _))
            (pw_or1 (pt_cmpR op_eq (pv 3) (pe_op op_add (pv 1) pe_int) (nomark _))))) (pv 3) pe_non))) pss_nil)))))
      (pss_cons (ps_if (pt_cmpR op_eq (pe_item_str (pv 0) (pv 1) (fun _ _ => rfl)) pe_str (nomark _))
        (pss_one (ps_ret (pe_call GS hr (by rfl) gS FS.kp bS .nil pass0 (pa_cons (pv 0) (pa_cons (pv 1) pa_nil))))) pss_nil)
      (pss_one (ps_ret (pe_ifExp (pt_cmpR op_in_sign (pe_item_str (pv 0) (pv 1) (fun _ _ => rfl)) pe_str (by with_unfolding_all rfl)) (pe_op op_add (pv 1) pe_int) pe_non)))), ?_⟩
    obtain ⟨c, hc⟩ : ∃ c, (cp x)[a]? = some c := ⟨_, List.getElem?_eq_getElem ha⟩
    have hc' : x.cps[((a : Int)).toNat]? = some c := by rw [cp_get]; exact hc
    have ed := drop_at hc
    have ll := cp_len x
    have m63 := most63 hl
    refine ⟨by show 2 ≤ sizeLine; decide, fun t ht0 => ?_⟩
    have sm0 : Same H (upd H t (.tup [.str "abcdefghijklmnopqrstuvwxyz", .str "0123456789"])) := same_upd ht0
    refine ⟨t, rfl, ⟨_, SqT.of upd_same⟩, for_tup (xs := [.str "abcdefghijklmnopqrstuvwxyz", .str "0123456789"])
      (fun i σ H' => Same H H' ∧ H' t = some (.tup [.str "abcdefghijklmnopqrstuvwxyz", .str "0123456789"]) ∧ (∃ o2 o3, σ = [some (.str x), some (.int a), o2, o3]) ∧ (1 ≤ i → isLet c = false) ∧ (2 ≤ i → isDig c = false))
      ⟨sm0, upd_same, ⟨_, _, rfl⟩, fun z => absurd z (by decide), fun z => absurd z (by decide)⟩ (fun i σ H' _ z => SqT.of z.2.1) ?_ ?_⟩
    · rintro i v σ H1 hi ⟨sm, htt, ⟨o2, o3, rfl⟩, nl, nd⟩
      obtain ⟨z, p, rfl, hp, hi2⟩ : ∃ z p, v = .str z ∧ (∀ c, decide (c ∈ cp z) = p c) ∧ ((i = 0 ∧ p = isLet) ∨ (i = 1 ∧ p = isDig)) := by
        match i, hi with
        | 0, hi =>
          cases hi
          exact ⟨_, _, rfl, letters_is, .inl ⟨rfl, rfl⟩⟩
        | 1, hi =>
          cases hi
          exact ⟨_, _, rfl, digits_is, .inr ⟨rfl, rfl⟩⟩
        | n + 2, hi => simp at hi
      refine ⟨.int a, rfl, ?_⟩
      refine ⟨fun m σ H' => ∃ b : Nat, m = (cp x).length - b ∧ σ = [some (.str x), some (.int a), some (.str z), some (.int b)] ∧ H1 = H' ∧ b ≤ (cp x).length ∧ b + span p ((cp x).drop b) = a + span p ((cp x).drop a), ⟨_, a, rfl, rfl, rfl, by omega, rfl⟩, ?_⟩
      rintro m σ H' ⟨b, rfl, rfl, rfl, hb, he⟩
      refine ⟨.int b, rfl, .str x, rfl, x, rfl, most_line (by rw [← cp_len]; exact hl), _, _, rfl, rfl, _, rfl, ?_⟩
      rw [lt_dec]
      refine ite2 (fun e1 => ?_) (fun e1 => ?_)
      · have lt : b < (cp x).length := of_decide_eq_true e1
        obtain ⟨d, hd⟩ : ∃ d, (cp x)[b]? = some d := ⟨_, List.getElem?_eq_getElem lt⟩
        refine ⟨.str x, rfl, .int b, rfl, x, b, d, rfl, rfl, by omega, by omega, by omega, by rw [cp_get]; exact hd, .str z, rfl, d, z, rfl, rfl, _, rfl, ?_⟩
        rw [show decide (d ∈ z.cps.toList) = p d from hp d]
        cases hpd : p d with
        | true =>
          refine iteT ⟨fun σ' H' => ∃ m', m' < (cp x).length - b ∧ ∃ b : Nat, m' = (cp x).length - b ∧ σ' = [some (.str x), some (.int a), some (.str z), some (.int b)] ∧ H1 = H' ∧ b ≤ (cp x).length ∧ b + span p ((cp x).drop b) = a + span p ((cp x).drop a), fun _ _ w => w, ?_⟩
          refine ⟨_, rfl, _, _, rfl, rfl, (cp x).length - (b + 1), by omega, b + 1, rfl, rfl, rfl, lt, ?_⟩
          rw [← he, drop_at hd, span_pos hpd]
          omega
        | false =>
          rw [drop_at hd, span_neg hpd] at he
          have eb : b = a + span p ((cp x).drop a) := by omega
          refine iteF ?_
          refine ⟨_, rfl, .int a, rfl, _, _, rfl, rfl, _, rfl, ?_⟩
          cases hpc : p c with
          | false =>
            have e0 : b = a := by
              rw [eb, ed, span_neg hpc]
              rfl
            rw [decide_eq_false (by omega)]
            refine iteF ⟨sm, htt, ⟨_, _, rfl⟩, fun _ => ?_, fun z => ?_⟩
            · rcases hi2 with ⟨rfl, rfl⟩ | ⟨rfl, rfl⟩
              · exact hpc
              · exact nl (by omega)
            · rcases hi2 with ⟨rfl, rfl⟩ | ⟨rfl, rfl⟩
              · omega
              · exact hpc
          | true =>
            have e1 : span p ((cp x).drop a) = span p ((cp x).drop (a + 1)) + 1 := by rw [ed, span_pos hpc]
            rw [decide_eq_true (by omega)]
            refine iteT ⟨.str x, rfl, .int a, rfl, x, a, c, rfl, rfl, by omega, by omega, by omega, hc', rfl, _, rfl, ?_⟩
            rw [dec_sign c 48 _ (by decide +kernel)]
            have q' := q _ sm
            rcases hi2 with ⟨rfl, rfl⟩ | ⟨rfl, rfl⟩
            · rw [decide_eq_false (let_sign hpc).2.2.2.1]
              rw [ed, tokL_let hpc, ← ed, ← eb] at q'
              exact iteT (iteT ⟨_, rfl, q'⟩)
            · rw [ed, tokL_dig hpc, ← ed] at q' ht
              by_cases e48 : c = 48
              · by_cases e9 : 1 < span isDig ((cp x).drop a)
                · rw [if_pos ⟨e48, e9⟩] at ht
                  exact absurd rfl ht
                · rw [if_neg (fun z => e9 z.2), ← eb] at q'
                  rw [decide_eq_true e48]
                  refine iteF ⟨_, rfl, .int a, rfl, _, _, rfl, rfl, rfl, _, rfl, ?_⟩
                  rw [decide_eq_true (by rw [show (b : Int) = (a : Int) + 1 by omega])]
                  exact iteT ⟨_, rfl, q'⟩
              · rw [if_neg (fun z => e48 z.1), ← eb] at q'
                rw [decide_eq_false e48]
                exact iteT (iteT ⟨_, rfl, q'⟩)
      · have ge : ¬ b < (cp x).length := fun z => e1 (decide_eq_true z)
        rw [List.drop_eq_nil_of_le (by omega), span_nil] at he
        have eb : b = a + span p ((cp x).drop a) := by omega
        refine ⟨_, rfl, .int a, rfl, _, _, rfl, rfl, _, rfl, ?_⟩
        cases hpc : p c with
        | false =>
          have e0 : b = a := by
            rw [eb, ed, span_neg hpc]
            rfl
          rw [decide_eq_false (by omega)]
          refine iteF ⟨sm, htt, ⟨_, _, rfl⟩, fun _ => ?_, fun z => ?_⟩
          · rcases hi2 with ⟨rfl, rfl⟩ | ⟨rfl, rfl⟩
            · exact hpc
            · exact nl (by omega)
          · rcases hi2 with ⟨rfl, rfl⟩ | ⟨rfl, rfl⟩
            · omega
            · exact hpc
        | true =>
          have e1 : span p ((cp x).drop a) = span p ((cp x).drop (a + 1)) + 1 := by rw [ed, span_pos hpc]
          rw [decide_eq_true (by omega)]
          refine iteT ⟨.str x, rfl, .int a, rfl, x, a, c, rfl, rfl, by omega, by omega, by omega, hc', rfl, _, rfl, ?_⟩
          rw [dec_sign c 48 _ (by decide +kernel)]
          have q' := q _ sm
          rcases hi2 with ⟨rfl, rfl⟩ | ⟨rfl, rfl⟩
          · rw [decide_eq_false (let_sign hpc).2.2.2.1]
            rw [ed, tokL_let hpc, ← ed, ← eb] at q'
            exact iteT (iteT ⟨_, rfl, q'⟩)
          · rw [ed, tokL_dig hpc, ← ed] at q' ht
            by_cases e48 : c = 48
            · by_cases e9 : 1 < span isDig ((cp x).drop a)
              · rw [if_pos ⟨e48, e9⟩] at ht
                exact absurd rfl ht
              · rw [if_neg (fun z => e9 z.2), ← eb] at q'
                rw [decide_eq_true e48]
                refine iteF ⟨_, rfl, .int a, rfl, _, _, rfl, rfl, rfl, _, rfl, ?_⟩
                rw [decide_eq_true (by rw [show (b : Int) = (a : Int) + 1 by omega])]
                exact iteT ⟨_, rfl, q'⟩
            · rw [if_neg (fun z => e48 z.1), ← eb] at q'
              rw [decide_eq_false e48]
              exact iteT (iteT ⟨_, rfl, q'⟩)
    · rintro σ H1 ⟨sm, htt, ⟨o2, o3, rfl⟩, nl, nd⟩
      have nl' := nl (by decide)
      have nd' := nd (by decide)
      refine ⟨.str x, rfl, .int a, rfl, x, a, c, rfl, rfl, by omega, by omega, by omega, hc', rfl, _, rfl, ?_⟩
      rw [dec_sign c 34 _ (by decide +kernel)]
      by_cases e34 : c = 34
      · subst e34
        rw [decide_eq_true rfl]
        exact iteT ⟨.str x, rfl, .int a, rfl, x, a, rfl, hc, ht, hl, q _ sm⟩
      · rw [decide_eq_false e34]
        refine iteF ⟨.str x, rfl, .int a, rfl, x, a, c, rfl, rfl, by omega, by omega, by omega, hc', c, _, rfl, rfl, _, rfl, ?_⟩
        rw [signs_is]
        have q' := q _ sm
        rw [ed, tokL_cons, if_neg (c := isLet c = true) (by rw [nl']; decide), if_neg (c := isDig c = true) (by rw [nd']; decide), if_neg e34] at q' ht
        cases hs : isSign c with
        | true =>
          rw [if_pos hs] at q'
          exact iteT ⟨_, rfl, _, _, rfl, rfl, q'⟩
        | false =>
          rw [if_neg (by rw [hs]; decide)] at ht
          exact absurd rfl ht
end
end K2

set_option maxHeartbeats 2000000
/-! The law's own walk over all tokens of a text. -/
namespace K2
open PySem PySem.Spec PyProof.Rows L2

theorem index_sign (x : Str) (c a : Nat) (ha : a ≤ (cp x).length) (hc : c ∈ (cp x).drop a) :
    Txt.indexFrom x ⟨#[c]⟩ (a : Int) = some (a + span (fun y => decide (y ≠ c)) ((cp x).drop a)) := by
  have z := find3_sign x c a ha
  have ne : span (fun y => decide (y ≠ c)) ((cp x).drop a) ≠ ((cp x).drop a).length := by
    intro e
    obtain ⟨i, hi, ei⟩ := List.mem_iff_getElem.mp hc
    have := span_get (l := (cp x).drop a) (i := i) (List.getElem?_eq_getElem hi) (p := fun y => decide (y ≠ c)) (by omega)
    exact of_decide_eq_true this ei
  rw [if_neg ne] at z
  unfold Txt.find3 at z
  unfold Txt.indexFrom
  cases e : Builtin.Str.occurrences x ⟨#[c]⟩ (fromIndex x.length (a : Int)) x.length 1 with
  | nil =>
    rw [e] at z
    have z' : (-1 : Int) = ((a + span (fun y => decide (y ≠ c)) ((cp x).drop a) : Nat) : Int) := z
    omega
  | cons k r =>
    rw [e] at z
    have z' : (k : Int) = ((a + span (fun y => decide (y ≠ c)) ((cp x).drop a) : Nat) : Int) := z
    show some k = _
    rw [show k = a + span (fun y => decide (y ≠ c)) ((cp x).drop a) by omega]

theorem cut_from (x : Str) (a : Nat) (h : a ≤ (cp x).length) : (cutS x (some (a : Int)) none).cps.toList = (cp x).drop a := by
  have ll := cp_len x
  unfold cutS
  rw [HT.sIx_nat, HT.sIx_none, show min a x.length = a by omega]
  show (List.take (x.length - a) (List.drop a x.cps.toList)) = (cp x).drop a
  rw [List.take_of_length_le (by rw [List.length_drop]; show (cp x).length - a ≤ _; omega)]

def noTake : WX := fun _ _ _ _ => False
theorem gap_is (c : Nat) : decide (c ∈ cp (" \n" : Str)) = isGap c :=
  pure_str _ [32, 10] isGap (by decide +kernel) (by decide +kernel) (fun c h => by simp [isGap] at h; omega) (by decide +kernel) c

theorem Toks.upd_lst {H : Hp} {vs : List V} {es : List (Nat × List Nat)} {l : Addr} {o : HO} {xs : List V} (x : Toks H vs es) (hl : H l = some (.lst xs)) : Toks (upd H l o) vs es := by
  induction x with
  | nil => exact .nil
  | cons a _ ih =>
    obtain ⟨t, ev, ht⟩ := a
    refine .cons ⟨t, ev, ?_⟩ ih
    rw [upd_ne (by rintro rfl; rw [hl] at ht; cases ht)]
    exact ht
theorem same_lst {H H' : Hp} {l : Addr} {o : HO} (x : Same H H') (hl : H l = none) : Same H (upd H' l o) := fun b u e => by
  rw [upd_ne (ne_of_none e hl)]
  exact x b u e

section
variable {P : Program} {w : World} {K : PySem.W.Frag} {mg : Str → Option Value} {base : Heap}
theorem takes_no {X : Cx} : Takes X noTake := by
  rintro u s' ⟨a, B, sI, pins, σ, H, cls, d, e, I, nb, up, sky, na, os, ag, w⟩
  exact w.elim

theorem ok_TL {f fE : Addr} {fd fdE : FuncData} (F : Fun K "_law_tokens" "_law_tokens" sTokensL f fd) (Z : Bare mg)
    (FE : Fun K "_law_token_end" "_law_token_end" sTokEndL fE fdE) (bE : Binds K fdE ["_law_page", "_law_at"] []) (gE : mg "_law_token_end" = some (.ref fE))
    (GE : FnOk P w K mg base CX0 2 fE fdE ["_law_page", "_law_at"] spTEL) :
    FnOk P w K mg base CX0 3 f fd ["_law_page"] spTL := by
  refine F.ok scTL (fun vs H Q E h => ?_) (fun cdv A outer s H vs Q E hr h => ?_)
  · obtain ⟨x, rfl, _⟩ := h
    rfl
  · obtain ⟨x, rfl, hcl, hl, q⟩ := h
    refine ⟨_, pss_cons (ps_par (by rfl) scTL.nd (i := 1) (j := 2) rfl rfl (by decide) rfl rfl (pa_cons (pe_lst pa_nil) (pa_cons pe_int pa_nil)) (by rfl))
      (pss_cons (ps_while PassesOwn.never
        (pt_cmpR op_lt (pv 2) (pe_callB call_len_str (by rfl) Z.len PySem.boot_len (pa_cons (pv 0) pa_nil)) (nomark _))
        (pss_cons (ps_set (i := 3) scTL.nd rfl (.inl rfl) (pe_op op_add (pv 2) pe_int))
        (pss_cons (ps_if (pt_cmpR op_eq (pe_item_str (pv 0) (pv 2) (fun _ _ => rfl)) pe_str (nomark _))
          (pss_one (ps_set (i := 3) scTL.nd rfl (.inl rfl) (pe_ifExp (pt_cmpR op_in_sign pe_str (pe_slice sl_str (pv 0) (po_some (pv 2)) po_none) (by with_unfolding_all rfl))
            (pe_bmS PySem.F.plainAttrs_str PySem.F.slot_str_index PySem.F.type_str_index (mt_indexFromX rfl takes_no) (pv 0) (pa_cons pe_str (pa_cons (pv 2) pa_nil)))
            (pe_callB call_len_str (by rfl) Z.len PySem.boot_len (pa_cons (pv 0) pa_nil)))))
          (pss_one (ps_if (pt_cmpR op_notIn_sign (pe_item_str (pv 0) (pv 2) (fun _ _ => rfl)) pe_str (by with_unfolding_all rfl))
            (pss_cons (ps_set (i := 3) scTL.nd rfl (.inl rfl) (pe_call GE hr (by rfl) gE FE.kp bE .nil pass0 (pa_cons (pv 0) (pa_cons (pv 2) pa_nil))))
            (pss_cons (ps_expr (pe_bm PySem.F.plainAttrs_list PySem.F.slot_list_append PySem.F.type_list_append mt_append (pv 1)
              (pa_cons (pe_tup (pa_cons (pv 2) (pa_cons (pe_ifExp (pt_cmpR op_isN (pv 3) pe_non (nomark _)) pe_str (pe_slice sl_str (pv 0) (po_some (pv 2)) (po_some (pv 3)))) pa_nil))) pa_nil)))
            (pss_one (ps_if (pt_cmpR op_isN (pv 3) pe_non (nomark _)) (pss_one (ps_ret (pv 1))) pss_nil)))) pss_nil)))
        (pss_one (ps_set (i := 2) scTL.nd rfl (.inl rfl) (pv 3))))))
      (pss_one (ps_ret (pe_op op_cat (pv 1) (pe_lst (pa_cons (pe_tup (pa_cons (pe_callB call_len_str (by rfl) Z.len PySem.boot_len (pa_cons (pv 0) pa_nil)) (pa_cons pe_str pa_nil))) pa_nil)))))), ?_⟩
    obtain ⟨L, hL⟩ : ∃ L, cp x = L := ⟨_, rfl⟩
    have ll : x.length = L.length := by rw [← cp_len, hL]
    have hl' : L.length ≤ most := hL ▸ hl
    have m63 := most63 hl
    rw [hL] at m63
    have m24 : most + 10 < sizeLine := by decide
    rw [hL] at hcl q
    refine ⟨Nat.zero_le _, fun l hlN => ?_⟩
    refine ⟨_, _, rfl, ?_⟩
    have inv0 : ∀ H', H' = upd H l (.lst []) → Same H H' ∧ H' l = some (.lst []) := by
      rintro H' rfl
      exact ⟨same_upd hlN, upd_same⟩
    generalize upd H l (.lst []) = G at inv0
    obtain ⟨g1, g2⟩ := inv0 G rfl
    refine ⟨fun m σ H' => ∃ (p : Nat) (e : Option V) (ys : List V) (done : List (Nat × List Nat)), m = L.length - p ∧ p ≤ L.length ∧ σ = [some (.str x), some (.ref l), some (.int p), e] ∧
      Same H H' ∧ H' l = some (.lst ys) ∧ Toks H' ys done ∧ done ++ scan p (L.drop p) = scan 0 L ∧ clean (L.drop p) = true ∧ ys.length ≤ p, ⟨_, 0, none, [], [], rfl, Nat.zero_le _, rfl, g1, g2, .nil, rfl, hcl, Nat.le_refl _⟩, ?_⟩
    rintro m σ H1 ⟨p, e, ys, done, rfl, hp, rfl, sm, hl1, tk, hs, hcp, hys⟩
    refine ⟨.int p, rfl, .str x, rfl, x, rfl, most_line (by rw [← cp_len]; exact hl), _, _, rfl, rfl, _, rfl, ?_⟩
    rw [lt_dec, hL]
    refine ite2 (fun e1 => ?_) (fun e1 => ?_)
    · have lt : p < L.length := of_decide_eq_true e1
      obtain ⟨c, hc⟩ : ∃ c, L[p]? = some c := ⟨_, List.getElem?_eq_getElem lt⟩
      have hc' : x.cps[((p : Int)).toNat]? = some c := by rw [cp_get, hL]; exact hc
      have ed := drop_at hc
      refine ⟨fun σ' H' => ∃ m', m' < L.length - p ∧ ∃ (p : Nat) (e : Option V) (ys : List V) (done : List (Nat × List Nat)), m' = L.length - p ∧ p ≤ L.length ∧ σ' = [some (.str x), some (.ref l), some (.int p), e] ∧
        Same H H' ∧ H' l = some (.lst ys) ∧ Toks H' ys done ∧ done ++ scan p (L.drop p) = scan 0 L ∧ clean (L.drop p) = true ∧ ys.length ≤ p, fun _ _ w => w, ?_⟩
      -- the next place
      have step : ∀ (k : Nat), 0 < k → p + k ≤ L.length → skip (L.drop p) = k + skip ((L.drop p).drop k) →
          ∃ m', m' < L.length - p ∧ ∃ (p' : Nat) (e : Option V) (ys : List V) (done : List (Nat × List Nat)), m' = L.length - p' ∧ p' ≤ L.length ∧ [some (.str x), some (.ref l), some (V.int ((p + k : Nat) : Int)), some (V.int ((p + k : Nat) : Int))] = [some (.str x), some (.ref l), some (.int p'), e] ∧
            Same H H1 ∧ H1 l = some (.lst ys) ∧ Toks H1 ys done ∧ done ++ scan p' (L.drop p') = scan 0 L ∧ clean (L.drop p') = true ∧ ys.length ≤ p' := by
        intro k k0 hk hsk
        refine ⟨L.length - (p + k), by omega, p + k, _, ys, done, rfl, hk, rfl, sm, hl1, tk, ?_, ?_, by omega⟩
        · rw [scan_shift hsk, List.drop_drop] at hs
          exact hs
        · rw [clean_shift hsk (by rw [List.length_drop]; omega), List.drop_drop] at hcp
          exact hcp
      refine ⟨.int p, rfl, _, _, rfl, rfl, ?_⟩
      refine ⟨.str x, rfl, .int p, rfl, x, p, c, rfl, rfl, by omega, by omega, by omega, hc', rfl, _, rfl, ?_⟩
      rw [dec_sign c 35 _ (by decide +kernel)]
      by_cases e35 : c = 35
      · subst e35
        rw [decide_eq_true rfl]
        have esp : span noFeed (L.drop p) = 1 + span noFeed (L.drop (p + 1)) := by rw [ed, span_pos (by decide)]; omega
        have hk1 : span noFeed (L.drop p) ≤ L.length - p := by
          rw [← List.length_drop]
          exact span_le _ _
        have hst := step (span noFeed (L.drop p)) (by omega) (by omega) (by rw [esp, ed, skip_hash, Nat.add_comm 1 (span _ _), List.drop_succ_cons])
        refine iteT ⟨.str x, rfl, .int p, rfl, p, rfl, x, rfl, most_line (by rw [← cp_len]; exact hl), 10, _, rfl, rfl, _, rfl, ?_⟩
        rw [cut_from x p (by rw [hL]; exact hp), hL]
        by_cases hm : 10 ∈ L.drop p
        · rw [decide_eq_true hm]
          refine iteT ⟨.str x, rfl, rfl, .int p, rfl, x, _, _, rfl, rfl, ?_, ?_⟩
          · intro k hk
            have z := index_sign x 10 p (by rw [hL]; exact hp) (by rw [hL]; exact hm)
            rw [hL] at z
            have ek : k = p + span noFeed (L.drop p) := Option.some.inj (hk.symm.trans z)
            subst ek
            exact ⟨_, rfl, hst⟩
          · intro hk
            have z := index_sign x 10 p (by rw [hL]; exact hp) (by rw [hL]; exact hm)
            exact absurd (hk.symm.trans z) (by simp)
        · rw [decide_eq_false hm]
          have all : span noFeed (L.drop p) = (L.drop p).length := span_all fun i d hd => decide_eq_true (by
            rintro rfl
            exact hm (List.mem_of_getElem? hd))
          rw [List.length_drop] at all
          refine iteF ⟨.str x, rfl, x, rfl, most_line (by rw [← cp_len]; exact hl), _, rfl, ?_⟩
          rw [all, show p + (L.length - p) = x.length by omega] at hst
          exact hst
      · rw [decide_eq_false e35]
        refine iteF ⟨.str x, rfl, .int p, rfl, x, p, c, rfl, rfl, by omega, by omega, by omega, hc', c, _, rfl, rfl, _, rfl, ?_⟩
        rw [gap_is]
        cases hg : isGap c with
        | true =>
          exact iteF ⟨_, rfl, step 1 (by decide) lt (by rw [ed, skip_gap hg]; rfl)⟩
        | false =>
          have ht : tokL (L.drop p) ≠ 0 := by
            rw [ed]
            exact clean_tokL hg e35 (by rw [← ed]; exact hcp)
          have tl := tokL_le (L.drop p)
          rw [List.length_drop] at tl
          refine iteT ⟨.str x, rfl, .int p, rfl, x, p, rfl, by rw [hL]; exact lt, by rw [hL]; exact ht, hl, fun H2 sm2 => ?_⟩
          rw [hL]
          have hl2 := sm2 _ _ hl1
          refine ⟨.ref l, rfl, .inl ⟨rfl, _, SqL.of hl2⟩, .int p, rfl, _, rfl, rfl, _, rfl, ?_⟩
          rw [decide_eq_false (by intro z; cases z)]
          refine iteF ⟨.str x, rfl, .int p, rfl, p, rfl, _, rfl, _, rfl, x, rfl, most_line (by rw [← cp_len]; exact hl), by show 2 ≤ sizeLine; decide, fun t ht0 => ?_⟩
          have sm3 : Same H2 (upd H2 t (.tup [.int p, .str (cutS x (some (p : Int)) (some ((p + tokL (L.drop p) : Nat) : Int)))])) := same_upd ht0
          have hl3 := sm3 _ _ hl2
          refine ⟨l, ys, _, rfl, rfl, hl3, Nat.lt_of_le_of_lt (by omega : ys.length ≤ most + 10) m24, ?_⟩
          refine ⟨_, rfl, rfl, _, rfl, ?_⟩
          rw [decide_eq_false (by intro z; cases z)]
          refine iteF ⟨_, rfl, L.length - (p + tokL (L.drop p)), by omega, p + tokL (L.drop p), _, _, done ++ [(p, (L.drop p).take (tokL (L.drop p)))], rfl, by omega, rfl, ?_, upd_same, ?_, ?_, ?_, ?_⟩
          · intro b u eb
            have n : b ≠ l := ne_of_none eb hlN
            rw [upd_ne n]
            exact sm3 _ _ (sm2 _ _ (sm _ _ eb))
          · refine Toks.upd_lst (xs := ys) (((tk.mono sm2).mono sm3).snoc ⟨t, rfl, ?_⟩) hl3
            rw [upd_same, cut_is x p _ (by omega) (by rw [hL]; omega), hL, show p + tokL (L.drop p) - p = tokL (L.drop p) by omega]
          · rw [ed, scan_here hg e35 (by rw [← ed]; exact ht), ← ed, List.drop_drop] at hs
            rw [List.append_assoc]
            exact hs
          · rw [ed, clean_here hg e35 (by rw [← ed]; exact ht), ← ed, List.drop_drop] at hcp
            exact hcp
          · rw [List.length_append, List.length_singleton]
            omega
    · have ge : ¬ p < L.length := fun z => e1 (decide_eq_true z)
      rw [List.drop_eq_nil_of_le (by omega), scan_nil, List.append_nil] at hs
      refine ⟨.ref l, rfl, .str x, rfl, x, rfl, most_line (by rw [← cp_len]; exact hl), by show 2 ≤ sizeLine; decide, fun t ht0 => ?_⟩
      have sm2 : Same H1 (upd H1 t (.tup [.int x.length, .str ""])) := same_upd ht0
      refine ⟨by show 1 ≤ sizeLine; decide, fun l2 hl2 => ?_⟩
      have sm3 : Same (upd H1 t (.tup [.int x.length, .str ""])) (upd (upd H1 t (.tup [.int x.length, .str ""])) l2 (.lst [.ref t])) := same_upd hl2
      refine ⟨l, l2, ys, [.ref t], rfl, rfl, sm3 _ _ (sm2 _ _ hl1), upd_same, by show ys.length + 1 ≤ sizeLine; omega, fun l3 hl3 => ?_⟩
      have sm4 : Same (upd (upd H1 t (.tup [.int x.length, .str ""])) l2 (.lst [.ref t])) (upd (upd (upd H1 t (.tup [.int x.length, .str ""])) l2 (.lst [.ref t])) l3 (.lst (ys ++ [.ref t]))) := same_upd hl3
      refine q _ l3 _ (fun b u eb => sm4 _ _ (sm3 _ _ (sm2 _ _ (sm _ _ eb)))) ?_ upd_same ?_
      · cases e3 : H l3 with
        | none => rfl
        | some o => exact absurd (sm3 _ _ (sm2 _ _ (sm _ _ e3))) (by rw [hl3]; exact fun z => nomatch z)
      · rw [← hs]
        refine Toks.snoc ((((tk.mono sm2).mono sm3).mono sm4)) ⟨t, rfl, sm4 _ _ (sm3 _ _ ?_)⟩
        rw [upd_same, ll]
        rfl
end
end K2

set_option maxHeartbeats 1000000
/-! Generators that are woken by a def's own loop: between two of their turns all that is not theirs may change.
A turn is read in a context of its own, whose entry is the state in which the generator was woken, without what is younger than its frame;
what is younger and not its own is pinned. No exception leaves such a generator, and it has no cells. -/
namespace GF
open PySem PySem.Spec PyProof.Rows L2 GenW

/-! ### the first n objects of a heap -/
def cut (n : Nat) (h : Heap) : Heap := { h with objs := h.objs.extract 0 n }
theorem cut_get {n : Nat} {h : Heap} {b : Nat} (hb : b < n) : (cut n h).get? b = h.get? b := by
  have e : (h.objs.extract 0 n)[b]? = h.objs[b]? := by
    rw [Array.getElem?_extract]
    by_cases hs : b < h.objs.size
    · rw [if_pos (by omega), Nat.zero_add]
    · rw [if_neg (by omega), Array.getElem?_eq_none (by omega)]
  unfold Heap.get? cut
  rw [e]
theorem cut_none {n : Nat} {h : Heap} {b : Nat} (hb : n ≤ b) : (cut n h).get? b = none := by
  have e : (h.objs.extract 0 n)[b]? = none := by
    rw [Array.getElem?_extract, if_neg (by omega)]
  unfold Heap.get? cut
  rw [e]
theorem cut_of {n : Nat} {h : Heap} {b : Nat} {o : Obj} (e : (cut n h).get? b = some o) : b < n ∧ h.get? b = some o := by
  by_cases hb : b < n
  · exact ⟨hb, (cut_get hb).symm.trans e⟩
  · rw [cut_none (by omega)] at e
    cases e
theorem cut_size {n : Nat} {h : Heap} : (cut n h).objs.size = min n h.objs.size := by
  show (h.objs.extract 0 n).size = _
  rw [Array.size_extract, Nat.sub_zero]

/-- a generator: the text's facts, its def, its frame at L, its own object go at a; A: the around in which it is woken -/
structure GD where
  P : Program
  w : World
  K : PySem.W.Frag
  mg : Str → Option Value
  base : Heap
  N : List Str
  qual : Str
  scope : Scope
  f : Addr
  cd : Value
  A : Around
  outer : List Env
  L : Addr
  a : Addr
  go : Obj
def GD.env (G : GD) : Env := envOfC G.qual G.scope G.L G.f G.cd
/-- the context of a turn that began in the state s0 -/
def GD.x (G : GD) (s0 : Shared) (H0 : Hp) (pn : List (Addr × Obj)) : Cx :=
  { prog := G.P, w := G.w, K := G.K, mg := G.mg, base := G.base, A := G.A.deeper G.env, N := G.N, s_0 := { s0 with heap := cut G.L s0.heap }, H_0 := H0,
    env := G.env, outer := G.outer, stack := G.env :: G.outer, ex := [], fn := fun _ => true, calm := true, pn := pn, xe := fun _ _ => False }
structure GD.Fix (G : GD) : Prop where
  mod : Mod G.K G.mg G.base
  kind : G.scope.kind = .function
  cells : G.env.cells = []
  plain : ∀ x, G.env.kindOf x ≠ some .cell ∧ G.env.kindOf x ≠ some .free
  hd : G.A.handled = none
  frames : G.A.frames = some G.outer
  bsz : G.base.objs.size ≤ G.L
  old : ∀ b ∈ frs G.outer, b < G.L
  La : G.L < G.a
  gon : ∀ v, G.go.data ≠ .cell v
/-- it may be woken in this state -/
structure GD.Fit (G : GD) (σ : L2.St) (H : Hp) (s : Shared) : Prop where
  e0 : Env0 G.P G.w G.K G.mg G.base G.A G.outer s H
  own : s.heap.get? G.a = some G.go
  na : H G.a = none
  nL : H G.L = none
  sz : G.L ≤ s.heap.objs.size
  loc : ∃ m, s.heap.Ns G.L m ∧ ∀ (i : Nat) (x : Str) (v : V), G.N[i]? = some x → σ[i]? = some (some v) → Vis G.scope x → ∃ u, RelV v u ∧ Look G.env s.heap m x u
  len : σ.length = G.N.length

/-- what is pinned through a turn: all that is younger than the frame, of no cell, not tracked -/
structure GD.Pn (G : GD) (H : Hp) (s : Shared) (pn : List (Addr × Obj)) : Prop where
  of : ∀ p ∈ pn, G.L < p.1 ∧ s.heap.get? p.1 = some p.2 ∧ H p.1 = none ∧ ∀ v, p.2.data ≠ .cell v
  all : ∀ b o, G.L < b → s.heap.get? b = some o → H b = none → (∀ v, o.data ≠ .cell v) → (b, o) ∈ pn
open Classical in
theorem GD.pn_ex (G : GD) (H : Hp) (s : Shared) : ∃ pn, G.Pn H s pn := by
  refine ⟨(List.range s.heap.objs.size).filterMap fun b => match s.heap.get? b with
    | some o => if G.L < b ∧ H b = none ∧ ∀ v, o.data ≠ .cell v then some (b, o) else none
    | none => none, fun p hp => ?_, fun b o h1 h2 h3 h4 => ?_⟩
  · obtain ⟨b, hb, e⟩ := List.mem_filterMap.mp hp
    split at e
    · next o ho =>
      split at e
      · next c =>
        cases e
        exact ⟨c.1, ho, c.2.1, c.2.2⟩
      · cases e
    · cases e
  · refine List.mem_filterMap.mpr ⟨b, List.mem_range.mpr (Heap.lt_size h2), ?_⟩
    rw [h2]
    exact if_pos ⟨h1, h3, h4⟩

theorem GD.Fit.inv {G : GD} (F : G.Fix) {σ : L2.St} {H : Hp} {s : Shared} (h : G.Fit σ H s) {pn : List (Addr × Obj)} (p : G.Pn H s pn) : Inv (G.x s H pn) [] σ H s := by
  have noc : ∀ x c, ¬ G.env.cells.lookup x = some c := fun x c e => by
    rw [F.cells] at e
    cases e
  have nofs : ∀ b, G.L ≤ b → b ∉ frs G.outer := fun b hb hm => Nat.lt_irrefl b (Nat.lt_of_lt_of_le (F.old b hm) hb)
  refine ⟨⟨F.mod, F.kind, rfl, rfl, ?_, fun x y c e => absurd e (noc x c), fun x e => ?_, fun x c _ e => absurd e (noc x c), fun _ => F.hd, Around.frames_deeper F.frames, .inr ⟨rfl, rfl⟩,
    fun b hb => (by cases hb), fun b o e => ?_, ?_, fun b o e hb => (by cases hb), fun b hb => (by cases hb), ?_, h.e0.frf⟩, rfl, h.e0.bare, ⟨fun b o e n _ _ => (cut_of e).2, fun b o e n _ _ => ⟨o.slots, (cut_of e).2⟩,
    fun b o e n _ => n, fun b o e _ => ⟨o, (cut_of e).2⟩, fun b xs e => e, fun b o u e => e, fun b ps e => ⟨#[], by have e : H b = _ := e; rw [e]; simp⟩⟩, h.loc, fun x c e => absurd e (noc x c), h.nL, fun x c e => absurd e (noc x c), fun q hq => ?_, h.e0.hok, h.len⟩
  · show (cut G.L s.heap).objs.size ≤ G.L
    rw [cut_size]
    exact Nat.min_le_left _ _
  · rcases e with e | e
    · exact absurd e (F.plain x).1
    · exact absurd e (F.plain x).2
  · obtain ⟨e1, e2⟩ := h.e0.bs b o e
    have lt : b < G.L := Nat.lt_of_lt_of_le (Heap.lt_size e) F.bsz
    exact ⟨(cut_get lt).trans e1, e2⟩
  · show G.base.objs.size ≤ (cut G.L s.heap).objs.size
    rw [cut_size]
    exact Nat.le_min.mpr ⟨F.bsz, Nat.le_trans F.bsz h.sz⟩
  · -- the outer frames stand among the first
    show (cut G.L s.heap).FunFrames G.base G.outer
    have old := F.old
    have fn := h.e0.funs
    clear nofs noc
    generalize G.outer = l at old fn
    induction l with
    | nil => trivial
    | cons env rest ih =>
      obtain ⟨hk, ⟨L', o, hf, hn, ho, hd⟩, hr⟩ := fn
      refine ⟨hk, ⟨L', o, hf, hn, ?_, hd⟩, ih (fun b hb => old b ?_) hr⟩
      · have lt : L' < G.L := old L' (by
          show L' ∈ List.filterMap _ _
          rw [List.filterMap_cons, hf]
          exact List.mem_cons_self)
        exact (cut_get lt).trans ho
      · show b ∈ List.filterMap _ _
        rw [List.filterMap_cons]
        split
        · exact hb
        · exact List.mem_cons_of_mem _ hb
  · rw [List.append_nil] at hq
    obtain ⟨h1, h2, h3, h4⟩ := p.of q hq
    exact ⟨h2, h3, Nat.ne_of_gt h1, nofs _ (Nat.le_of_lt h1), h4⟩

/-- what may have changed through a turn: the frame, and what is younger and not pinned -/
def GD.ch (G : GD) (s0 : Shared) (pn : List (Addr × Obj)) : List Addr := (List.range s0.heap.objs.size).filter fun b => decide (G.L ≤ b) && !(pn.any fun p => p.1 == b)
theorem GD.ch_of {G : GD} {s0 : Shared} {pn : List (Addr × Obj)} {b : Addr} (h : b ∈ G.ch s0 pn) : G.L ≤ b := by
  have := (List.mem_filter.mp h).2
  simp only [Bool.and_eq_true, decide_eq_true_eq] at this
  exact this.1
theorem GD.not_ch {G : GD} {s0 : Shared} {pn : List (Addr × Obj)} {b : Addr} {o : Obj} (e : s0.heap.get? b = some o) (h : b ∉ G.ch s0 pn) : b < G.L ∨ ∃ u, (b, u) ∈ pn := by
  rcases Nat.lt_or_ge b G.L with c | c
  · exact .inl c
  · refine .inr ?_
    by_cases d : pn.any (fun p => p.1 == b) = true
    · obtain ⟨p, hp, hb⟩ := List.any_eq_true.mp d
      have hb := beq_iff_eq.mp hb
      exact ⟨p.2, by rw [← hb]; exact hp⟩
    · refine absurd (List.mem_filter.mpr ⟨List.mem_range.mpr (Heap.lt_size e), ?_⟩) h
      rw [Bool.and_eq_true]
      exact ⟨decide_eq_true c, by rw [Bool.eq_false_iff.mpr d]; rfl⟩

/-- a turn's end, as the one who woke it sees it -/
theorem GD.ran {G : GD} (F : G.Fix) {σ : L2.St} {H0 H : Hp} {s0 s : Shared} {pn : List (Addr × Obj)} (p : G.Pn H0 s0 pn) (I : Inv (G.x s0 H0 pn) [] σ H s) :
    s.os = s0.os ∧ AllBare s.gens ∧ HOk G.P G.w H s.heap ∧ Un (frs G.outer) (G.ch s0 pn) H0 H s0.heap s.heap := by
  have pin : ∀ {b : Addr} {u o : Obj}, (b, u) ∈ pn → s0.heap.get? b = some o → s.heap.get? b = some o ∧ H b = none := fun {b u o} hm e => by
    obtain ⟨_, h2, _, _⟩ := p.of _ hm
    have h2 : s0.heap.get? b = some u := h2
    have eo : o = u := Option.some.inj (e.symm.trans h2)
    subst eo
    obtain ⟨q1, q2, _⟩ := I.pin (b, o) (by rw [List.append_nil]; exact hm)
    exact ⟨q1, q2⟩
  refine ⟨I.os, I.bare, I.hok, ⟨fun b o e n hf hx => ?_, fun b o e n hf hx => ?_, fun b o e n hx => ?_, fun b o e hx => ?_, I.base.tups, I.base.frzs, I.base.tbls⟩⟩
  · rcases GD.not_ch e hx with lt | ⟨u, hm⟩
    · exact I.base.keep b o ((cut_get lt).trans e) n hf (by simp [GD.x])
    · exact (pin hm e).1
  · rcases GD.not_ch e hx with lt | ⟨u, hm⟩
    · exact I.base.slot b o ((cut_get lt).trans e) n hf (by simp [GD.x])
    · exact ⟨o.slots, (pin hm e).1⟩
  · rcases GD.not_ch e hx with lt | ⟨u, hm⟩
    · exact I.base.free b o ((cut_get lt).trans e) n (by simp [GD.x])
    · exact (pin hm e).2
  · rcases GD.not_ch e hx with lt | ⟨u, hm⟩
    · exact I.base.there b o ((cut_get lt).trans e) (by simp [GD.x])
    · exact ⟨o, (pin hm e).1⟩

/-! ### statements of such a generator -/
/-- what is wanted behind a statement: by what is out so far, the abstract heap at the last waking -/
structure GW where
  nx : List V → Hp → L2.St → Hp → Prop
  rt : List V → Hp → V → Hp → Prop
  bk : List V → Hp → L2.St → Hp → Prop := fun _ _ _ _ => False
  ct : List V → Hp → L2.St → Hp → Prop := fun _ _ _ _ => False
abbrev TW := GW → List V → Hp → L2.St → Hp → Prop
def GW.at (D : GW) (ys : List V) (H0 : Hp) : Ends := { nx := D.nx ys H0, rt := D.rt ys H0, bk := D.bk ys H0, ct := D.ct ys H0 }
/-- what stands at a waking: the pins, and what the one who wakes it knows (T, by how many are out) -/
def GD.PT (G : GD) (T : Nat → Shared → Hp → Prop) (k : Nat) (H0 : Hp) (s0 : Shared) (pn : List (Addr × Obj)) : Prop := G.Pn H0 s0 pn ∧ T k s0 H0
def GD.pos (G : GD) (T : Nat → Shared → Hp → Prop) (D : GW) (ys : List V) (s0 : Shared) (f : Flow) (s : Shared) : Prop := ∃ H0 pn, G.PT T ys.length H0 s0 pn ∧ SP (G.x s0 H0 pn) [] (D.at ys H0) f s
/-- an item comes out; whoever woke it may wake it again where it fits -/
def GD.yl (G : GD) (T : Nat → Shared → Hp → Prop) (M : Nat) (Yk : List V → Hp → V → Hp → Prop) : Protocol := fun n s0 v s kap =>
  ∃ H0 pn ys x σ H, n + 1 + ys.length = M ∧ G.PT T ys.length H0 s0 pn ∧ Inv (G.x s0 H0 pn) [] σ H s ∧ RelV x v ∧ Yk ys H0 x H ∧ ∀ s' H', G.Fit σ H' s' → T (ys.length + 1) s' H' → kap (.send .none) s'
def GD.ed (G : GD) (T : Nat → Shared → Hp → Prop) (M : Nat) (Rk : List V → Hp → Hp → Prop) : GenEnd := fun n s0 r s =>
  ((r = .ok (.ret .none) ∨ r = .ok .next) ∧ ∃ H0 pn ys σ H, n + ys.length = M ∧ G.PT T ys.length H0 s0 pn ∧ Inv (G.x s0 H0 pn) [] σ H s ∧ Rk ys H0 H) ∨ ∃ e, r = .error e ∧ False
/-- where its code stands -/
structure GD.At (G : GD) (c : Code) (fs : List Frame) (gd : Bool → Bool) : Prop where
  over : G.A.over c fs = G.A.deeper G.env
  split : splitAtGen fs = none
  guard : fs.any Frame.guarded = false
  gd : gd false = false

section
variable {G : GD} {T : Nat → Shared → Hp → Prop} {M : Nat} {Yk : List V → Hp → V → Hp → Prop} {Rk : List V → Hp → Hp → Prop}
abbrev GSeg (G : GD) (T : Nat → Shared → Hp → Prop) (M : Nat) (Yk : List V → Hp → V → Hp → Prop) (Rk : List V → Hp → Hp → Prop) (n : Nat) (s0 : Shared) (c : Code) (t : Sem PySem.Fin) (fs : List Frame) (s : Shared) : Prop :=
  Seg (model G.P G.w) G.A (G.ed T M Rk) (G.yl T M Yk) n s0 c t fs s
def GD.Go (G : GD) (T : Nat → Shared → Hp → Prop) (M : Nat) (Yk : List V → Hp → V → Hp → Prop) (Rk : List V → Hp → Hp → Prop) (c : Code) (fs : List Frame) (k : Flow → Sem PySem.Fin) (D : GW) : Prop :=
  ∀ (n : Nat) (ys : List V) (s0 s : Shared) (f : Flow), n + ys.length = M → G.pos T D ys s0 f s → GSeg G T M Yk Rk n s0 c (k f) fs s
structure GT (G : GD) (T : Nat → Shared → Hp → Prop) (M : Nat) (Yk : List V → Hp → V → Hp → Prop) (Rk : List V → Hp → Hp → Prop) (st : Stmt) (t : TW) : Prop where
  run : ∀ (n : Nat) (ys : List V) (s0 : Shared) (c : Code) (fs : List Frame) (k : Flow → Sem PySem.Fin) (j : Value → Sem PySem.Fin) (gd : Bool → Bool) (lv : List Value → List Value) (s : Shared) (σ : L2.St) (H0 H : Hp) (pn : List (Addr × Obj)) (D : GW),
    G.At c fs gd → n + ys.length = M → G.Go T M Yk Rk c fs k D → G.PT T ys.length H0 s0 pn → Inv (G.x s0 H0 pn) [] σ H s → t D ys H0 σ H →
    GSeg G T M Yk Rk n s0 c ((exec st G.env).wrap k j gd lv) fs s
structure GTs (G : GD) (T : Nat → Shared → Hp → Prop) (M : Nat) (Yk : List V → Hp → V → Hp → Prop) (Rk : List V → Hp → Hp → Prop) (sts : List Stmt) (t : TW) : Prop where
  run : ∀ (n : Nat) (ys : List V) (s0 : Shared) (c : Code) (fs : List Frame) (k : Flow → Sem PySem.Fin) (j : Value → Sem PySem.Fin) (gd : Bool → Bool) (lv : List Value → List Value) (s : Shared) (σ : L2.St) (H0 H : Hp) (pn : List (Addr × Obj)) (D : GW),
    G.At c fs gd → n + ys.length = M → G.Go T M Yk Rk c fs k D → G.PT T ys.length H0 s0 pn → Inv (G.x s0 H0 pn) [] σ H s → t D ys H0 σ H →
    GSeg G T M Yk Rk n s0 c ((execs sts G.env).wrap k j gd lv) fs s

/-- a statement without a yield in it -/
def tStill (t : TS) : TW := fun D ys H0 σ H => t (D.at ys H0) σ H
theorem gt_ps {st : Stmt} {t : TS} (h : ∀ s0 H0 pn, PS (G.x s0 H0 pn) st t) : GT G T M Yk Rk st (tStill t) := by
  refine ⟨fun n ys s0 c fs k j gd lv s σ H0 H pn D at' hn go p I ht => ?_⟩
  refine seg_wrap ?_
  rw [at'.over]
  exact wpAny_mono ((h s0 H0 pn).run [] s σ H (D.at ys H0) I ht) (fun f s' hs => go n ys s0 s' f hn ⟨H0, pn, p, hs⟩) fun x s' hx => False.elim hx
def tW0 : TW := fun D ys H0 σ H => D.nx ys H0 σ H
theorem gts_nil : GTs G T M Yk Rk [] tW0 :=
  ⟨fun n ys s0 c fs k j gd lv s σ H0 H pn D at' hn go p I ht => seg_execs_nil (go n ys s0 s .next hn ⟨H0, pn, p, σ, H, I, ht⟩)⟩
def tWThen (t u : TW) : TW := fun D ys H0 σ H => t { D with nx := fun ys' H0' σ' H' => u D ys' H0' σ' H' } ys H0 σ H
theorem gts_cons {st : Stmt} {rest : List Stmt} {t u : TW} (a : GT G T M Yk Rk st t) (b : GTs G T M Yk Rk rest u) : GTs G T M Yk Rk (st :: rest) (tWThen t u) := by
  refine ⟨fun n ys s0 c fs k j gd lv s σ H0 H pn D at' hn go p I ht => ?_⟩
  refine seg_execs_cons ?_
  refine a.run n ys s0 c fs _ j gd lv s σ H0 H pn { D with nx := fun ys' H0' σ' H' => u D ys' H0' σ' H' } at' hn (fun n' ys' s0' s' f hn' hs => ?_) p I ht
  obtain ⟨H0', pn', p', hs⟩ := hs
  cases f with
  | next =>
    obtain ⟨σ', H', I', q⟩ := hs
    exact b.run n' ys' s0' c fs k j gd lv s' σ' H0' H' pn' D at' hn' go p' I' q
  | brk => exact go n' ys' s0' s' .brk hn' ⟨H0', pn', p', hs⟩
  | cont => exact go n' ys' s0' s' .cont hn' ⟨H0', pn', p', hs⟩
  | ret u => exact go n' ys' s0' s' (.ret u) hn' ⟨H0', pn', p', hs⟩
theorem gts_one {st : Stmt} {t : TW} (a : GT G T M Yk Rk st t) : GTs G T M Yk Rk [st] (tWThen t tW0) := gts_cons a gts_nil

/-- yield e -/
def tWYield (M : Nat) (Yk : List V → Hp → V → Hp → Prop) (te : TE) : TW := fun D ys H0 σ H => ys.length < M ∧ te σ H fun x H1 => Yk ys H0 x H1 ∧ ∀ H', D.nx (ys ++ [x]) H' σ H'
theorem gt_yield (F : G.Fix) {e : Expr} {te : TE} {yp pos : Pos} (he : ∀ s0 H0 pn, PE (G.x s0 H0 pn) e te) (hco : G.env.scope.isCoroutine = false := by rfl) (hi : interactive G.env = false := by rfl) :
    GT G T M Yk Rk (.Expr (.Yield (some e) yp) pos) (tWYield M Yk te) := by
  refine ⟨fun n ys s0 c fs k j gd lv s σ H0 H pn D at' hn go p I ht => ?_⟩
  obtain ⟨hlt, ht⟩ := ht
  obtain ⟨n, rfl⟩ : ∃ m, n = m + 1 := ⟨n - 1, by omega⟩
  refine seg_Expr_Yield at'.split at'.gd at'.guard ?_ hco hi
  rw [at'.over]
  refine wpAny_mono ((he s0 H0 pn).run [] s σ H _ I ht) (fun v s' hv => ?_) fun x s' hx => False.elim hx
  obtain ⟨x, H1, I1, rv, hy, q⟩ := hv
  intro kap hk
  refine ⟨H0, pn, ys, x, σ, H1, hn, p, I1, rv, hy, fun s2 H2 fit t2 => hk .none s2 ?_⟩
  obtain ⟨pn2, p2⟩ := G.pn_ex H2 s2
  refine go n (ys ++ [x]) s2 s2 .next ?_ ⟨H2, pn2, ⟨p2, by rw [List.length_append]; exact t2⟩, σ, H2, fit.inv F p2, q H2⟩
  rw [List.length_append, List.length_singleton]
  omega

/-- while -/
def tWWhile (c : TT) (tb : TW) : TW := fun D ys H0 σ H => ∃ W : Nat → List V → Hp → L2.St → Hp → Prop, (∃ m, W m ys H0 σ H) ∧ ∀ m ys H0 σ H, W m ys H0 σ H →
  c σ H fun b H1 => if b = true then ∃ N : List V → Hp → L2.St → Hp → Prop, (∀ ys' H0' σ' H', N ys' H0' σ' H' → ∃ m', m' < m ∧ W m' ys' H0' σ' H') ∧ tb { D with nx := N, ct := N, bk := D.nx } ys H0 σ H1 else D.nx ys H0 σ H1
theorem GD.At.loop {c c' : Code} {fs : List Frame} {gd : Bool → Bool} {k : Result → Sem PySem.Fin} {l kp : List Value} {p : Pos} (g : G.At c fs gd) (hw : c'.weight = 0) (hu : c'.cUnits = 0) :
    G.At c' (.ret k none (gd false) l c p kp :: fs) id := by
  refine ⟨(over_loop hw hu).trans g.over, ?_, ?_, rfl⟩
  · show (splitAtGen fs).map _ = none
    rw [g.split]
    rfl
  · show (gd false || fs.any Frame.guarded) = false
    rw [g.gd, g.guard]
    rfl
theorem gt_while {test : Expr} {body : List Stmt} {pos : Pos} {tc : TT} {tb : TW} (hc : ∀ s0 H0 pn, PT (G.x s0 H0 pn) test tc) (hb : GTs G T M Yk Rk body tb) : GT G T M Yk Rk (.While test body [] pos) (tWWhile tc tb) := by
  refine ⟨fun n ys s0 c fs k j gd lv s σ H0 H pn D at' hn go p I ht => ?_⟩
  obtain ⟨W, ⟨m0, w0⟩, turn⟩ := ht
  refine seg_While fun ps => ?_
  have al := fun (kk : Result → Sem PySem.Fin) => at'.loop (k := kk) (c' := .whileLoop test body [] G.env) (l := lv []) (kp := []) (p := ps) rfl rfl
  have loop : ∀ (m n : Nat) (ys : List V) (s0 s : Shared) (σ : L2.St) (H0 H : Hp) (pn : List (Addr × Obj)), n + ys.length = M → W m ys H0 σ H → G.PT T ys.length H0 s0 pn → Inv (G.x s0 H0 pn) [] σ H s →
      GSeg G T M Yk Rk n s0 (.whileLoop test body [] G.env) ((model G.P G.w).den (.whileLoop test body [] G.env))
        (.ret (fun r => ((match r with | .ok f => (.pure f : Sem Flow) | .error e => .raise e).onRaise (cameBack G.env)).wrap k j gd lv) none (gd false) (lv []) c ps [] :: fs) s := by
    intro m
    induction m using Nat.strongRecOn with
    | ind m ih =>
      intro n ys s0 s σ H0 H pn hn w p I
      refine seg_whileLoop ?_
      rw [(al _).over]
      refine wpAny_mono ((hc s0 H0 pn).run [] s σ H _ I (turn m ys H0 σ H w)) (fun b s' hb' => ?_) fun x s' hx => False.elim hx
      obtain ⟨H2, I2, q2⟩ := hb'
      cases b with
      | true =>
        obtain ⟨N, hN, q2⟩ := q2
        rw [if_pos rfl]
        refine hb.run n ys s0 _ _ _ _ id id s' σ H0 H2 pn { D with nx := N, ct := N, bk := D.nx } (al _) hn (fun n' ys' s0' s3 f hn' hs => ?_) p I2 q2
        obtain ⟨H0', pn', p', hs⟩ := hs
        cases f with
        | next =>
          obtain ⟨σ3, H3, I3, n3⟩ := hs
          obtain ⟨m', hm, w3⟩ := hN ys' H0' σ3 H3 n3
          exact seg_again rfl (ih m' hm n' ys' s0' s3 σ3 H0' H3 pn' hn' w3 p' I3)
        | cont =>
          obtain ⟨σ3, H3, I3, n3⟩ := hs
          obtain ⟨m', hm, w3⟩ := hN ys' H0' σ3 H3 n3
          exact seg_again rfl (ih m' hm n' ys' s0' s3 σ3 H0' H3 pn' hn' w3 p' I3)
        | brk => exact seg_leaf (.ok .next) (go n' ys' s0' s3 .next hn' ⟨H0', pn', p', hs⟩)
        | ret v => exact seg_leaf (.ok (.ret v)) (go n' ys' s0' s3 (.ret v) hn' ⟨H0', pn', p', hs⟩)
      | false =>
        rw [if_neg Bool.false_ne_true]
        refine seg_execs_nil ?_
        exact seg_leaf (.ok .next) (go n ys s0 s' .next hn ⟨H0, pn, p, σ, H2, I2, q2⟩)
  exact loop m0 n ys s0 s σ H0 H pn hn w0 p I

/-- the whole body, from the first waking -/
theorem gen_body (F : G.Fix) {body : List Stmt} {t : TW} (h : GTs G T M Yk Rk body t) {σ : L2.St} {H : Hp} {s : Shared} (fit : G.Fit σ H s) (t0 : T 0 s H)
    (ht : t { nx := fun ys H0 _ H' => Rk ys H0 H', rt := fun ys H0 v H' => v = .non ∧ Rk ys H0 H' } [] H σ H) :
    GSeg G T M Yk Rk M s (.func body G.env) ((model G.P G.w).den (.func body G.env)) [] s := by
  obtain ⟨pn, p⟩ := G.pn_ex H s
  refine seg_func ?_
  refine h.run M [] s _ [] _ _ id id s σ H H pn _ ⟨over_func, rfl, rfl, rfl⟩ (Nat.add_zero _) (fun n ys s0 s' f hn hs => ?_) ⟨p, t0⟩ (fit.inv F p) ht
  obtain ⟨H0, pn', p', hs⟩ := hs
  cases f with
  | next =>
    obtain ⟨σ', H', I', q⟩ := hs
    exact seg_end (.ok (.ret .none)) (.inl ⟨.inl rfl, H0, pn', ys, σ', H', hn, p', I', q⟩)
  | brk => exact False.elim hs.choose_spec.choose_spec.2
  | cont => exact False.elim hs.choose_spec.choose_spec.2
  | ret u =>
    obtain ⟨v, σ', H', I', rv, ev, q⟩ := hs
    subst ev
    obtain rfl : u = Value.none := rv
    exact seg_end (.ok (.ret .none)) (.inl ⟨.inl rfl, H0, pn', ys, σ', H', hn, p', I', q⟩)
end
end GF

set_option maxHeartbeats 1000000
namespace GF
open PySem PySem.Spec PyProof.Rows L2 GenW

/-- the frame's slots, as they stand in the object at L -/
def GD.Loc (G : GD) (σ : L2.St) (h : Heap) : Prop :=
  ∃ m, h.Ns G.L m ∧ ∀ (i : Nat) (x : Str) (v : V), G.N[i]? = some x → σ[i]? = some (some v) → Vis G.scope x → ∃ u, RelV v u ∧ Look G.env h m x u
theorem GD.Loc.at {G : GD} (F : G.Fix) {σ : L2.St} {h h' : Heap} (l : G.Loc σ h) (k : ∀ o, h.get? G.L = some o → h'.get? G.L = some o) : G.Loc σ h' := by
  obtain ⟨m, hn, q⟩ := l
  refine ⟨m, hn.at' k, fun i x v h1 h2 h3 => ?_⟩
  obtain ⟨u, r, lk⟩ := q i x v h1 h2 h3
  refine ⟨u, r, ?_⟩
  rcases lk with lk | ⟨lk, _⟩
  · exact .inl lk
  · rcases lk with z | z
    · exact absurd z (F.plain x).1
    · exact absurd z (F.plain x).2

/-- the generator as a call of its def has left it -/
structure Made (G : GD) (body : List Stmt) (σ : L2.St) (H : Hp) (sc s : Shared) (g : Nat) : Prop where
  L : G.L = sc.heap.objs.size
  La : G.L < G.a
  own : s.heap.get? G.a = some G.go
  gen : ∀ h : Heap, h.get? G.a = some G.go → h.IsGen G.a g
  gens : s.gens[g]? = some (.fresh (.func body G.env))
  os : s.os = sc.os
  bare : AllBare s.gens
  keep : ∀ b o, sc.heap.get? b = some o → s.heap.get? b = some o
  nL : H G.L = none
  na : H G.a = none
  loc : G.Loc σ s.heap
  gon : ∀ v, G.go.data ≠ .cell v
  len : σ.length = G.N.length

theorem made_of {P : Program} {w : World} {K : PySem.W.Frag} {mg : Str → Option Value} {base : Heap} {f : Addr} {name qual : Str} {params : Arguments} {body : List Stmt} {scope : Scope} {dV kV doc pm cdv ct oc : Value} {an od : Option Addr}
    {osl : Array (Option Value)} {N ps : List Str} {A Aw : Around} {outer : List Env} {s : Shared} {H : Hp} {args : Args} {us : List Value} {vs : List V}
    (lk : K.lookup f = some ⟨oc, od, .func (PySem.W.fnOf name qual params body scope dV kV doc pm an cdv ct), osl⟩) (hcd : PySem.W.codeIn K cdv qual = true) (S : GScope N ps scope)
    (room : A.depth < recursionLimit) (hd : A.handled = none) (e0 : Env0 P w K mg base A outer s H) (hb : BindsTo s (PySem.W.fnOf name qual params body scope dV kV doc pm an cdv ct) args (ps.zip us)) (hl : vs.length = ps.length) (r : Vals vs us) :
    codeAny (model P w) A (.call (.ref f) args) (fun r s' => match r with
      | .ok (.ret u) => ∃ a go g, u = .ref a ∧ Made { P := P, w := w, K := K, mg := mg, base := base, N := N, qual := qual, scope := scope, f := f, cd := cdv, A := Aw, outer := outer, L := s.heap.objs.size, a := a, go := go } body (start N vs) H s s' g
      | _ => False) s := by
  have KX : K.In s.heap := e0.mod.kin.keeps fun b o e => (e0.bs b o e).1
  have lim : s.heap.NoLimit := e0.mod.nolimit.keeps fun b o e => (e0.bs b o e).1
  have kinds : ∀ y ∈ ps.zip us, scope.names.lookup y.1 = some .local ∨ (scope.names.lookup y.1 = some .cell ∧ ((cellsFrom (s.heap.objs.size + 1) scope.names []).lookup y.1).isSome = true) := by
    rintro ⟨n, v⟩ hy
    rcases S.par n (List.of_mem_zip hy).1 with q | q
    · exact .inl q
    · exact .inr ⟨q, PySem.W.cellsFrom_some _ _ _ (.inl q)⟩
  refine codeAny_call_generator room (KX _ _ lk) rfl S.co S.gen rfl (PySem.W.codeRec_of KX hcd) (hb _ _ _ _ ?_)
  refine wpAny_newFunctionEnv_cells S.kind kinds fun env he s1 x => ?_
  subst he
  have I1 : Inv (gcxOf P w K mg base N qual scope f cdv A outer s H (fun _ _ _ => False) []) [] (start N vs) H s1 := inv_startG S hd e0 hl r x
  have kp1 : ∀ b o, s.heap.get? b = some o → s1.heap.get? b = some o := x.toInCall.keep
  have lt1 : s.heap.objs.size < s1.heap.objs.size := x.toInCall.ns.lt
  refine ⟨lim.keeps kp1, ?_⟩
  have main : ∀ (go : Obj) (nm qn : Value) (tk : Nat), go.cls = .type "generator" → go.data = .fields #[.int s1.gens.size 0, nm, qn] → go.slots = #[] → (∀ h : Heap, (h.push go).get? h.objs.size = some go) →
      Made { P := P, w := w, K := K, mg := mg, base := base, N := N, qual := qual, scope := scope, f := f, cd := cdv, A := Aw, outer := outer, L := s.heap.objs.size, a := s1.heap.objs.size, go := go } body (start N vs) H s
        { s1 with gens := s1.gens.push (.fresh (.func body (envOfC qual scope s.heap.objs.size f cdv))), toks := tk, heap := s1.heap.push go } s1.gens.size := by
    intro go nm qn tk hc hdt hsl hpush
    have kp2 : ∀ b o, s1.heap.get? b = some o → (s1.heap.push go).get? b = some o := fun b o e => Heap.get?_push_of_some _ e
    refine ⟨rfl, lt1, hpush _, fun h e => ⟨go, nm, qn, e, hc, hdt, hsl⟩, Array.getElem?_push_size .., I1.os, AllBare.push I1.bare rfl, fun b o e => kp2 b o (kp1 b o e), I1.free, I1.hok.fresh (Nat.le_refl _), ?_, fun v q => (by rw [hdt] at q; cases q), I1.len⟩
    obtain ⟨m, hn, q⟩ := I1.loc
    refine ⟨m, hn.at' fun o e => kp2 _ o e, fun i y v h1 h2 h3 => ?_⟩
    obtain ⟨u, ru, l⟩ := q i y v h1 h2 h3
    refine ⟨u, ru, ?_⟩
    rcases l with l | ⟨l1, c, l2, o, ho, l3⟩
    · exact .inl l
    · exact .inr ⟨l1, c, l2, o, kp2 _ _ ho, l3⟩
  exact ⟨_, _, _, rfl, main _ _ _ _ rfl rfl rfl fun h => Heap.get?_push_size _ rfl⟩

/-! ### what leaves the table of generators as it is -/
section
variable {X : Cx}
/-- a block that no generator runs in -/
structure QSs (X : Cx) (sts : List Stmt) (t : TS) : Prop where
  run : ∀ (pins : List (Addr × Obj)) (s : Shared) (σ : L2.St) (H : Hp) (D : Ends), Inv X pins σ H s → t D σ H →
    wpAny (model X.prog X.w) X.A (execs sts X.env) (fun f s' => SP X pins D f s' ∧ s'.gens = s.gens) X.xe s
/-- a store into a name, in which no generator runs -/
structure QG (X : Cx) (tg : Expr) (g : TG) : Prop where
  run : ∀ (pins : List (Addr × Obj)) (s : Shared) (σ : L2.St) (H : Hp) (v : V) (u : Value) (Q : L2.St → Hp → Prop), Inv X pins σ H s → RelV v u → g v σ H Q →
    wpAny (model X.prog X.w) X.A (assign tg X.env u) (fun _ s' => (∃ σ' H', Inv X pins σ' H' s' ∧ Q σ' H') ∧ s'.gens = s.gens) X.xe s

theorem inv_gens {pins : List (Addr × Obj)} {σ : L2.St} {H : Hp} {s : Shared} {gs : Array GenState} (I : Inv X pins σ H s) (b : AllBare gs) : Inv X pins σ H { s with gens := gs } :=
  I.call' (ch := []) rfl (Un.kept fun _ _ e => e) I.hok b fun b z => by simp at z
end

/-- an expression that makes a generator: its slots at the beginning, the abstract heap -/
structure PGenF (X : Cx) (G0 : GD → Prop) (iter : Expr) (body : List Stmt) (tg : L2.St → Hp → (L2.St → Hp → Prop) → Prop) : Prop where
  run : ∀ (pins : List (Addr × Obj)) (s : Shared) (σ : L2.St) (H : Hp) (Q : L2.St → Hp → Prop), Inv X pins σ H s → tg σ H Q →
    wpAny (model X.prog X.w) X.A (eval iter X.env) (fun u s' => ∃ (G : GD) (σg : L2.St) (H1 : Hp) (sc : Shared) (g : Nat), G0 G ∧ u = .ref G.a ∧ Inv X pins σ H1 sc ∧ Made G body σg H1 sc s' g ∧ Q σg H1) X.xe s

section
variable {X : Cx} {iter tgt : Expr} {body gbody : List Stmt} {pos : Pos} {tg : L2.St → Hp → (L2.St → Hp → Prop) → Prop} {gt : TG} {tb : TS} {G0 : GD → Prop}
/-- for x in g(..): body. M: more than it hands out; Yk: what comes, by what is out; Rk: the end; Wd: the word, by the number of turns -/
def tForGen (X : Cx) (G0 : GD → Prop) (gbody : List Stmt) (tg : L2.St → Hp → (L2.St → Hp → Prop) → Prop) (gt : TG) (tb : TS) : TS := fun D σ H => tg σ H fun σg H1 =>
  ∃ (M : Nat) (Yk : List V → Hp → V → Hp → Prop) (Rk : List V → Hp → Hp → Prop) (Wd : Nat → L2.St → Hp → Prop),
    Wd 0 σ H1 ∧ (∀ σ' H', ¬ Wd M σ' H') ∧
    (∀ G T, G0 G → G.Fix → ∃ t, GTs G T M Yk Rk gbody t ∧ ∀ H3, t { nx := fun ys H0 _ H' => Rk ys H0 H', rt := fun ys H0 v H' => v = .non ∧ Rk ys H0 H' } [] H3 σg H3) ∧
    (∀ ys σ' H0 x H2, Wd ys.length σ' H0 → Yk ys H0 x H2 → gt x σ' H2 fun σ3 H3 => tb { D with nx := Wd (ys.length + 1), ct := Wd (ys.length + 1), bk := D.nx } σ3 H3) ∧
    ∀ ys σ' H0 H2, Wd ys.length σ' H0 → Rk ys H0 H2 → D.nx σ' H2

theorem ps_forGen (hp : PassesOwn (model X.prog X.w) X.A X.env X.xe) (hc : X.calm = true) (room : X.A.depth < recursionLimit) (hi : PGenF X G0 iter gbody tg) (hg : QG X tgt gt) (hb : QSs X body tb)
    (hG : ∀ G, G0 G → G.P = X.prog ∧ G.w = X.w ∧ G.K = X.K ∧ G.mg = X.mg ∧ G.base = X.base ∧ G.A = X.A.in1 ∧ G.outer = X.stack ∧ G.scope.kind = .function ∧ G.env.cells = [] ∧ ∀ x, G.env.kindOf x ≠ some .cell ∧ G.env.kindOf x ≠ some .free)
    (hs : ∀ x, foldedSetIterable iter X.env x = pure x := by intro _; rfl) : PS X (.For tgt iter body [] pos) (tForGen X G0 gbody tg gt tb) := by
  refine ⟨fun pins s σ H D I h => ?_⟩
  refine wpAny_For (thn (hi.run pins s σ H _ I h) fun u s1 hu => ?_) hs
  obtain ⟨G, σg, H1, sc, g, g0, rfl, I1, m, M, Yk, Rk, Wd, w0, wM, body, turn, fin⟩ := hu
  obtain ⟨e1, e2, e3, e4, e5, e6, e7, e8, e9, e10⟩ := hG G g0
  refine wpAny_pyIter_gen (m.gen _ m.own) ?_
  have oldS : ∀ b ∈ frs X.stack, b < G.L := fun b hb => by
    obtain ⟨_, o, ho, _⟩ := I1.stack.mem hb
    rw [m.L]
    exact Heap.lt_size ho
  have F : G.Fix := ⟨by rw [e3, e4, e5]; exact I1.ok.mod, e8, e9, e10, by rw [e6]; exact I1.ok.hd hc, by rw [e6, e7]; exact I1.ok.frames, by
    rw [m.L, e5]
    exact Nat.le_trans I1.ok.bsz I1.sz, by rw [e7]; exact oldS, m.La, m.gon⟩
  -- what is younger than the frame is none of the caller's
  have young : ∀ b, G.L ≤ b → (b ∈ X.ex ∨ X.s_0.heap.objs.size ≤ b) ∧ b ≠ X.env.locals ∧ (∀ x c, X.env.cells.lookup x = some c → c ≠ b) ∧ ∀ p ∈ X.pn ++ pins, p.1 ≠ b := fun b hb => by
    rw [m.L] at hb
    refine ⟨.inr (Nat.le_trans I1.sz hb), fun e => ?_, fun x c hx e => ?_, fun p hp e => ?_⟩
    · rw [e] at hb
      exact absurd (Nat.lt_of_lt_of_le I1.lt hb) (Nat.lt_irrefl _)
    · obtain ⟨v, o, ho, _⟩ := I1.cell x c hx
      rw [e] at ho
      exact absurd (Nat.lt_of_lt_of_le (Heap.lt_size ho) hb) (Nat.lt_irrefl _)
    · have ho := (I1.pin p hp).1
      rw [e] at ho
      exact absurd (Nat.lt_of_lt_of_le (Heap.lt_size ho) hb) (Nat.lt_irrefl _)
  have nfs : ∀ b, G.L ≤ b → b ∉ X.fs := fun b hb hm => by
    obtain ⟨_, o, ho, _⟩ := I1.ok.funs.mem hm
    rw [m.L] at hb
    exact absurd (Nat.lt_of_lt_of_le (Heap.lt_size ho) (Nat.le_trans I1.sz hb)) (Nat.lt_irrefl _)
  have I2 : Inv X pins σ H1 s1 := I1.call' (ch := []) m.os (Un.kept m.keep) (I1.hok.kept m.keep) m.bare fun b z => by simp at z
  -- what the loop knows of the state: T
  let T : Nat → Shared → Hp → Prop := fun i s' H' => ∃ σ', Inv X pins σ' H' s' ∧ Wd i σ' H' ∧ s'.heap.get? G.a = some G.go ∧ H' G.a = none
  obtain ⟨t, ht, hq⟩ := body G T g0 F
  let Know : Nat → Nat → Shared → Prop := fun n i s' => ∃ σ' H' σ2 gs, i + n = M ∧ Inv X pins σ' H' s' ∧ Wd i σ' H' ∧ s'.gens[g]? = some gs ∧ s'.heap.get? G.a = some G.go ∧ H' G.a = none ∧ H' G.L = none ∧ G.L ≤ s'.heap.objs.size ∧
    G.Loc σ2 s'.heap ∧ σ2.length = G.N.length ∧ ∀ s3 H3, G.Fit σ2 H3 s3 → T i s3 H3 → gs.Goes (model X.prog X.w) X.A.in1 (G.ed T M Rk) (G.yl T M Yk) n (.send .none) s3
  refine codeAny_forLoop_any (fun n s' => ∃ i, Know n i s') ?_ M ⟨0, σ, H1, σg, _, Nat.zero_add _, I2, w0, m.gens, m.own, m.na, m.nL, ?_, m.loc, m.len, fun s3 H3 fit t3 => ⟨rfl, ?_⟩⟩
  rotate_left
  · rw [m.L]
    obtain ⟨m1, h1, _⟩ := m.loc
    rw [← m.L]
    exact Nat.le_of_lt h1.lt
  · have z := gen_body F ht fit t3 (hq H3)
    unfold GSeg at z
    rw [e1, e2, e6] at z
    exact z
  rintro n s3 ⟨i, σ3, H3, σ2, gs, hn, I3, wd, hgs, own, na, nL, szL, loc, len2, know⟩
  have hgl : g < s3.gens.size := (Array.getElem?_eq_some_iff.mp hgs).1
  have hnpos : n ≠ 0 := fun z => wM σ3 H3 (by
    have : i = M := by omega
    rw [← this]
    exact wd)
  obtain ⟨n, rfl⟩ : ∃ m, n = m + 1 := ⟨n - 1, by omega⟩
  have I4 : Inv X pins σ3 H3 (s3.setGen g .running) := inv_gens I3 (allBare_setGen I3.bare rfl)
  have fit : G.Fit σ2 H3 (s3.setGen g .running) := by
    refine ⟨?_, own, na, nL, szL, loc, len2⟩
    have e0 := I4.env0
    rw [e1, e2, e3, e4, e5, e6, e7]
    exact ⟨e0.frames, e0.mod, e0.bs, e0.bsz, e0.funs, e0.frf, e0.hok, e0.bare⟩
  have goes := know _ H3 fit ⟨σ3, I4, wd, own, na⟩
  -- behind a turn of the generator
  have after : ∀ {s5 : Shared} {σ5 : L2.St} {H0 H5 : Hp} {pn : List (Addr × Obj)} {k : Nat}, G.PT T k H0 (s3.setGen g .running) pn → Inv (G.x (s3.setGen g .running) H0 pn) [] σ5 H5 s5 →
      ∃ σ6, Wd k σ6 H0 ∧ Inv X pins σ6 H5 s5 ∧ AllBare s5.gens ∧ s5.heap.get? G.a = some G.go ∧ H5 G.a = none := fun {s5 σ5 H0 H5 pn k} pt I5 => by
    obtain ⟨pn0, σ6, I6, wd6, own0, na0⟩ := pt
    obtain ⟨r1, r2, r3, r4⟩ := G.ran F pn0 I5
    rw [e1, e2] at r3
    rw [e7] at r4
    have hm0 : (G.a, G.go) ∈ pn := pn0.all _ _ F.La own0 na0 F.gon
    obtain ⟨q1, q2, _⟩ := I5.pin (G.a, G.go) (by rw [List.append_nil]; exact hm0)
    exact ⟨σ6, wd6, I6.call' r1 r4 r3 r2 fun b hb => young b (GD.ch_of hb), r2, q1, q2⟩
  refine wpAny_passesOwn hp (wpAny_gsz (n := g + 1) hgl (next_genG (A := X.A) (I3.ok.hd hc) I3.nolimit room (m.gen _ own) hgs goes (fun v s5 gs' hbare hv => ?_) (fun s5 hf h' hk => ?_) fun e s5 he => False.elim he))
  · -- an item
    intro hsz
    obtain ⟨H0, pn, ys, x, σ5, H5, hm, pt, I5, rv, hy, know'⟩ := hv
    have hm : n + 1 + ys.length = M := hm
    obtain ⟨σ6, wd6, I7, bare5, own5, na5⟩ := after pt I5
    have I8 : Inv X pins σ6 H5 (s5.setGen g gs') := inv_gens I7 (allBare_setGen bare5 hbare)
    have nL5 : H5 G.L = none := I5.free
    have loc5 : G.Loc σ5 s5.heap := I5.loc
    obtain ⟨oL, eL, dL⟩ : ∃ oL, s5.heap.get? G.L = some oL ∧ ∀ v, oL.data ≠ .cell v := by
      obtain ⟨m1, ⟨o, es, ep, ho, hd, _⟩, _⟩ := loc5
      exact ⟨o, ho, fun v q => by rw [hd] at q; cases q⟩
    have I9 : Inv X (pins ++ [(G.a, G.go), (G.L, oL)]) σ6 H5 (s5.setGen g gs') := I8.pins_of fun p hp => by
      rcases List.mem_append.mp hp with z | z
      · exact I8.pin p (List.mem_append_right _ z)
      · have La : G.L ≤ G.a := Nat.le_of_lt F.La
        simp only [List.mem_cons, List.not_mem_nil, or_false] at z
        rcases z with z | z
        · subst z
          exact ⟨own5, na5, Ne.symm (fun e => (young G.a La).2.1 e.symm), nfs _ La, F.gon⟩
        · subst z
          exact ⟨eL, nL5, (young G.L (Nat.le_refl _)).2.1, nfs _ (Nat.le_refl _), dL⟩
    obtain ⟨og, nm, qn, hog, hcg, hdg, _⟩ := m.gen _ own5
    refine go_of (s := s5.setGen g gs') hog hcg hdg (by decide) ?_
    refine wpAny_passesOwn hp (thn (hg.run _ _ σ6 H5 x v _ I9 rv (turn ys σ6 H0 x H5 wd6 hy)) fun _ s6 h6 => ?_)
    obtain ⟨⟨σ7, H7, I10, q7⟩, g6⟩ := h6
    refine wpAny_passesOwn hp (thn (hb.run _ s6 σ7 H7 _ I10 q7) fun f s8 h8 => ?_)
    obtain ⟨q8, g8⟩ := h8
    have g58 : s8.gens[g]? = some gs' := by
      rw [g8, g6]
      have q : (s5.setGen g gs').gens.size = s5.gens.size := setGen_size _ _ _
      exact setGen_at (by omega)
    have again : ∀ {σ8 : L2.St} {H8 : Hp}, Inv X (pins ++ [(G.a, G.go), (G.L, oL)]) σ8 H8 s8 → Wd (ys.length + 1) σ8 H8 → ∃ k, k < n + 1 ∧ ∃ i, Know k i s8 := fun {σ8 H8} I11 wd8 => by
      have pa := I11.pin (G.a, G.go) (List.mem_append_right _ (List.mem_append_right _ (by simp)))
      have pl := I11.pin (G.L, oL) (List.mem_append_right _ (List.mem_append_right _ (by simp)))
      refine ⟨n, Nat.lt_succ_self _, ys.length + 1, σ8, H8, σ5, gs', by omega, I11.unpinned, wd8, g58, pa.1, pa.2.1, pl.2.1, Nat.le_of_lt (Heap.lt_size pl.1), loc5.at F fun o e => ?_, I5.len, fun s9 H9 fit9 t9 => know' s9 H9 fit9 t9⟩
      rw [eL] at e
      cases e
      exact pl.1
    cases f with
    | next => obtain ⟨σ8, H8, I11, w8⟩ := q8; exact again I11 w8
    | cont => obtain ⟨σ8, H8, I11, w8⟩ := q8; exact again I11 w8
    | brk => obtain ⟨σ8, H8, I11, w8⟩ := q8; exact ⟨σ8, H8, I11.unpinned, w8⟩
    | ret v => obtain ⟨x8, σ8, H8, I11, r8, w8⟩ := q8; exact ⟨x8, σ8, H8, I11.unpinned, r8, w8⟩
  · intro _
    obtain ⟨H0, pn, ys, σ5, H5, hm, pt, I5, rk⟩ := hf
    obtain ⟨σ6, wd6, I7, bare5, own5, na5⟩ := after pt I5
    have I8 : Inv X pins σ6 H5 { s5.setGen g .finished with heap := h' } := inv_gens (I7.kept (t' := s5.toks) hk) (allBare_setGen bare5 rfl)
    exact wpAny_execs_nil ⟨σ6, H5, I8, fin ys σ6 H0 H5 wd6 rk⟩
end
end GF

set_option maxHeartbeats 1000000
/-! Some words in which no generator runs: a name, len of a list, == of numbers, if, break, append, a store. -/
namespace GF
open PySem PySem.Spec PyProof.Rows L2 GenW

section
variable {X : Cx}
structure QE (X : Cx) (e : Expr) (t : TE) : Prop where
  run : ∀ (pins : List (Addr × Obj)) (s : Shared) (σ : L2.St) (H : Hp) (Q : VK), Inv X pins σ H s → t σ H Q →
    wpAny (model X.prog X.w) X.A (eval e X.env) (fun v s' => (∃ x H', Inv X pins σ H' s' ∧ RelV x v ∧ Q x H') ∧ s'.gens = s.gens) X.xe s
structure QT (X : Cx) (e : Expr) (t : TT) : Prop where
  run : ∀ (pins : List (Addr × Obj)) (s : Shared) (σ : L2.St) (H : Hp) (Q : Bool → Hp → Prop), Inv X pins σ H s → t σ H Q →
    wpAny (model X.prog X.w) X.A (isTrue e X.env (eval e X.env)) (fun b s' => (∃ H', Inv X pins σ H' s' ∧ Q b H') ∧ s'.gens = s.gens) X.xe s
structure QS (X : Cx) (st : Stmt) (t : TS) : Prop where
  run : ∀ (pins : List (Addr × Obj)) (s : Shared) (σ : L2.St) (H : Hp) (D : Ends), Inv X pins σ H s → t D σ H →
    wpAny (model X.prog X.w) X.A (exec st X.env) (fun f s' => SP X pins D f s' ∧ s'.gens = s.gens) X.xe s

/-- a local name -/
theorem qe_var {i : Nat} {x : Str} {pos : Pos} (hN : X.N[i]? = some x) (hv : X.env.scope.names.lookup x = some .local) (hd : (x == ("__debug__" : Str)) = false := by decide) : QE X (.Name x pos) (tVar i) := by
  refine ⟨fun pins s σ H Q I h => ?_⟩
  obtain ⟨v, e, h⟩ := h
  obtain ⟨m, hn, hl⟩ := I.loc
  obtain ⟨u, r, l⟩ := hl i x v hN e (.inl hv)
  rcases l with ⟨hk, hm⟩ | ⟨hk, _⟩
  · exact wpAny_Name (wpAny_loadName_local I.ok.kind hk hn hm ⟨⟨v, H, I, r, h⟩, rfl⟩) hd
  · have z : X.env.kindOf x = some .local := hv
    rcases hk with k | k <;> rw [z] at k <;> cases k
/-- len(l), l a list -/
theorem qe_len {e : Expr} {te : TE} {p pos : Pos} (he : QE X e te) (hg : Gl X "len") (hm : X.mg "len" = none) (hs : starEach [e] X.env = (false, eval e X.env) :: starEach [] X.env := by rfl) :
    QE X (.Call (.Name "len" p) [e] [] pos) (fun σ H Q => te σ H fun x H1 => ∃ l ys, x = .ref l ∧ SqL X.K H1 l ys ∧ Q (.int ys.length) H1) := by
  refine ⟨fun pins s σ H Q I h => ?_⟩
  refine wpAny_Call_Name_kw (ld_blt I hg hm PySem.boot_len ?_)
  refine callWith_builtin1 ?_ hs rfl
  rw [hs]
  show wpAny _ _ (spliced ((false, eval e X.env) :: backTo pos (starEach [] X.env))) _ _ s
  refine Calls.spliced_cons (thn (he.run pins s σ H _ I h) fun u s1 h1 => Calls.spliced_nil ?_)
  obtain ⟨⟨x, H1, I1, r1, l, ys, ex, hq, q⟩, g1⟩ := h1
  subst ex
  cases r1
  obtain ⟨its, r', pl, hz⟩ := I1.list hq
  have hlen := r'.length
  have line := line63
  exact Calls.call_len_list pl.isList (by simp only [List.size_toArray] <;> omega) ⟨⟨.int ys.length, H1, I1.tok _, ⟨s1.toks + 1, by rw [List.size_toArray, hlen]⟩, q⟩, g1⟩
/-- a == b of numbers, as a test -/
theorem qt_eq {a b : Expr} {ta tb : TE} {pos : Pos} (ha : QE X a ta) (hb : QE X b tb) (hm : behindInMarks .Eq b = false) :
    QT X (.Compare a [.Eq] [b] pos) (fun σ H Q => ta σ H fun x H1 => tb σ H1 fun y H2 => ∃ i j : Int, x = .int i ∧ y = .int j ∧ Q (i == j) H2) := by
  refine ⟨fun pins s σ H Q I h => ?_⟩
  refine wpAny_isTrue_Compare1 (thn (ha.run pins s σ H _ I h) fun v s1 h1 => ?_) hm
  obtain ⟨⟨x, H1, I1, r1, q1⟩, g1⟩ := h1
  refine thn (hb.run pins s1 σ H1 _ I1 q1) fun u s2 h2 => ?_
  obtain ⟨⟨y, H2, I2, r2, i, j, ex, ey, q2⟩, g2⟩ := h2
  subst ex
  subst ey
  obtain ⟨t, rfl⟩ := r1
  obtain ⟨t', rfl⟩ := r2
  exact eq_int (wpAny_truthy_bool ⟨⟨H2, I2, q2⟩, g2.trans g1⟩)

theorem qs_break {pos : Pos} : QS X (.Break pos) tBreak := ⟨fun _ s σ H _ I h => wpAny_Break ⟨⟨σ, H, I, h⟩, rfl⟩⟩
theorem qss_nil : QSs X [] tNext := ⟨fun _ s σ H _ I h => wpAny_execs_nil ⟨⟨σ, H, I, h⟩, rfl⟩⟩
theorem qss_cons {st : Stmt} {rest : List Stmt} {t u : TS} (h1 : QS X st t) (h2 : QSs X rest u) : QSs X (st :: rest) (tSeq t u) := by
  refine ⟨fun pins s σ H D I h => ?_⟩
  refine wpAny_execs_cons (thn (h1.run pins s σ H { D with nx := u D } I h) fun f s1 q => ?_)
  obtain ⟨q, g⟩ := q
  cases f with
  | next =>
    obtain ⟨σ', H', I', q⟩ := q
    exact thn (h2.run pins s1 σ' H' D I' q) fun f2 s2 z => ⟨z.1, z.2.trans g⟩
  | ret v => exact ⟨q, g⟩
  | brk => exact ⟨q, g⟩
  | cont => exact ⟨q, g⟩
theorem qs_if {c : Expr} {a b : List Stmt} {tc : TT} {t u : TS} {pos : Pos} (hc : QT X c tc) (ha : QSs X a t) (hb : QSs X b u) : QS X (.If c a b pos) (tIfS tc t u) := by
  refine ⟨fun pins s σ H D I h => ?_⟩
  refine wpAny_If (thn (hc.run pins s σ H _ I h) fun d s1 h1 => ?_)
  obtain ⟨⟨H1, I1, q1⟩, g1⟩ := h1
  cases d with
  | true => exact thn (ha.run pins s1 σ H1 D I1 q1) fun f2 s2 z => ⟨z.1, z.2.trans g1⟩
  | false => exact thn (hb.run pins s1 σ H1 D I1 q1) fun f2 s2 z => ⟨z.1, z.2.trans g1⟩
/-- l.append(e) -/
def tQApp (K : PySem.W.Frag) (to te : TE) : TS := fun D σ H => to σ H fun x H1 => (∃ l xs, x = .ref l ∧ SqL K H1 l xs) ∧ te σ H1 fun y H2 => ∃ l xs, x = .ref l ∧ H2 l = some (.lst xs) ∧ xs.length < sizeLine ∧ D.nx σ (upd H2 l (.lst (xs ++ [y])))
theorem qs_append {o e : Expr} {to te : TE} {apos cpos pos : Pos} (ho : QE X o to) (he : QE X e te)
    (hsw : swapsWith (.Call (.Attribute o "append" apos) [e] [] cpos) none pos.line X.env = pure false := by rfl)
    (hbase : attributeBase o "append" X.env (eval o X.env) = eval o X.env := by rfl)
    (hfew : ((backTo cpos (starEach [e] X.env)).all (fun x => !x.1) && (backToKw cpos (keywordEach [] X.env)).all (fun x => x.1.isSome)
      && decide (([e] : List Expr).length + ([] : List Keyword).length + (if ([] : List Keyword).isEmpty then 0 else 1) < 30)) = true := by rfl)
    (hline : (apos.endLine == cpos.line) = true := by rfl) (hs : starEach [e] X.env = (false, eval e X.env) :: starEach [] X.env := by rfl) :
    QS X (.Expr (.Call (.Attribute o "append" apos) [e] [] cpos) pos) (tQApp X.K to te) := by
  refine ⟨fun pins s σ H D I h => ?_⟩
  refine wpAny_Expr_any ?_ I.quiet hsw
  refine wpAny_Call_method_late hbase hfew hline rfl (thn (ho.run pins s σ H _ I h) fun v s1 h1 => ?_)
  obtain ⟨⟨x, H1, I1, r1, ⟨l, xs, ex, hq⟩, q1⟩, g1⟩ := h1
  subst ex
  cases r1
  obtain ⟨its, _, pl, _⟩ := I1.list hq
  have hty : s1.TypeIs (.ref l) "list" := pl.isList.typeIs
  refine ⟨"list", "list.append", PySem.F.plainAttrs_list, PySem.F.slot_list_append, PySem.F.type_list_append, hty, fun a e => ?_, ?_⟩
  · cases e
    obtain ⟨o, n, e, c, hd, _⟩ := pl
    exact ⟨o, e, hd⟩
  rw [hs]
  refine Calls.callWith_builtin rfl (Calls.evalArgs_plain ?_)
  show wpAny _ _ (spliced ((false, eval e X.env) :: backTo cpos (starEach [] X.env))) _ _ s1
  refine Calls.spliced_cons (thn (he.run pins s1 σ H1 _ I1 q1) fun u s2 h2 => Calls.spliced_nil ?_)
  obtain ⟨⟨y, H2, I2, r2, l2, ys, ex2, hl2, hz, q2⟩, g2⟩ := h2
  cases ex2
  obtain ⟨z, its2, n, rv, hlen, e2⟩ := I2.lstM hl2
  refine call_meets F.slot_list_append ⟨_, e2, rfl⟩ F.entry_list_append (F.args_list_append_2 _ _) (PySem.list_append l its2.toArray n u (by rw [List.size_toArray]; omega)) ⟨e2, ?_⟩
  refine ⟨⟨σ, _, I2.lset (its' := its2 ++ [u]) hl2 e2 (by simp) (rv.append (.cons r2 .nil)) ?_, q2⟩, g2.trans g1⟩
  rw [List.length_append, List.length_singleton]
  omega

/-- a store into a local name -/
theorem qg_name {i : Nat} {x : Str} {pos : Pos} (hN : X.N.Nodup) (hi : X.N[i]? = some x) (hx : X.env.scope.names.lookup x = some .local) : QG X (.Name x pos) (gName i) := by
  refine ⟨fun pins s σ H v u Q I r q => ?_⟩
  obtain ⟨m, hn, hl⟩ := id I.loc
  have plain : (X.env.scope.kind == .class || (X.env.scope.kind == .module && X.env.locals != X.env.globals)) = false := by
    rw [I.ok.kind]
    rfl
  have lt : i < σ.length := by
    rw [I.len]
    exact (List.getElem?_eq_some_iff.mp hi).1
  refine wpAny_assign_Name (wpAny_storeName_local hx hn (fun h' hn' same => ⟨⟨σ.set i (some v), H, ?_, q⟩, rfl⟩) plain)
  have old : ∀ b o, X.s_0.heap.get? b = some o → b ≠ X.env.locals := fun b o e z => by
    have := Heap.lt_size e
    rw [z] at this
    exact absurd (Nat.lt_of_lt_of_le this I.ok.above) (Nat.lt_irrefl _)
  have stay : ∀ b, b ≠ X.env.locals → ∀ o, s.heap.get? b = some o → h'.get? b = some o := fun b nb o e => (same.2 b nb).trans e
  have cell : ∀ y c, X.env.cells.lookup y = some c → ∀ w, s.heap.IsCell c w → h'.IsCell c w := fun y c e w z => z.sameBut same (I.cne y c e)
  obtain ⟨oL, _, _, hoL, _⟩ := id hn
  refine ⟨I.ok, I.os, I.bare, ⟨?_, ?_, I.base.free, ?_, I.base.tups, I.base.frzs, I.base.tbls⟩, ⟨_, hn', ?_⟩, ?_, I.free, I.freeC, ?_, ?_, ?_⟩
  · intro b o e n hf hex
    exact stay b (old b o e) o (I.base.keep b o e n hf hex)
  · intro b o e n hf hex
    obtain ⟨sl, z⟩ := I.base.slot b o e n hf hex
    exact ⟨sl, stay b (old b o e) _ z⟩
  · intro b o e hex
    obtain ⟨o', z⟩ := I.base.there b o e hex
    exact ⟨o', stay b (old b o e) _ z⟩
  · intro j y w e1 e2 e3
    by_cases c : j = i
    · subst c
      have ey : y = x := Option.some.inj (e1.symm.trans hi)
      subst ey
      rw [List.getElem?_set_self lt] at e2
      cases e2
      exact ⟨u, r, .inl ⟨hx, if_pos rfl⟩⟩
    · rw [List.getElem?_set_ne (Ne.symm c)] at e2
      obtain ⟨w', rw', lk⟩ := hl j y w e1 e2 e3
      refine ⟨w', rw', ?_⟩
      rcases lk with ⟨k, z⟩ | ⟨k, cc, z, zz⟩
      · have ny : y ≠ x := fun z => c (nodup_ix hN e1 (z ▸ hi))
        exact .inl ⟨k, (if_neg ny).trans z⟩
      · exact .inr ⟨k, cc, z, cell _ _ z _ zz⟩
  · intro y c e
    obtain ⟨w, z⟩ := I.cell y c e
    exact ⟨w, cell y c e w z⟩
  · intro p hp
    obtain ⟨e, n, nl, nf, d⟩ := I.pin p hp
    exact ⟨stay p.1 nl _ e, n, nl, nf, d⟩
  · intro b o e
    refine (I.hok b o e).stay (fun c w hc z => stay c ?_ w z) (fun _ z => z) fun _ _ z => z
    rintro rfl
    rcases hc with rfl | hc
    · rw [I.free] at e
      cases e
    · rw [I.free] at hc
      cases hc
  · simpa using I.len
end
end GF

set_option maxHeartbeats 2000000
/-! for x in tokens(text = e). -/
namespace K2
open PySem PySem.Spec PyProof.Rows L2 GenW GF

def G0 (X : Cx) (N : List Str) (qual : Str) (scope : Scope) (f : Addr) (cd : Value) (G : GD) : Prop := ∃ L a go, G = { P := X.prog, w := X.w, K := X.K, mg := X.mg, base := X.base, N := N, qual := qual, scope := scope, f := f, cd := cd, A := X.A.in1, outer := X.stack, L := L, a := a, go := go }

section
variable {X : Cx} {f : Addr} {x nm name qual : Str} {p pos kpos : Pos} {e : Expr} {te : TE} {params : Arguments} {body : List Stmt} {scope : Scope} {dV kV doc pm cdv ct oc : Value} {an od : Option Addr} {osl : Array (Option Value)} {N : List Str}
/-- g(nm = e), g a generator def -/
theorem pgf_kw (lk : X.K.lookup f = some ⟨oc, od, .func (PySem.W.fnOf name qual params body scope dV kV doc pm an cdv ct), osl⟩) (hcd : PySem.W.codeIn X.K cdv qual = true) (S : GScope N [nm] scope)
    (room : X.A.depth < recursionLimit) (hc : X.calm = true) (hg : Gl X x) (hm : X.mg x = some (.ref f)) (keep : PySem.W.keepIn X.K (.ref f) = true)
    (bd : ∀ (s : Shared) (u : Value), BindsTo s (PySem.W.fnOf name qual params body scope dV kV doc pm an cdv ct) ⟨[], [(nm, u)]⟩ [(nm, u)]) (he : PE X e te)
    (hall : (backToKw pos (keywordEach [⟨some nm, e, kpos⟩] X.env)).all (·.1.isSome) = true := by rfl)
    (hks : (backToKw pos (keywordEach [⟨some nm, e, kpos⟩] X.env)).filterMap (·.1) = [nm] := by rfl)
    (hdb : (x == ("__debug__" : Str)) = false := by decide)
    (hpl : ((backTo pos (starEach [] X.env)).any (·.1) || (backToKw pos (keywordEach [⟨some nm, e, kpos⟩] X.env)).any (·.1.isNone)) = false := by rfl) :
    PGenF X (G0 X N qual scope f cdv) (.Call (.Name x p) [] [⟨some nm, e, kpos⟩] pos) body (fun σ H Q => te σ H fun v H1 => Q (start N [v]) H1) := by
  refine ⟨fun pins s σ H Q I h => wpAny_Call_Name_kw (ld_glob I hg hm ?_ hdb)⟩
  refine PySem.W.callWith_KW0 (h₀ := X.base) I.ok.mod.kin keep hall ?_ hpl
  refine thn ((pk_cons he pk_nil).run pos pins s σ H (fun zs H2 => match zs with | [v] => Q (start N [v]) H2 | _ => False) I h) ?_
  rintro ws s2 ⟨zs, H2, I2, rz, q2⟩
  refine ⟨I2.kIn, ?_⟩
  rw [hks]
  cases rz with
  | nil => exact q2.elim
  | cons r1 r2 =>
    cases r2 with
    | cons _ _ => exact q2.elim
    | nil =>
      rename_i v u
      refine wpAny_call (codeAny_mono (made_of (A := X.A) (Aw := X.A.in1) lk hcd S room (I2.ok.hd hc) I2.env0 (us := [u]) (vs := [v]) (bd s2 u) rfl (.cons r1 .nil)) ?_)
      rintro (⟨er⟩ | ⟨fl⟩) s' hq
      · exact hq.elim
      · rcases fl with _ | _ | _ | u
        · exact hq.elim
        · exact hq.elim
        · exact hq.elim
        · obtain ⟨a, go, g, rfl, m⟩ := hq
          exact ⟨_, _, H2, s2, g, ⟨_, _, _, rfl⟩, rfl, I2, m, q2⟩

theorem room_gen {k : Nat} {A : Around} {env : Env} (hr : Room (k + 2) A) : Room k (A.in1.deeper env) := by
  have r1 : Room (k + 1) A.in1 := by
    refine ⟨hr.hd, ?_, ?_⟩
    · have := hr.dp
      show A.depth + 3 * (k + 1) + 5 < _
      omega
    · have := hr.un
      show A.units + 1 + 16 * (k + 1) + 200 < _
      omega
  exact r1.deeper _

abbrev GTk (P : Program) (w : World) (K : PySem.W.Frag) (mg : Str → Option Value) (base : Heap) (f : Addr) (cd : Value) (A : Around) (outer : List Env) (L a : Addr) (go : Obj) : GD :=
  { P := P, w := w, K := K, mg := mg, base := base, N := ["text", "start", "end"], qual := "tokens", scope := defScope sTokens, f := f, cd := cd, A := A, outer := outer, L := L, a := a, go := go }

/-- the words of the body of `tokens`, for a walk that wakes it again and again -/
theorem gts_tokens {P : Program} {w : World} {K : PySem.W.Frag} {mg : Str → Option Value} {base : Heap} {f : Addr} {cd : Value} {A : Around} {outer : List Env} {L a : Addr} {go : Obj} {T : Nat → Shared → Hp → Prop} {M : Nat} {Yk : List V → Hp → V → Hp → Prop} {Rk : List V → Hp → Hp → Prop}
    {x : Str} (hl : (cp x).length ≤ most) (Z : Bare mg)
    (Fx : (GTk P w K mg base f cd A outer L a go).Fix) (hr : Room 3 (A.deeper (GTk P w K mg base f cd A outer L a go).env))
    {fN fE : Addr} {fdN fdE : FuncData}
    (FN : Fun K "next_start" "next_start" sNext fN fdN) (bN : Binds K fdN ["text", "at"] []) (gN : mg "next_start" = some (.ref fN))
    (GN : FnOk P w K mg base CX0 2 fN fdN ["text", "at"] spNext)
    (FE : Fun K "token_end" "token_end" sEnd fE fdE) (bE : Binds K fdE ["text", "start"] []) (gE : mg "token_end" = some (.ref fE))
    (GE : FnOk P w K mg base CX0 3 fE fdE ["text", "start"] spEnd)
    (hY : ∀ ys H0 v H', Same H0 H' → (∃ e, (scan 0 (cp x))[ys.length]? = some e ∧ TokAt H' v e) → Yk ys H0 v H')
    (hR : ∀ ys H0 H', Same H0 H' → ys.length = (scan 0 (cp x)).length → Rk ys H0 H') (hM : (scan 0 (cp x)).length < M) :
    ∃ t, GTs (GTk P w K mg base f cd A outer L a go) T M Yk Rk (defBody sTokens) t ∧ ∀ H3, t { nx := fun ys H0 _ H' => Rk ys H0 H', rt := fun ys H0 v H' => v = .non ∧ Rk ys H0 H' } [] H3 (start ["text", "start", "end"] [.str x]) H3 := by
  refine ⟨_, gts_cons (gt_ps fun s0 H0 pn => ps_set (i := 1) scTok.nd rfl (.inl rfl) (pe_call GN (hr.mono (by decide)) (by rfl) gN FN.kp bN .nil pass0 (pa_cons (pv 0) (pa_cons pe_int pa_nil))))
      (gts_cons (gt_while (fun s0 H0 pn => pt_cmpR op_lt (pv 1) (pe_callB call_len_str (by rfl) Z.len PySem.boot_len (pa_cons (pv 0) pa_nil)) (nomark _))
        (gts_cons (gt_ps fun s0 H0 pn => ps_set (i := 2) scTok.nd rfl (.inl rfl) (pe_call GE hr (by rfl) gE FE.kp bE .nil pass0 (pa_cons (pv 0) (pa_cons (pv 1) pa_nil))))
        (gts_cons (gt_ps fun s0 H0 pn => ps_if (pt_cmpR op_eq (pv 2) (pv 1) (nomark _)) (pss_one ps_retN) pss_nil)
        (gts_cons (gt_yield Fx (fun s0 H0 pn => pe_tup (pa_cons (pv 1) (pa_cons (pe_slice sl_str (pv 0) (po_some (pv 1)) (po_some (pv 2))) pa_nil))))
        (gts_cons (gt_ps fun s0 H0 pn => ps_set (i := 1) scTok.nd rfl (.inl rfl) (pe_call GN (hr.mono (by decide)) (by rfl) gN FN.kp bN .nil pass0 (pa_cons (pv 0) (pa_cons (pv 2) pa_nil))))
        gts_nil))))) gts_nil), fun H3 => ?_⟩
  obtain ⟨l, hll⟩ : ∃ l, cp x = l := ⟨_, rfl⟩
  have ll : x.length = l.length := by rw [← cp_len, hll]
  have hl' : l.length ≤ most := hll ▸ hl
  have m24 : most < sizeLine := by decide
  rw [hll] at hY hR hM
  refine ⟨.str x, rfl, x, 0, rfl, Nat.zero_le _, hl, ?_⟩
  refine ⟨fun m ys H0 σ H' => ∃ (p : Nat) (e : Option V) (done : List (Nat × List Nat)), m = l.length - p ∧ p ≤ l.length ∧ σ = [some (.str x), some (.int ((p + skip (l.drop p) : Nat) : Int)), e] ∧
    Same H0 H' ∧ ys.length = done.length ∧ done ++ scan p (l.drop p) = scan 0 l, ⟨_, 0, none, [], rfl, Nat.zero_le _, by rw [hll]; rfl, fun _ _ e => e, rfl, rfl⟩, ?_⟩
  rintro m ys H0 σ H1 ⟨p, e, done, rfl, hp, rfl, sm, hys, hs⟩
  generalize hb : p + skip (l.drop p) = b
  have hsk : skip (l.drop p) ≤ (l.drop p).length := skip_len _
  rw [List.length_drop] at hsk
  have hbl : b ≤ l.length := by omega
  have em : (l.drop p).drop (skip (l.drop p)) = l.drop b := by rw [List.drop_drop, hb]
  refine ⟨.int b, rfl, .str x, rfl, x, rfl, most_line (by rw [← cp_len]; exact hl), _, _, rfl, rfl, _, rfl, ?_⟩
  rw [lt_dec, hll]
  refine ite2 (fun e1 => ?_) (fun e1 => ?_)
  · have lt : b < l.length := of_decide_eq_true e1
    refine ⟨fun ys' H0 σ' H' => ∃ m', m' < l.length - p ∧ ∃ (p : Nat) (e : Option V) (done : List (Nat × List Nat)), m' = l.length - p ∧ p ≤ l.length ∧ σ' = [some (.str x), some (.int ((p + skip (l.drop p) : Nat) : Int)), e] ∧
      Same H0 H' ∧ ys'.length = done.length ∧ done ++ scan p (l.drop p) = scan 0 l, fun _ _ _ _ w => w, ?_⟩
    refine ⟨.str x, rfl, .int b, rfl, x, b, rfl, by rw [hll]; exact lt, hl, ?_⟩
    rw [hll]
    have tl := tokL_le (l.drop b)
    rw [List.length_drop] at tl
    refine ⟨_, rfl, .int b, rfl, rfl, _, rfl, ?_⟩
    by_cases z : tokL (l.drop b) = 0
    · rw [z, Nat.add_zero, decide_eq_true rfl]
      rw [scan_end (by rw [em]; exact z), List.append_nil] at hs
      exact iteT ⟨rfl, hR _ _ _ sm (by rw [hys, ← hs])⟩
    · have ne : decide (V.int ((b + tokL (l.drop b) : Nat) : Int) = V.int (b : Int)) = false := decide_eq_false (by intro w; have := V.int.inj w; omega)
      rw [ne]
      rw [scan_at em z, hb, List.drop_drop] at hs
      have hlen : ys.length < M := by
        have := congrArg List.length hs
        rw [List.length_append, List.length_cons] at this
        omega
      refine iteF ⟨hlen, .int b, rfl, .str x, rfl, .int b, rfl, b, rfl, _, rfl, ((b + tokL (l.drop b) : Nat) : Int), rfl, x, rfl, most_line (by rw [← cp_len]; exact hl), by show 2 ≤ sizeLine; decide, fun t ht => ?_⟩
      have sm1 : Same H1 (upd H1 t (.tup [.int b, .str (cutS x (some (b : Int)) (some ((b + tokL (l.drop b) : Nat) : Int)))])) := same_upd ht
      refine ⟨hY _ _ _ _ (fun a o ea => sm1 a o (sm a o ea)) ⟨(b, (l.drop b).take (tokL (l.drop b))), ?_, t, rfl, ?_⟩, fun H2 => ?_⟩
      · rw [← hs, hys, List.getElem?_append_right (Nat.le_refl _), Nat.sub_self]
        rfl
      · rw [upd_same, cut_is x b _ (by omega) (by rw [hll]; omega), hll, show b + tokL (l.drop b) - b = tokL (l.drop b) by omega]
      · refine ⟨.str x, rfl, _, rfl, x, _, rfl, by rw [hll]; omega, hl, ?_⟩
        rw [hll]
        refine ⟨l.length - (b + tokL (l.drop b)), by omega, b + tokL (l.drop b), _, done ++ [(b, (l.drop b).take (tokL (l.drop b)))], rfl, by omega, rfl, fun _ _ ea => ea, ?_, ?_⟩
        · rw [List.length_append, List.length_append, hys]
          rfl
        · rw [List.append_assoc]
          exact hs
  · have ge : ¬ b < l.length := fun z => e1 (decide_eq_true z)
    rw [scan_end (by rw [em, List.drop_eq_nil_of_le (by omega)]; rfl), List.append_nil] at hs
    exact hR _ _ _ sm (by rw [hys, ← hs])
end
end K2

set_option maxHeartbeats 2000000
/-! The tokens of a text, as data: shown, compared. -/
namespace K2
open PySem PySem.Spec PyProof.Rows L2

/-- the sum of the tokens' lengths -/
def tokSum (es : List (Nat × List Nat)) : Nat := (es.map (fun e => e.2.length + 1)).sum
structure TokOk (n : Nat) (es : List (Nat × List Nat)) : Prop where
  at_ : ∀ e ∈ es, e.1 ≤ n
  sg : ∀ e ∈ es, ∀ c ∈ e.2, c < 128
  sum : tokSum es ≤ 2 * n + 1
theorem scan_ok : ∀ (n : Nat) (l : List Nat) (pos : Nat), l.length ≤ n → (∀ c ∈ l, c < 128) →
    (∀ e ∈ scan pos l, e.1 ≤ pos + l.length) ∧ (∀ e ∈ scan pos l, ∀ c ∈ e.2, c < 128) ∧ tokSum (scan pos l) ≤ 2 * l.length := by
  intro n
  induction n with
  | zero =>
    intro l pos h hc
    have : l = [] := List.length_eq_zero_iff.mp (by omega)
    subst this
    rw [scan_nil]
    exact ⟨fun e h => (List.not_mem_nil h).elim, fun e h => (List.not_mem_nil h).elim, Nat.le_refl _⟩
  | succ n ih =>
    intro l pos h hc
    obtain ⟨m, e1⟩ : ∃ m, l.drop (skip l) = m := ⟨_, rfl⟩
    by_cases z : tokL m = 0
    · rw [scan_end (by rw [e1]; exact z)]
      exact ⟨fun e h => (List.not_mem_nil h).elim, fun e h => (List.not_mem_nil h).elim, Nat.zero_le _⟩
    · rw [scan_at e1 z]
      have ht := tokL_le m
      have hs := skip_len l
      have hm : m.length = l.length - skip l := by rw [← e1, List.length_drop]
      have hd : (m.drop (tokL m)).length = m.length - tokL m := List.length_drop
      have hcm : ∀ c ∈ m, c < 128 := fun c q => hc c (List.mem_of_mem_drop (e1 ▸ q))
      obtain ⟨i1, i2, i3⟩ := ih (m.drop (tokL m)) (pos + skip l + tokL m) (by omega) (fun c q => hcm c (List.mem_of_mem_drop q))
      refine ⟨fun e q => ?_, fun e q => ?_, ?_⟩
      · rcases List.mem_cons.mp q with rfl | q
        · show pos + skip l ≤ _
          omega
        · have := i1 e q
          omega
      · rcases List.mem_cons.mp q with rfl | q
        · exact fun c w => hcm c (List.mem_of_mem_take w)
        · exact i2 e q
      · unfold tokSum at i3 ⊢
        rw [List.map_cons, List.sum_cons]
        have : (m.take (tokL m)).length = tokL m := by rw [List.length_take]; omega
        show (m.take (tokL m)).length + 1 + _ ≤ _
        omega
theorem scan_tokOk {l : List Nat} (hc : ∀ c ∈ l, c < 128) : TokOk l.length (scan 0 l) := by
  obtain ⟨a, b, c⟩ := scan_ok l.length l 0 (Nat.le_refl _) hc
  exact ⟨fun e h => by have := a e h; omega, b, by omega⟩
theorem tokOk_snoc {l : List Nat} (hc : ∀ c ∈ l, c < 128) : TokOk l.length (scan 0 l ++ [(l.length, [])]) := by
  obtain ⟨a, b, c⟩ := scan_ok l.length l 0 (Nat.le_refl _) hc
  refine ⟨fun e h => ?_, fun e h => ?_, ?_⟩
  · rcases List.mem_append.mp h with h | h
    · have := a e h
      omega
    · rw [List.mem_singleton.mp h]
      exact Nat.le_refl _
  · rcases List.mem_append.mp h with h | h
    · exact b e h
    · rw [List.mem_singleton.mp h]
      exact fun c w => (List.not_mem_nil w).elim
  · unfold tokSum at c ⊢
    rw [List.map_append, List.sum_append]
    show _ + 1 ≤ _
    omega

theorem tokOk_tail {n : Nat} {e : Nat × List Nat} {r : List (Nat × List Nat)} (h : TokOk n (e :: r)) : TokOk n r :=
  ⟨fun x q => h.at_ x (List.mem_cons_of_mem _ q), fun x q => h.sg x (List.mem_cons_of_mem _ q), by
    have := h.sum
    unfold tokSum at this ⊢
    rw [List.map_cons, List.sum_cons] at this
    omega⟩

def listD (es : List (Nat × List Nat)) : PyData := .list (es.map tokD)
def tupD (es : List (Nat × List Nat)) : PyData := .tuple (es.map tokD)

theorem str_ok {l : List Nat} (h : ∀ c ∈ l, c < 128) : PyData.strOk (⟨l.toArray⟩ : Str) = true := by
  unfold PyData.strOk
  rw [Array.all_eq_true_iff_forall_mem]
  intro c q
  exact decide_eq_true (Nat.lt_trans (h c (by simpa using q)) (by decide))
theorem tokD_can {n : Nat} {es : List (Nat × List Nat)} (h : TokOk n es) : PyData.canLayAll0 (es.map tokD) = true := by
  induction es with
  | nil => rfl
  | cons e r ih =>
    have e1 : (tokD e).canLay0 = true := by
      simp [tokD, PyData.canLay0, PyData.canLayAll0, str_ok (h.sg e List.mem_cons_self)]
    rw [List.map_cons, PyData.canLayAll0, e1, ih (tokOk_tail h)]
    rfl
theorem tokD_depth : ∀ (es : List (Nat × List Nat)), PyData.depthAll (es.map tokD) ≤ 2
  | [] => by simp [PyData.depthAll]
  | e :: r => by
    have := tokD_depth r
    simp only [List.map_cons, PyData.depthAll, tokD, PyData.depth] at this ⊢
    omega
theorem shaped_list {n : Nat} {es : List (Nat × List Nat)} (h : TokOk n es) : SeqAt.shaped (listD es) = true := by
  unfold SeqAt.shaped listD
  have d := tokD_depth es
  rw [PyData.canLay0, tokD_can h, Bool.true_and]
  exact decide_eq_true (by simp only [PyData.depth]; omega)
theorem shaped_tup {n : Nat} {es : List (Nat × List Nat)} (h : TokOk n es) : SeqAt.shaped (tupD es) = true := by
  unfold SeqAt.shaped tupD
  have d := tokD_depth es
  rw [PyData.canLay0, tokD_can h, Bool.true_and]
  exact decide_eq_true (by simp only [PyData.depth]; omega)
theorem tokD_showable {n : Nat} (hn : n ≤ most) {es : List (Nat × List Nat)} (h : TokOk n es) : PyData.showableAll (es.map tokD) = true := by
  induction es with
  | nil => rfl
  | cons e r ih =>
    have hat : e.1 ≤ 2 ^ 19 := Nat.le_trans (h.at_ e List.mem_cons_self) hn
    have e1 : (tokD e).showable = true := by
      have : (e.1 : Int).natAbs.log2 < 1920 := bits_le (Nat.lt_of_le_of_lt (show (e.1 : Int).natAbs ≤ 2 ^ 19 by omega) (Nat.pow_lt_pow_right (by decide) (by decide))) (by decide)
      simp only [tokD, PyData.showable, PyData.showableAll, Bool.and_true]
      exact decide_eq_true this
    rw [List.map_cons, PyData.showableAll, e1, ih (tokOk_tail h)]
    rfl
theorem tokD_len {n : Nat} (hn : n ≤ most) {es : List (Nat × List Nat)} (h : TokOk n es) : ((PyData.shownAll (es.map tokD)).map (·.length)).sum ≤ 20 * tokSum es := by
  induction es with
  | nil => exact Nat.zero_le _
  | cons e r ih =>
    have i := ih (tokOk_tail h)
    have hat : e.1 ≤ 2 ^ 19 := Nat.le_trans (h.at_ e List.mem_cons_self) hn
    have hr := StrLaws.reprText_len ⟨e.2.toArray⟩ (fun c q => Nat.lt_trans (h.sg e List.mem_cons_self c (by simpa using q)) (by decide))
    have hi : ((toString (e.1 : Int) : String) : Str).length ≤ 7 := toString_length_le (v := (e.1 : Int)) (k := 7) (by omega) (by decide) (by omega)
    have ht := tupleText_len_le [((toString (e.1 : Int) : String) : Str), reprText ⟨e.2.toArray⟩]
    have le : (⟨e.2.toArray⟩ : Str).length = e.2.length := by simp [Str.length]
    rw [le] at hr
    simp only [List.map_cons, List.map_nil, List.sum_cons, List.sum_nil, List.length_cons, List.length_nil] at ht
    have et : (tokD e).shown = tupleText [((toString (e.1 : Int) : String) : Str), reprText ⟨e.2.toArray⟩] := by
      simp only [tokD, PyData.shown, PyData.shownAll]
    unfold tokSum at i ⊢
    rw [List.map_cons, PyData.shownAll, List.map_cons, List.sum_cons, List.map_cons, List.sum_cons, et]
    omega
theorem shownAll_len : ∀ ds : List PyData, (PyData.shownAll ds).length = ds.length
  | [] => rfl
  | d :: r => by rw [PyData.shownAll, List.length_cons, shownAll_len r]; rfl
theorem tokSum_len : ∀ es : List (Nat × List Nat), es.length ≤ tokSum es
  | [] => Nat.zero_le _
  | e :: r => by
    have := tokSum_len r
    unfold tokSum at this ⊢
    rw [List.map_cons, List.sum_cons, List.length_cons]
    omega
theorem list_len {n : Nat} (hn : n ≤ 380000) {es : List (Nat × List Nat)} (h : TokOk n es) : (listD es).shown.length ≤ sizeLine := by
  have h1 := listText_len_le (PyData.shownAll (es.map tokD))
  have h2 := tokD_len (Nat.le_trans hn (by decide)) h
  have h3 := shownAll_len (es.map tokD)
  rw [List.length_map] at h3
  have h4 := tokSum_len es
  have h5 := h.sum
  have e : (listD es).shown = listText (PyData.shownAll (es.map tokD)) := by simp only [listD, PyData.shown]
  rw [e]
  have : sizeLine = 2 ^ 24 := rfl
  omega
end K2

set_option maxHeartbeats 2000000
/-! What the law holds of one text. -/
namespace K2
open PySem PySem.Spec PyProof.Rows L2 GF

def rReprL : List V → Hp → VK → Prop := fun xs H Q => ∃ (a : Addr) (vs : List V) (es : List (Nat × List Nat)) (n : Nat), xs = [.ref a] ∧ H a = some (.lst vs) ∧ Toks H vs es ∧ TokOk n es ∧ n ≤ 380000 ∧ Q (.str (listD es).shown) H

theorem lookup_mem {α β : Type} [BEq α] [LawfulBEq α] : ∀ {l : List (α × β)} {x : α} {y : β}, l.lookup x = some y → (x, y) ∈ l
  | [], _, _, h => by simp at h
  | (a, b) :: r, x, y, h => by
    rw [List.lookup_cons] at h
    split at h
    · next e =>
      cases h
      rw [eq_of_beq e]
      exact List.mem_cons_self
    · exact List.mem_cons_of_mem _ (lookup_mem h)
theorem Box.same {c : Int} {H H' : Hp} {b : Addr} (x : Box c H b) (h : Same H H') : Box c H' b := by
  obtain ⟨o, m, k, hb, r⟩ := x
  exact ⟨o, m, k, h _ _ hb, r⟩
theorem sKept {H H' : Hp} {b : Addr} (x : Same H H') : Kept b H H' := fun a o e _ => x a o e
theorem sTr {H H' H'' : Hp} (x : Same H H') (y : Same H' H'') : Same H H'' := fun a o e => y a o (x a o e)
theorem Same.rf (H : Hp) : Same H H := fun _ _ e => e
theorem Toks.kept {H H' : Hp} {vs : List V} {es : List (Nat × List Nat)} {b : Addr} {o : HO} (x : Toks H vs es) (k : Kept b H H') (hb : H b = some o) (hn : ∀ ys, o ≠ .tup ys) : Toks H' vs es := by
  induction x with
  | nil => exact .nil
  | cons a _ ih =>
    obtain ⟨t, ev, ht⟩ := a
    refine .cons ⟨t, ev, k _ _ ht ?_⟩ ih
    rintro rfl
    rw [hb] at ht
    exact hn _ (Option.some.inj ht)
theorem tokOk_take {n : Nat} {es : List (Nat × List Nat)} (h : TokOk n es) (k : Nat) : TokOk n (es.take k) :=
  ⟨fun e q => h.at_ e (List.mem_of_mem_take q), fun e q => h.sg e (List.mem_of_mem_take q), by
    have e1 := List.take_append_drop k es
    have e2 : tokSum es = tokSum (es.take k) + tokSum (es.drop k) := by
      unfold tokSum
      rw [← List.sum_append, ← List.map_append, e1]
    have := h.sum
    omega⟩
theorem cut_take (ds : List V) (r : Nat) (h : r ≤ ds.length) : cutV ds none (some (r : Int)) = ds.take r := by
  unfold cutV
  rw [HT.sIx_nat, HT.sIx_none, List.drop_zero, Nat.sub_zero, Nat.min_eq_left h]
theorem listD_dp {K : PySem.W.Frag} {H : Hp} {a : Addr} {vs : List V} {es : List (Nat × List Nat)} (h : H a = some (.lst vs)) (x : Toks H vs es) : Dp K H (.ref a) (listD es) := .lst (SqL.of h) x.dp
theorem tupD_dp {K : PySem.W.Frag} {H : Hp} {a : Addr} {vs : List V} {es : List (Nat × List Nat)} (h : H a = some (.tup vs)) (x : Toks H vs es) : Dp K H (.ref a) (tupD es) := .tup (SqT.of h) x.dp

section
variable {X : Cx}
theorem call_reprL (hG : X.A.guards = some []) {k : Nat} (hr : Room k X.A) : CallR X (.builtin "repr") rReprL := by
  intro pins s σ H xs us Q I r h
  obtain ⟨a, vs, es, n, rfl, ha, tk, ok, hn, q⟩ := h
  obtain ⟨u, rfl, ru⟩ := vals1 r
  obtain ⟨as, hR⟩ := Dp.reads I (listD es) (.ref a) u (listD_dp ha tk) ru
  have hsz := list_len hn ok
  have hu := hr.units
  have hd := tokD_depth es
  have dd : (listD es).depth ≤ 3 := by
    simp only [listD, PyData.depth]
    omega
  obtain rfl : u = .ref a := ru
  refine repr_of_reads' hR ?_ (PyData.noDict_hsm (PyData.hasDict_of_canLay _ (SeqAt.canLay_of_shaped (shaped_list ok)))) hG (by omega) (fun _ _ e => e) (fun h' u tk hk => ⟨.str _, H, I.kept hk, ⟨u, rfl⟩, q⟩) hsz
  simp only [listD, PyData.showable]
  exact tokD_showable (Nat.le_trans hn (by decide)) ok
end

theorem scRight : FnScope ["_law_box_here", "_law_page", "_law_due", "_law_many", "_law_found", "_law_pair"] ["_law_box_here", "_law_page", "_law_due"] (defScope sRight) :=
  ⟨rfl, rfl, rfl, by decide +kernel, rfl, by decide +kernel, by decide +kernel⟩

/-- a page: its signs, all tokens, not too long -/
structure Page (l : List Nat) : Prop where
  len : l.length ≤ 380000
  sg : ∀ c ∈ l, c < 128
  cl : clean l = true

def spRight : Sp := fun vs H Q _ => ∃ (b l : Addr) (x : Str) (ds : List V) (c : Int), vs = [.ref b, .str x, .ref l] ∧ Box c H b ∧ H l = some (.lst ds) ∧ Toks H ds (scan 0 (cp x)) ∧ Page (cp x) ∧
  c ≤ 100000 ∧ ∀ H', Kept b H H' → Box (c + 1) H' b → Q (.bl true) H'

section
variable {P : Program} {w : World} {K : PySem.W.Frag} {mg : Str → Option Value} {base : Heap}

theorem ok_right {f fK fT fL fN fE : Addr} {fd fdK fdT fdL fdN fdE : FuncData} (F : Fun K "_law_right" "_law_right" sRight f fd) (Z : Bare mg) (zt : mg "tuple" = none)
    (FK : Fun K "_law_take" "_law_take" sTake fK fdK) (bK : Binds K fdK ["_law_box_here", "_law_many"] []) (gK : mg "_law_take" = some (.ref fK))
    (GK : FnOk P w K mg base CX0 1 fK fdK ["_law_box_here", "_law_many"] spTake)
    (FL : Fun K "_law_tokens" "_law_tokens" sTokensL fL fdL) (bL : Binds K fdL ["_law_page"] []) (gL : mg "_law_tokens" = some (.ref fL))
    (GL : FnOk P w K mg base CX0 3 fL fdL ["_law_page"] spTL)
    (FN : Fun K "next_start" "next_start" sNext fN fdN) (bN : Binds K fdN ["text", "at"] []) (gN : mg "next_start" = some (.ref fN))
    (GN : FnOk P w K mg base CX0 2 fN fdN ["text", "at"] spNext)
    (FE : Fun K "token_end" "token_end" sEnd fE fdE) (bE : Binds K fdE ["text", "start"] []) (gE : mg "token_end" = some (.ref fE))
    (GE : FnOk P w K mg base CX0 3 fE fdE ["text", "start"] spEnd)
    {oc od kV doc pm an cdv ct osl} (look : K.lookup fT = some ⟨oc, od, .func (PySem.W.fnOf "tokens" "tokens" (defArgs sTokens) (defBody sTokens) (defScope sTokens) .none kV doc pm an cdv ct), osl⟩) (code : PySem.W.codeIn K cdv "tokens" = true)
    (keep : PySem.W.keepIn K (.ref fT) = true) (gT : mg "tokens" = some (.ref fT))
    (bT : Binds K (PySem.W.fnOf "tokens" "tokens" (defArgs sTokens) (defBody sTokens) (defScope sTokens) .none kV doc pm an cdv ct) ["text"] [])
    (bd : ∀ (s : Shared) (u : Value), BindsTo s (PySem.W.fnOf "tokens" "tokens" (defArgs sTokens) (defBody sTokens) (defScope sTokens) .none kV doc pm an cdv ct) ⟨[], [("text", u)]⟩ [("text", u)])
    (GT : GFn P w K mg base 4 fT (PySem.W.fnOf "tokens" "tokens" (defArgs sTokens) (defBody sTokens) (defScope sTokens) .none kV doc pm an cdv ct) ["text"] spGTok) :
    FnG P w K mg base 9 f fd ["_law_box_here", "_law_page", "_law_due"] spRight := by
  refine FnG.mk' F scRight (fun vs H Q E h => ?_) (fun cdv' A outer s H vs Q E hG hr h => ?_)
  · obtain ⟨b, l, x, ds, c, rfl, _⟩ := h
    rfl
  · obtain ⟨b, l, x, ds, c, rfl, hb, hl, tk, pg, hc, q⟩ := h
    have hr7 := hr.mono (j := 7) (by decide)
    refine ⟨_, pss_cons (ps_if (PW.pt (pw_or (pt_cmpR (op_neD hr.units) (pe_op op_cat (pv 2) (pe_lst (pa_cons (pe_tup (pa_cons (pe_callB call_len_str (by rfl) Z.len PySem.boot_len (pa_cons (pv 1) pa_nil)) (pa_cons pe_str pa_nil))) pa_nil)))
            (pe_call GL (hr.mono (by decide)) (by rfl) gL FL.kp bL .nil pass0 (pa_cons (pv 1) pa_nil)) (nomark _))
          (pw_or1 (pt_cmpR op_ne (pe_callB (call_reprL hG hr) (by rfl) Z.repr (by decide +kernel) (pa_cons (pe_listG (pgen_call GT (hr.mono (by decide)) (by rfl) gT keep bT .nil (pa_cons (pv 1) pa_nil)) passes_never noStop_never hr7 (by rfl) Z.list boot_list) pa_nil))
            (pe_callB (call_reprL hG hr) (by rfl) Z.repr (by decide +kernel) (pa_cons (pv 2) pa_nil)) (nomark _))))) (pss_one (ps_ret pe_bl)) pss_nil)
      (pss_cons (ps_par (by rfl) scRight.nd (i := 3) (j := 4) rfl rfl (by decide) rfl rfl (pa_cons (pe_call GK (hr.mono (by decide)) (by rfl) gK FK.kp bK .nil pass0 (pa_cons (pv 0) (pa_cons (pe_op op_add (pe_callB call_len_seq (by rfl) Z.len PySem.boot_len (pa_cons (pv 2) pa_nil)) pe_int) pa_nil))) (pa_cons (pe_lst pa_nil) pa_nil)) (by rfl))
      (pss_cons (ps_forGen PassesOwn.never rfl hr.depth (pgf_kw look code scTok hr.depth rfl (by rfl) gT keep bd (pv 1)) (qg_name (i := 5) scRight.nd rfl rfl)
        (qss_cons (qs_if (qt_eq (qe_len (qe_var (i := 4) rfl rfl) (by rfl) Z.len) (qe_var (i := 3) rfl rfl) (nomark _)) (qss_cons qs_break qss_nil) qss_nil)
          (qss_cons (qs_append (qe_var (i := 4) rfl rfl) (qe_var (i := 5) rfl rfl)) qss_nil))
        ?_)
      (pss_one (ps_ret (pe_and (pe_cmpR (op_eqD hr.units) (pv 4) (pe_slice sl_list (pv 2) po_none (po_some (pv 3))) (nomark _))
        (pe_one (pe_cmpR (op_eqD hr.units) (pe_tupG (pgen_call GT (hr.mono (by decide)) (by rfl) gT keep bT .nil (pa_cons (pv 1) pa_nil)) hr7 (by rfl) zt) (pe_tupleOf (by rfl) zt (pv 2)) (nomark _)))))))), ?_⟩
    · rintro G ⟨L, a, go, rfl⟩
      refine ⟨rfl, rfl, rfl, rfl, rfl, rfl, rfl, rfl, rfl, fun y => ?_⟩
      have all : ∀ z ∈ (defScope sTokens).names, z.2 ≠ .cell ∧ z.2 ≠ .free := by decide +kernel
      refine ⟨fun e => ?_, fun e => ?_⟩
      · exact (all _ (lookup_mem (show (defScope sTokens).names.lookup y = some .cell from e))).1 rfl
      · exact (all _ (lookup_mem (show (defScope sTokens).names.lookup y = some .free from e))).2 rfl
    · obtain ⟨S, hS⟩ : ∃ S, scan 0 (cp x) = S := ⟨_, rfl⟩
      have ok : TokOk (cp x).length S := hS ▸ scan_tokOk pg.sg
      have okE : TokOk (cp x).length (S ++ [((cp x).length, [])]) := hS ▸ tokOk_snoc pg.sg
      have pl := pg.len
      have hm : (cp x).length ≤ most := Nat.le_trans pl (by decide)
      have ll := cp_len x
      have sL : S.length ≤ 760001 := by
        have := tokSum_len S
        have := ok.sum
        omega
      rw [hS] at tk
      have dl := tk.length
      have line24 : sizeLine = 2 ^ 24 := rfl
      have refl : ∀ es, TokOk (cp x).length es → PyData.eqv (listD es) (listD es) = true := fun es h => SeqAt.eqv_refl _ (SeqAt.canLay_of_shaped (shaped_list h))
      have reflT : ∀ es, TokOk (cp x).length es → PyData.eqv (tupD es) (tupD es) = true := fun es h => SeqAt.eqv_refl _ (SeqAt.canLay_of_shaped (shaped_tup h))
      -- due + [(len(page), "")] != _law_tokens(page)
      refine ⟨.ref l, rfl, .str x, rfl, x, rfl, most_line (by rw [← cp_len]; exact hm), by show 2 ≤ sizeLine; decide, fun t ht => ?_⟩
      refine ⟨by show 1 ≤ sizeLine; decide, fun l2 hl2 => ?_⟩
      have s1 : Same H (upd H t (.tup [.int x.length, .str ""])) := same_upd ht
      have t1 : TokAt (upd H t (.tup [.int x.length, .str ""])) (.ref t) ((cp x).length, []) := ⟨t, rfl, by rw [upd_same, ll]; rfl⟩
      generalize upd H t (.tup [.int x.length, .str ""]) = H1 at s1 t1 hl2 ⊢
      have s2 : Same H1 (upd H1 l2 (.lst [.ref t])) := same_upd hl2
      have e2 : upd H1 l2 (.lst [.ref t]) l2 = some (.lst [.ref t]) := upd_same
      generalize upd H1 l2 (.lst [.ref t]) = H2 at s2 e2 ⊢
      refine ⟨l, l2, ds, [.ref t], rfl, rfl, s2 _ _ (s1 _ _ hl), e2, by show ds.length + 1 ≤ sizeLine; omega, fun l3 hl3 => ?_⟩
      have s3 : Same H2 (upd H2 l3 (.lst (ds ++ [.ref t]))) := same_upd hl3
      have e3 : upd H2 l3 (.lst (ds ++ [.ref t])) l3 = some (.lst (ds ++ [.ref t])) := upd_same
      generalize upd H2 l3 (.lst (ds ++ [.ref t])) = H3 at s3 e3 ⊢
      have s03 : Same H H3 := sTr (sTr s1 s2) s3
      have k3 : Toks H3 (ds ++ [.ref t]) (S ++ [((cp x).length, [])]) := (tk.mono s03).snoc (t1.mono (sTr s2 s3))
      refine ⟨.str x, rfl, x, rfl, pg.cl, hm, fun ys lT H4 s4 nT hT kT => ?_⟩
      rw [hS] at kT
      refine ⟨listD (S ++ [((cp x).length, [])]), listD (S ++ [((cp x).length, [])]), listD_dp (s4 _ _ e3) (k3.mono s4), listD_dp hT kT, shaped_list okE, shaped_list okE, _, rfl, ?_⟩
      rw [refl _ okE]
      refine iteF ?_
      -- repr(list(tokens(page))) != repr(due)
      have s04 := sTr s03 s4
      refine ⟨.str x, rfl, x, rfl, hm, fun ys5 H5 s5 k5 p5 hp5 => ?_⟩
      rw [hS] at k5
      have s6 : Same H5 (upd H5 p5 (.lst ys5)) := same_upd hp5
      have e6 : upd H5 p5 (.lst ys5) p5 = some (.lst ys5) := upd_same
      generalize upd H5 p5 (.lst ys5) = H6 at s6 e6 ⊢
      have s06 : Same H H6 := sTr (sTr s04 s5) s6
      refine ⟨p5, ys5, S, _, rfl, e6, k5.mono s6, ok, pl, ?_⟩
      refine ⟨.ref l, rfl, l, ds, S, _, rfl, s06 _ _ hl, tk.mono s06, ok, pl, rfl, _, rfl, ?_⟩
      rw [decide_eq_true rfl]
      refine iteF ?_
      -- many, found = ..
      have hl6 := s06 _ _ hl
      refine ⟨.ref b, rfl, .ref l, rfl, l, ds, rfl, .inl (SqL.of hl6), _, _, rfl, rfl, ?_⟩
      have nlb : l ≠ b := by
        rintro rfl
        obtain ⟨o, m, k, hb', _⟩ := hb
        rw [hl] at hb'
        cases hb'
        -- a list of three numbers is none of tokens
        cases tk with
        | cons a _ =>
          obtain ⟨t, et, _⟩ := a
          cases et
      refine ⟨b, _, c, rfl, hb.same s06, by omega, by omega, hc, fun H7 r kp hb7 r0 r1 => ?_⟩
      have hl7 := kp _ _ hl6 nlb
      have k7 : Toks H7 ds S := by
        obtain ⟨o, m, k, hb6, _⟩ := hb.same s06
        exact (tk.mono s06).kept kp hb6 (fun _ z => nomatch z)
      refine ⟨Nat.zero_le _, fun lF hF => ?_⟩
      have s8 : Same H7 (upd H7 lF (.lst [])) := same_upd hF
      have e8 : upd H7 lF (.lst []) lF = some (.lst []) := upd_same
      generalize upd H7 lF (.lst []) = H8 at s8 e8 ⊢
      refine ⟨_, _, rfl, ?_⟩
      obtain ⟨rn, rfl⟩ : ∃ rn : Nat, r = (rn : Int) := ⟨r.toNat, by omega⟩
      have rS : rn ≤ S.length := by
        have : (rn : Int) < (ds.length : Int) + 1 := r1
        omega
      have nlF : l ≠ lF := ne_of_none hl7 hF
      have nbF : b ≠ lF := by
        obtain ⟨o, m, k, hb', _⟩ := hb7
        exact ne_of_none hb' hF
      have hl8 := s8 _ _ hl7
      have hb8 := hb7.same s8
      have k8 := k7.mono s8
      -- behind the loop
      have fin : ∀ (H' : Hp) (e : Option V) (fs : List V), Kept lF H8 H' → H' lF = some (.lst fs) → Toks H' fs (S.take rn) →
          tRet (tAndV (tOp (rEqD K) (tVar 4) (tSl (rSlL K) (tVar 2) (fun σ H Q => Q none H) (tPart (tVar 3)))) (tOp (rEqD K) (tTupG (tCallG spGTok [] never (tCons (tVar 1) tNil))) (tThen (tVar 2) (kTup K))))
            { nx := fun _ H' => Q .non H', rt := Q } [some (.ref b), some (.str x), some (.ref l), some (.int rn), some (.ref lF), e] H' := by
        intro H' e fs kF hf tf
        have okT := tokOk_take ok rn
        refine ⟨.ref lF, rfl, .ref l, rfl, .int rn, rfl, rn, rfl, l, ds, rfl, SqL.of (kF _ _ hl8 nlF), fun p9 hp9 => ?_⟩
        rw [cut_take ds rn (by omega)]
        have s9 : Same H' (upd H' p9 (.lst (ds.take rn))) := same_upd hp9
        have e9 : upd H' p9 (.lst (ds.take rn)) p9 = some (.lst (ds.take rn)) := upd_same
        generalize upd H' p9 (.lst (ds.take rn)) = H9 at s9 e9 ⊢
        have k9 : Toks H9 ds S := (k8.kept kF e8 (fun _ z => nomatch z)).mono s9
        refine ⟨listD (S.take rn), listD (S.take rn), listD_dp (s9 _ _ hf) (tf.mono s9), listD_dp e9 (k9.take rn), shaped_list okT, shaped_list okT, true, by rw [refl _ okT], iteT ?_⟩
        refine ⟨.str x, rfl, x, rfl, hm, fun ys10 H10 s10 k10 S1 p10 hS1 hp10 => ?_⟩
        rw [hS] at k10
        have s11 : Same H10 (upd H10 S1 (.lst ys10)) := same_upd hS1
        generalize upd H10 S1 (.lst ys10) = H11 at s11 hp10 ⊢
        have s12 : Same H11 (upd H11 p10 (.tup ys10)) := same_upd hp10
        have e12 : upd H11 p10 (.tup ys10) p10 = some (.tup ys10) := upd_same
        generalize upd H11 p10 (.tup ys10) = H12 at s12 e12 ⊢
        have s92 : Same H9 H12 := sTr (sTr s10 s11) s12
        refine ⟨.ref l, rfl, .inl ⟨l, ds, rfl, SqL.of (s92 _ _ (s9 _ _ (kF _ _ hl8 nlF))), fun p13 hp13 => ?_⟩⟩
        have s13 : Same H12 (upd H12 p13 (.tup ds)) := same_upd hp13
        have e13 : upd H12 p13 (.tup ds) p13 = some (.tup ds) := upd_same
        generalize upd H12 p13 (.tup ds) = H13 at s13 e13 ⊢
        refine ⟨tupD S, tupD S, tupD_dp (s13 _ _ e12) ((k10.mono (sTr s11 s12)).mono s13), tupD_dp e13 ((k9.mono s92).mono s13), shaped_tup ok, shaped_tup ok, ?_⟩
        rw [reflT _ ok]
        have s9D : Same H' H13 := sTr (sTr s9 s92) s13
        refine q H13 ?_ ?_
        · intro a o ea na
          have h8 := s8 _ _ (kp _ _ (s06 _ _ ea) na)
          have naF : a ≠ lF := ne_of_none (kp _ _ (s06 _ _ ea) na) hF
          exact s9D _ _ (kF _ _ h8 naF)
        · obtain ⟨o, m, k, hb', rest⟩ := hb8
          exact ⟨o, m, k, s9D _ _ (kF _ _ hb' nbF), rest⟩
      refine ⟨.str x, rfl, S.length + 1, fun ys H0 v H' => Same H0 H' ∧ ∃ e, S[ys.length]? = some e ∧ TokAt H' v e, fun ys H0 H' => Same H0 H' ∧ ys.length = S.length,
        fun n σ' H' => n ≤ rn ∧ ∃ e fs, σ' = [some (.ref b), some (.str x), some (.ref l), some (.int rn), some (.ref lF), e] ∧ Kept lF H8 H' ∧ H' lF = some (.lst fs) ∧ Toks H' fs (S.take n), ?_, ?_, ?_, ?_, ?_⟩
      · exact ⟨Nat.zero_le _, none, [], rfl, Kept.refl _ _, e8, .nil⟩
      · rintro σ' H' ⟨h, _⟩
        omega
      · rintro G T ⟨L, a, go, rfl⟩ Fx
        refine gts_tokens (x := x) hm Z Fx (room_gen (hr.mono (by decide))) FN bN gN GN FE bE gE GE (fun ys H0 v H' s e => ?_) (fun ys H0 H' s e => ?_) ?_
        · rw [hS] at e
          exact ⟨s, e⟩
        · rw [hS] at e
          exact ⟨s, e⟩
        · rw [hS]
          omega
      · rintro ys σ' H0 v H2' ⟨hn, e, fs, rfl, kF, hf, tf⟩ ⟨s, ⟨tok, htok, hv⟩⟩
        have kF2 : Kept lF H8 H2' := kF.trans (sKept s)
        have hf2 := s _ _ hf
        have tf2 := tf.mono s
        have lf : fs.length = ys.length := by
          have h1 := tf.length
          have h2 : ys.length < S.length := (List.getElem?_eq_some_iff.mp htok).1
          rw [List.length_take] at h1
          omega
        refine ⟨.ref lF, rfl, lF, fs, rfl, SqL.of hf2, .int rn, rfl, _, _, rfl, rfl, ?_⟩
        refine ite2 (fun e1 => ?_) (fun e1 => ?_)
        · have en : ys.length = rn := by
            have := eq_of_beq e1
            omega
          rw [en] at tf2
          exact fin H2' _ fs kF2 hf2 tf2
        · have en : ys.length ≠ rn := by
            intro z
            refine e1 ?_
            rw [lf, z]
            exact beq_self_eq_true _
          refine ⟨.ref lF, rfl, ⟨lF, fs, rfl, SqL.of hf2⟩, v, rfl, lF, fs, rfl, hf2, by omega, by omega, _, _, rfl, kF2.upd, upd_same, ?_⟩
          have := (tf2.snoc hv).upd_lst (o := .lst (fs ++ [v])) hf2
          rw [List.take_add_one, htok]
          exact this
      · rintro ys σ' H0 H2' ⟨hn, e, fs, rfl, kF, hf, tf⟩ ⟨s, e1⟩
        have en : ys.length = rn := by omega
        rw [en] at tf
        exact fin H2' _ fs (kF.trans (sKept s)) (s _ _ hf) (tf.mono s)
end
end K2

namespace K2
/-! Texts put together of tokens and gaps. -/
theorem let_lt' {c : Nat} (h : isLet c = true) : c < 128 := by simp [isLet] at h; omega
theorem dig_lt' {c : Nat} (h : isDig c = true) : c < 128 := by simp [isDig] at h; omega
theorem let_all {c : Nat} (h : isLet c = true) : isSign c = false ∧ isDig c = false ∧ c ≠ 34 ∧ isGap c = false ∧ c ≠ 35 :=
  (show ∀ c < 128, isLet c = true → isSign c = false ∧ isDig c = false ∧ c ≠ 34 ∧ isGap c = false ∧ c ≠ 35 by decide +kernel) c (let_lt' h) h
theorem dig_all {c : Nat} (h : isDig c = true) : isSign c = false ∧ isLet c = false ∧ c ≠ 34 ∧ isGap c = false ∧ c ≠ 35 :=
  (show ∀ c < 128, isDig c = true → isSign c = false ∧ isLet c = false ∧ c ≠ 34 ∧ isGap c = false ∧ c ≠ 35 by decide +kernel) c (dig_lt' h) h
theorem sign_all {c : Nat} (h : isSign c = true) : c < 128 ∧ isLet c = false ∧ isDig c = false ∧ isGap c = false ∧ c ≠ 35 :=
  (show ∀ c ∈ signs, c < 128 ∧ isLet c = false ∧ isDig c = false ∧ isGap c = false ∧ c ≠ 35 by decide +kernel) c (List.contains_iff_mem.mp h)

/-- a token -/
inductive Tk : List Nat → Prop
  | word {w : List Nat} : w ≠ [] → (∀ c ∈ w, isLet c = true) → w.length ≤ 30 → Tk w
  | num {d : List Nat} : d ≠ [] → (∀ c ∈ d, isDig c = true) → (d.head? ≠ some 48 ∨ d.length = 1) → d.length ≤ 30 → Tk d
  | str {s : List Nat} : (∀ c ∈ s, isIn c = true) → s.length ≤ 60 → Tk (34 :: (s ++ [34]))
  | sign {c : Nat} : isSign c = true → Tk [c]

/-- the token a ahead of r does not run on -/
def Fit (a r : List Nat) : Prop := ∀ x y, a.getLast? = some x → r.head? = some y → ¬ (isLet x = true ∧ isLet y = true) ∧ ¬ (isDig x = true ∧ isDig y = true)

theorem span_stop {p : Nat → Bool} {r : List Nat} (h : ∀ y, r.head? = some y → p y = false) : span p r = 0 := by
  cases r with
  | nil => rfl
  | cons c s => exact span_neg (h c rfl)

theorem tk_tokL {t r : List Nat} (h : Tk t) (f : Fit t r) : tokL (t ++ r) = t.length := by
  cases h with
  | word hn ha hl =>
    cases t with
    | nil => exact absurd rfl hn
    | cons c s =>
      obtain ⟨z, hz⟩ : ∃ z, (c :: s).getLast? = some z := ⟨_, List.getLast?_eq_some_getLast hn⟩
      have hzl : isLet z = true := ha z (List.mem_of_getLast? hz)
      have hc := let_all (ha c List.mem_cons_self)
      show tokL (c :: (s ++ r)) = _
      rw [tokL_cons, if_neg (by rw [hc.1]; decide), if_pos (ha c List.mem_cons_self), ← List.cons_append, span_app ha, span_stop fun y hy => ?_]
      · rfl
      · cases e : isLet y with
        | false => rfl
        | true => exact absurd ⟨hzl, e⟩ (f z y hz hy).1
  | num hn ha h0 hl =>
    cases t with
    | nil => exact absurd rfl hn
    | cons c s =>
      obtain ⟨z, hz⟩ : ∃ z, (c :: s).getLast? = some z := ⟨_, List.getLast?_eq_some_getLast hn⟩
      have hzl : isDig z = true := ha z (List.mem_of_getLast? hz)
      have hc := dig_all (ha c List.mem_cons_self)
      have es : span isDig (c :: (s ++ r)) = (c :: s).length := by
        rw [← List.cons_append, span_app ha, span_stop fun y hy => ?_]
        · rfl
        · cases e : isDig y with
          | false => rfl
          | true => exact absurd ⟨hzl, e⟩ (f z y hz hy).2
      show tokL (c :: (s ++ r)) = _
      rw [tokL_cons, if_neg (by rw [hc.1]; decide), if_neg (by rw [hc.2.1]; decide), if_pos (ha c List.mem_cons_self), es, if_neg]
      rintro ⟨e1, e2⟩
      rcases h0 with h0 | h0
      · exact h0 (by rw [e1]; rfl)
      · omega
  | @str s ha hl =>
    show tokL (34 :: ((s ++ [34]) ++ r)) = _
    have es : span isIn ((s ++ [34]) ++ r) = s.length := by
      rw [List.append_assoc, span_app ha]
      show s.length + span isIn (34 :: r) = _
      rw [span_neg (by decide)]
      rfl
    rw [tokL_cons, if_neg (by decide), if_neg (by decide), if_neg (by decide), if_pos rfl, es, if_pos]
    · simp
    · refine ⟨?_, hl⟩
      rw [List.append_assoc, List.getElem?_append_right (Nat.le_refl _), Nat.sub_self]
      rfl
  | @sign c hc =>
    show tokL (c :: r) = _
    rw [tokL_cons, if_pos hc]
    rfl
theorem tk_head {t : List Nat} (h : Tk t) : ∃ c s, t = c :: s ∧ isGap c = false ∧ c ≠ 35 := by
  cases h with
  | word hn ha _ =>
    cases t with
    | nil => exact absurd rfl hn
    | cons c s => exact ⟨c, s, rfl, (let_all (ha c List.mem_cons_self)).2.2.2⟩
  | num hn ha _ _ =>
    cases t with
    | nil => exact absurd rfl hn
    | cons c s => exact ⟨c, s, rfl, (dig_all (ha c List.mem_cons_self)).2.2.2⟩
  | str => exact ⟨_, _, rfl, by decide, by decide⟩
  | sign hc => exact ⟨_, _, rfl, (sign_all hc).2.2.2⟩
theorem tk_len {t : List Nat} (h : Tk t) : 1 ≤ t.length ∧ t.length ≤ 62 := by
  cases h with
  | word hn _ hl => exact ⟨List.length_pos_iff.mpr hn, by omega⟩
  | num hn _ _ hl => exact ⟨List.length_pos_iff.mpr hn, by omega⟩
  | str _ hl => simp; omega
  | sign => exact ⟨Nat.le_refl _, by simp⟩
theorem in_lt {c : Nat} (h : isIn c = true) : c < 128 := by simp [isIn] at h; omega
theorem tk_lt {t : List Nat} (h : Tk t) : ∀ c ∈ t, c < 128 := by
  cases h with
  | word _ ha _ => exact fun c q => let_lt' (ha c q)
  | num _ ha _ _ => exact fun c q => dig_lt' (ha c q)
  | str ha _ =>
    intro c q
    rcases List.mem_cons.mp q with rfl | q
    · decide
    · rcases List.mem_append.mp q with q | q
      · exact in_lt (ha c q)
      · rw [List.mem_singleton.mp q]
        decide
  | sign hc => exact fun c q => (List.mem_singleton.mp q) ▸ (sign_all hc).1

/-- a whole gap: no remark that has not ended -/
def GapT (g : List Nat) : Prop := ∀ r, skip (g ++ r) = g.length + skip r
theorem gap_nil : GapT [] := fun r => (Nat.zero_add _).symm
theorem gap_cons {c : Nat} {g : List Nat} (h : isGap c = true) (k : GapT g) : GapT (c :: g) := fun r => by
  rw [List.cons_append, skip_gap h, k r, List.length_cons]
  omega
theorem gap_rem {s g : List Nat} (h : ∀ c ∈ s, noFeed c = true) (k : GapT g) : GapT (35 :: (s ++ 10 :: g)) := fun r => by
  have e : span noFeed ((s ++ 10 :: g) ++ r) = s.length := by
    rw [List.append_assoc, span_app h]
    show s.length + span noFeed (10 :: (g ++ r)) = _
    rw [span_neg (by decide)]
    rfl
  have ed : ((s ++ 10 :: g) ++ r).drop s.length = 10 :: (g ++ r) := by
    rw [List.append_assoc, List.drop_append_of_le_length (Nat.le_refl _), List.drop_length]
    rfl
  rw [List.cons_append, skip_hash, e, ed, skip_gap (by decide), k r]
  simp
  omega
/-- what comes at the end of a text -/
def GapE (g : List Nat) : Prop := skip g = g.length
theorem gapE_of {g : List Nat} (h : GapT g) : GapE g := by
  have := h []
  rw [List.append_nil, skip_nil] at this
  exact this
theorem gapE_rem {s : List Nat} (h : ∀ c ∈ s, noFeed c = true) : GapE (35 :: s) := by
  have e : span noFeed s = s.length := by
    have := span_app (p := noFeed) (b := []) h
    rw [List.append_nil] at this
    exact this
  unfold GapE
  rw [skip_hash, e, List.drop_length, skip_nil, List.length_cons]
  omega

theorem gap_scan {pos : Nat} {g r : List Nat} (h : GapT g) : scan pos (g ++ r) = scan (pos + g.length) r ∧ clean (g ++ r) = clean r := by
  have ed : (g ++ r).drop g.length = r := by rw [List.drop_append_of_le_length (Nat.le_refl _), List.drop_length]; rfl
  have e : skip (g ++ r) = g.length + skip ((g ++ r).drop g.length) := by rw [ed, h r]
  have e1 := scan_shift (pos := pos) e
  have e2 := clean_shift e (by simp)
  rw [ed] at e1 e2
  exact ⟨e1, e2⟩
theorem tk_scan {pos : Nat} {t r : List Nat} (h : Tk t) (f : Fit t r) : scan pos (t ++ r) = (pos, t) :: scan (pos + t.length) r ∧ clean (t ++ r) = clean r := by
  have ht := tk_tokL h f
  obtain ⟨c, s, rfl, h1, h2⟩ := tk_head h
  have et : (c :: s ++ r).take (c :: s).length = c :: s := by rw [List.take_append_of_le_length (Nat.le_refl _), List.take_length]
  have ed : (c :: s ++ r).drop (c :: s).length = r := by rw [List.drop_append_of_le_length (Nat.le_refl _), List.drop_length]; rfl
  have z : tokL (c :: (s ++ r)) ≠ 0 := by
    rw [← List.cons_append, ht]
    simp
  have e1 := scan_here (pos := pos) (r := s ++ r) h1 h2 z
  have e2 := clean_here (r := s ++ r) h1 h2 z
  rw [← List.cons_append, ht, et, ed] at e1
  rw [← List.cons_append, ht, ed] at e2
  exact ⟨e1, e2⟩

/-- a text so far, whose last token is a -/
def Sofar (p : List Nat) (found : List (Nat × List Nat)) (a : List Nat) : Prop := ∀ r, Fit a r → scan 0 (p ++ r) = found ++ scan p.length r ∧ clean (p ++ r) = clean r
theorem sofar_gap {g : List Nat} (h : GapT g) : Sofar g [] [] := fun r _ => by
  have := gap_scan (pos := 0) (r := r) h
  rw [Nat.zero_add] at this
  exact this
theorem sofar_step {p : List Nat} {found : List (Nat × List Nat)} {a g t : List Nat} (S : Sofar p found a) (hg : GapT g) (ht : Tk t) (hf : g = [] → Fit a t) (hg2 : ∀ y, g.head? = some y → isGap y = true ∨ y = 35) :
    Sofar (p ++ g ++ t) (found ++ [((p ++ g).length, t)]) t := by
  intro r f
  have fa : Fit a (g ++ (t ++ r)) := by
    cases g with
    | nil =>
      intro x y hx hy
      obtain ⟨c, s, rfl, _⟩ := tk_head ht
      exact hf rfl x y hx hy
    | cons c s =>
      intro x y hx hy
      cases hy
      have : isLet c = false ∧ isDig c = false := by
        rcases hg2 c rfl with h | h
        · constructor
          · cases e : isLet c with
            | false => rfl
            | true => rw [(let_all e).2.2.2.1] at h; cases h
          · cases e : isDig c with
            | false => rfl
            | true => rw [(dig_all e).2.2.2.1] at h; cases h
        · subst h
          decide
      rw [this.1, this.2]
      exact ⟨fun z => (nomatch z.2), fun z => (nomatch z.2)⟩
  obtain ⟨s1, c1⟩ := S _ fa
  obtain ⟨s2, c2⟩ := gap_scan (pos := p.length) (r := t ++ r) hg
  obtain ⟨s3, c3⟩ := tk_scan (pos := p.length + g.length) ht f
  have el : p ++ g ++ t ++ r = p ++ (g ++ (t ++ r)) := by simp
  rw [el, s1, c1, s2, c2, s3, c3]
  refine ⟨?_, rfl⟩
  simp [Nat.add_assoc]
theorem sofar_end {p : List Nat} {found : List (Nat × List Nat)} {a g : List Nat} (S : Sofar p found a) (hg : GapE g) (hf : Fit a g) : scan 0 (p ++ g) = found ∧ clean (p ++ g) = true := by
  obtain ⟨s1, c1⟩ := S g hf
  have e : g.drop (skip g) = [] := by
    rw [show skip g = g.length from hg, List.drop_length]
  rw [s1, c1, scan_end (by rw [e]; rfl), clean_end (by rw [e]; rfl), List.append_nil]
  exact ⟨rfl, decide_eq_true hg⟩
end K2

set_option maxHeartbeats 2000000
/-! The law's drawn tokens. -/
namespace K2
open PySem PySem.Spec PyProof.Rows L2

theorem same_free {H H' : Hp} (s : Same H H') {p : Addr} (h : H' p = none) : H p = none := by
  cases e : H p with
  | none => rfl
  | some o =>
    rw [s _ _ e] at h
    cases h
theorem grow {H : Hp} {p : Addr} {o : HO} (n : H p = none) : Same H (upd H p o) ∧ (upd H p o) p = some o ∧
    ∀ a, (upd H p o) a = none → H a = none := ⟨same_upd n, upd_same, fun a z => same_free (same_upd n) z⟩
theorem Box.some {c : Int} {H : Hp} {b : Addr} (x : Box c H b) : H b ≠ none := by
  obtain ⟨o, m, k, e, _⟩ := x
  rw [e]
  simp
theorem Box.le {c c' : Int} {H : Hp} {b : Addr} (x : Box c H b) (h : c ≤ c') : Box c' H b := by
  obtain ⟨o, m, k, e, h1, h2, h3, h4⟩ := x
  exact ⟨o, m, k, e, h1, h2, h3, by omega⟩
theorem Kept.new {b p : Addr} {H G : Hp} {o : HO} (k : Kept b H G) (n : H p = none) : Kept b H (L2.upd G p o) := fun a u e ab => by
  rw [upd_ne (ne_of_none e n)]
  exact k a u e ab
theorem Box.off {c : Int} {G : Hp} {b p : Addr} {o : HO} (x : Box c G b) (n : p ≠ b) : Box c (upd G p o) b := by
  obtain ⟨u, m, k, e, r⟩ := x
  exact ⟨u, m, k, by rw [upd_ne n.symm]; exact e, r⟩
theorem Kept.fresh {b p : Addr} {H G : Hp} (k : Kept b H G) (n : G p = none) (nb : p ≠ b) : H p = none := by
  cases e : H p with
  | none => rfl
  | some u =>
    rw [k _ _ e nb] at n
    cases n
theorem Box.ne {c : Int} {G : Hp} {b p : Addr} (x : Box c G b) (n : G p = none) : p ≠ b := fun e => by
  rw [e] at n
  exact x.some n
theorem vals_get : ∀ {xs : List V} {us : List Value}, us.length = xs.length → (∀ (i : Nat) (x : V) (u : Value), xs[i]? = some x → us[i]? = some u → RelV x u) → Vals xs us
  | [], [], _, _ => .nil
  | [], _ :: _, h, _ => by simp at h
  | _ :: _, [], h, _ => by simp at h
  | x :: xs, u :: us, h, r => .cons (r 0 x u rfl rfl) (vals_get (by simpa using h) fun i y v hy hv => r (i + 1) y v (by simpa using hy) (by simpa using hv))
section
variable {X : Cx}
/-- list(a text) -/
theorem call_listS (hc : X.calm = true) : CallR X (.type "list") (fun xs H Q => ∃ z : Str, xs = [.str z] ∧ z.length ≤ sizeLine ∧
    ∀ l, H l = none → Q (.ref l) (upd H l (.lst (z.cps.toList.map fun c => V.str ⟨#[c]⟩)))) := by
  intro pins s σ H xs us Q I r h
  obtain ⟨z, rfl, hz, q⟩ := h
  obtain ⟨u, rfl, ru⟩ := vals1 r
  obtain ⟨t, rfl⟩ := ru
  refine call_list_str (I.ok.hd hc) z t (hn := hz) fun h' tk acc c hk hS hacc => ?_
  refine ⟨.ref s.heap.objs.size, _, I.laid (t' := tk) hk (Nat.le_refl _) ?_, rfl, q _ (I.hok.fresh (Nat.le_refl _))⟩
  refine ⟨by simpa [Str.length] using hz, acc.toList, c, vals_get (by simp [hacc.1]) fun i x u hx hu => ?_, by simpa using hS⟩
  obtain ⟨d, v, hd, rfl⟩ := hacc.2 i u (by simpa using hu)
  rw [List.getElem?_map] at hx
  have hd' : z.cps.toList[i]? = some d := by simpa using hd
  rw [hd'] at hx
  cases hx
  exact ⟨v, rfl⟩
end
theorem fold_cp : ∀ (l : List Str) (acc : Array Nat), (l.foldl (fun acc p => acc ++ (Str.ofString "").cps ++ p.cps) acc).toList = acc.toList ++ (l.map cp).flatten
  | [], acc => by simp
  | p :: l, acc => by
    have e0 : (Str.ofString "").cps = #[] := by decide +kernel
    rw [List.foldl_cons, fold_cp l, e0, Array.toList_append, Array.toList_append]
    simp [cp]
theorem join_cp (l : List Str) : cp (Txt.join "" l) = (l.map cp).flatten := by
  cases l with
  | nil => decide +kernel
  | cons p l =>
    show (l.foldl (fun acc p => acc ++ (Str.ofString "").cps ++ p.cps) p.cps).toList = _
    rw [fold_cp]
    rfl
theorem cp_app (x y : Str) : cp (x ++ y) = cp x ++ cp y := by
  show (x.cps ++ y.cps).toList = _
  rw [Array.toList_append]
/-- one sign of a sort -/
def One (p : Nat → Bool) (x : Str) : Prop := ∃ c, x = ⟨#[c]⟩ ∧ p c = true
theorem one_flat {p : Nat → Bool} : ∀ {l : List Str}, (∀ x ∈ l, One p x) → ((l.map cp).flatten.length = l.length) ∧ (∀ c ∈ (l.map cp).flatten, p c = true) ∧ (l.map (·.length)).sum = l.length
  | [], _ => ⟨rfl, fun c h => (List.not_mem_nil h).elim, rfl⟩
  | x :: l, h => by
    obtain ⟨a, b, d⟩ := one_flat (l := l) fun y hy => h y (List.mem_cons_of_mem _ hy)
    obtain ⟨c, rfl, hc⟩ := h x List.mem_cons_self
    have e : cp (⟨#[c]⟩ : Str) = [c] := rfl
    refine ⟨?_, fun y hy => ?_, ?_⟩
    · rw [List.map_cons, List.flatten_cons, e, List.length_append, a]
      simp
      omega
    · rw [List.map_cons, List.flatten_cons, e] at hy
      rcases List.mem_append.mp hy with h | h
      · rw [List.mem_singleton.mp h]
        exact hc
      · exact b y h
    · rw [List.map_cons, List.sum_cons, d]
      show 1 + l.length = _
      simp
      omega
theorem sign_mem {z : Str} {v : V} {p : Nat → Bool} (h : v ∈ (z.cps.toList.map fun c => V.str ⟨#[c]⟩)) (a : (cp z).all p = true) : ∃ y, v = .str y ∧ One p y := by
  obtain ⟨c, hc, rfl⟩ := List.mem_map.mp h
  exact ⟨_, rfl, c, rfl, List.all_eq_true.mp a c hc⟩
theorem tiny {n : Nat} (h : n ≤ 1000) : n ≤ sizeLine := Nat.le_of_lt (small1000 h)

theorem scToken : FnScope ["_law_box_here", "_law_sort_of", "_law_size", "_law_turn"] ["_law_box_here"] (defScope sToken) :=
  ⟨rfl, rfl, rfl, by decide +kernel, rfl, by decide +kernel, by decide +kernel⟩
def spToken : Sp := fun vs H Q _ => ∃ (b : Addr) (c : Int), vs = [.ref b] ∧ Box c H b ∧ c ≤ 90000 ∧ ∀ H' t, Kept b H H' → Box (c + 63) H' b → Tk (cp t) → Q (.str t) H'


theorem sizes_mem {l : List Int} {v : V} (h : v ∈ l.map V.int) : ∃ k ∈ l, v = .int k := by
  obtain ⟨k, hk, rfl⟩ := List.mem_map.mp h
  exact ⟨k, hk, rfl⟩
theorem texts_mem {l : List Str} {v : V} (h : v ∈ l.map V.str) : ∃ k ∈ l, v = .str k := by
  obtain ⟨k, hk, rfl⟩ := List.mem_map.mp h
  exact ⟨k, hk, rfl⟩
/-- a written number, as a token -/
def numB (x : Str) : Bool := decide (cp x ≠ []) && (cp x).all isDig && (decide ((cp x).head? ≠ some 48) || decide ((cp x).length = 1)) && decide ((cp x).length ≤ 30)
theorem num_tk {x : Str} (h : numB x = true) : Tk (cp x) := by
  unfold numB at h
  simp only [Bool.and_eq_true, decide_eq_true_eq, Bool.or_eq_true, List.all_eq_true] at h
  exact .num h.1.1.1 h.1.1.2 h.1.2 h.2

section
variable {P : Program} {w : World} {K : PySem.W.Frag} {mg : Str → Option Value} {base : Heap}
theorem ok_token {f fO fT : Addr} {fd fdO fdT : FuncData} (F : Fun K "_law_token" "_law_token" sToken f fd) (Z : Bare mg)
    (FO : Fun K "_law_of" "_law_of" sOf fO fdO) (bO : Binds K fdO ["_law_box_here", "_law_some"] [])
    (gO : mg "_law_of" = some (.ref fO))
    (GO : FnOk P w K mg base CX0 2 fO fdO ["_law_box_here", "_law_some"] spOf)
    (FT : Fun K "_law_take" "_law_take" sTake fT fdT) (bT : Binds K fdT ["_law_box_here", "_law_many"] [])
    (gT : mg "_law_take" = some (.ref fT)) (GT : FnOk P w K mg base CX0 1 fT fdT ["_law_box_here", "_law_many"] spTake) :
    FnOk P w K mg base CX0 3 f fd ["_law_box_here"] spToken := by
  refine F.ok scToken (fun vs H Q E h => ?_) (fun cdv A outer s H vs Q E hr h => ?_)
  · obtain ⟨b, c, rfl, _⟩ := h
    rfl
  · obtain ⟨b, c, rfl, hb, hc, q⟩ := h
    have hr1 : Room 1 _ := hr.mono (by decide)
    refine ⟨_, pss_cons (ps_set (i := 1) scToken.nd rfl (.inl rfl) (pe_call GT hr1 (by rfl) gT FT.kp bT .nil pass0 (pa_cons (pv 0) (pa_cons pe_int pa_nil))))
      (pss_cons (ps_if (pt_cmpR op_lt (pv 1) pe_int (nomark _))
        (pss_cons (ps_set (i := 2) scToken.nd rfl (.inl rfl) (pe_call GO hr (by rfl) gO FO.kp bO .nil pass0 (pa_cons (pv 0) (pa_cons (pe_lst (pa_cons pe_int (pa_cons pe_int (pa_cons pe_int (pa_cons pe_int (pa_cons pe_int pa_nil)))))) pa_nil))))
        (pss_one (ps_ret (pe_join pe_str
            (pe_lc (own := [("_law_turn", 3)]) (g := gName 3) (tt := tYes) rfl scToken.nd (pi_range1 (by rfl) Z.range (pa_cons (pv 2) pa_nil))
              (blkOk_by (N := ["_law_box_here", "_law_sort_of", "_law_size", "_law_turn"]) (sc := defScope sToken) (by decide +kernel))
              (fun _ _ _ _ _ => pg_name (i := 3) scToken.nd rfl (Or.inl rfl)) (fun _ _ _ _ _ => pts_nil)
              (fun _ _ _ _ _ => pe_call GO hr (by rfl) gO FO.kp bO .nil pass0 (pa_cons (pv 0)
                (pa_cons (pe_callTy (call_listS rfl) (by rfl) Z.list (by decide +kernel) (pa_cons pe_str pa_nil)) pa_nil))))))))
        pss_nil)
      (pss_cons (ps_if (pt_cmpR op_eq (pv 1) pe_int (nomark _))
        (pss_one (ps_ret (pe_call GO hr (by rfl) gO FO.kp bO .nil pass0 (pa_cons (pv 0) (pa_cons (pe_lst (pa_cons pe_str (pa_cons pe_str (pa_cons pe_str (pa_cons pe_str (pa_cons pe_str pa_nil)))))) pa_nil)))))
        pss_nil)
      (pss_cons (ps_if (pt_cmpR op_eq (pv 1) pe_int (nomark _))
        (pss_cons (ps_set (i := 2) scToken.nd rfl (.inl rfl) (pe_call GO hr (by rfl) gO FO.kp bO .nil pass0 (pa_cons (pv 0) (pa_cons (pe_lst (pa_cons pe_int (pa_cons pe_int (pa_cons pe_int (pa_cons pe_int pa_nil))))) pa_nil))))
        (pss_one (ps_ret (pe_op op_add_str (pe_op op_add_str pe_str (pe_join pe_str
            (pe_lc (own := [("_law_turn", 3)]) (g := gName 3) (tt := tYes) rfl scToken.nd (pi_range1 (by rfl) Z.range (pa_cons (pv 2) pa_nil))
              (blkOk_by (N := ["_law_box_here", "_law_sort_of", "_law_size", "_law_turn"]) (sc := defScope sToken) (by decide +kernel))
              (fun _ _ _ _ _ => pg_name (i := 3) scToken.nd rfl (Or.inl rfl)) (fun _ _ _ _ _ => pts_nil)
              (fun _ _ _ _ _ => pe_call GO hr (by rfl) gO FO.kp bO .nil pass0 (pa_cons (pv 0)
                (pa_cons (pe_callTy (call_listS rfl) (by rfl) Z.list (by decide +kernel) (pa_cons pe_str pa_nil)) pa_nil)))))) pe_str))))
        pss_nil)
      (pss_one (ps_ret (pe_call GO hr (by rfl) gO FO.kp bO .nil pass0 (pa_cons (pv 0)
                (pa_cons (pe_callTy (call_listS rfl) (by rfl) Z.list (by decide +kernel) (pa_cons pe_str pa_nil)) pa_nil)))))))), ?_⟩
    refine ⟨.ref b, rfl, b, 8, c, rfl, hb, by decide, by decide, by omega, fun H1 r kp1 hb1 r0 r1 => ?_⟩
    refine ⟨.int r, rfl, _, _, rfl, rfl, _, rfl, ?_⟩
    by_cases c3 : r < 3
    · rw [decide_eq_true c3]
      refine iteT ⟨.ref b, rfl, by decide, fun l nl => ?_⟩
      obtain ⟨sl, fl, ul⟩ := grow (o := .lst ([1, 2, 12, 13, 30].map V.int)) nl
      refine ⟨b, l, _, _, rfl, hb1.same sl, fl, hb1.ne nl, by decide, by decide, by omega, fun G0 v kp2 hb2 hm => ?_⟩
      obtain ⟨kk, hk, rfl⟩ := sizes_mem hm
      have k0 : Kept b H G0 := (kp1.trans (sKept sl)).trans kp2
      obtain ⟨cc, hcc⟩ : ∃ cc : Int, cc = c + 2 := ⟨_, rfl⟩
      have b0 : Box cc G0 b := hb2.le (by omega)
      have k1 : 1 ≤ kk ∧ kk ≤ 30 := by
        simp only [List.mem_cons, List.not_mem_nil, or_false] at hk
        omega
      let zz : Str := "abnewif"
      let pp := isLet
      have hpp : (cp zz).all pp = true := by decide +kernel
      refine ⟨⟨_, rfl⟩, .int kk, rfl, kk, rfl, by omega, by omega, fun D nD => ?_⟩
      have nDb := b0.ne nD
      have hD : H D = none := k0.fresh nD nDb
      refine lc_range (lo := 0) (n := kk.toNat) (fun j G' => Kept b H G' ∧ Box (cc + j) G' b ∧
        ∃ zs : List Str, G' D = some (.lst (zs.map V.str)) ∧ zs.length = j ∧ ∀ y ∈ zs, One pp y) ?_ ?_ ?_
      · exact ⟨k0.new hD, (b0.off nDb).le (by omega), [], upd_same, rfl, fun y hy => (List.not_mem_nil hy).elim⟩
      · rintro j G1 hj ⟨k1', b1', zs, d1', lz, oz⟩
        refine ⟨rfl, ?_⟩
        refine ⟨.ref b, rfl, zz, rfl, (by decide +kernel), fun l nl => ?_⟩
        obtain ⟨sl, fl, ul⟩ := grow (o := .lst (zz.cps.toList.map fun c => V.str ⟨#[c]⟩)) nl
        have nlb := b1'.ne nl
        refine ⟨b, l, _, _, rfl, b1'.same sl, fl, nlb, (by decide +kernel), (by decide +kernel), by omega, fun G2 v kp2 hb2 hm2 => ?_⟩
        obtain ⟨y, rfl, oy1⟩ := sign_mem hm2 hpp
        have kk2 : Kept b G1 G2 := (sKept sl).trans kp2
        have d2 := kk2 _ _ d1' nDb
        refine ⟨_, d2, ?_, ?_⟩
        · rw [List.length_map]
          exact small1000 (by omega)
        · refine ⟨(k1'.trans kk2).new hD, (hb2.off nDb).le (by omega), zs ++ [y], by rw [upd_same, List.map_append]; rfl, by rw [List.length_append, lz]; rfl, fun u hu => ?_⟩
          rcases List.mem_append.mp hu with h | h
          · exact oz u h
          · rw [List.mem_singleton.mp h]
            exact oy1
      rintro G1 ⟨k1', b1', zs, d1', lz, oz⟩
      obtain ⟨jl, jo, js⟩ := one_flat oz
      have e0 : (Str.ofString "").length = 0 := by decide +kernel
      refine ⟨_, D, zs, rfl, rfl, .inl (SqL.of d1'), by rw [e0, js]; omega, ?_⟩
      rw [← join_cp] at jl jo
      refine q G1 _ k1' (b1'.le (by omega)) (.word ?_ jo (by omega))
      intro e
      rw [e] at jl
      have : (0 : Nat) = zs.length := jl
      omega
    · rw [decide_eq_false c3]
      refine iteF ⟨.int r, rfl, rfl, _, rfl, ?_⟩
      by_cases c4 : r = 3
      · rw [decide_eq_true (by rw [c4])]
        refine iteT ⟨.ref b, rfl, by decide, fun l nl => ?_⟩
        obtain ⟨sl, fl, ul⟩ := grow (o := .lst ((["0", "7", "10", "999", "123456789"] : List Str).map V.str)) nl
        refine ⟨b, l, _, _, rfl, hb1.same sl, fl, hb1.ne nl, by decide, by decide, by omega, fun G0 v kp2 hb2 hm => ?_⟩
        obtain ⟨x, hx, rfl⟩ := texts_mem hm
        refine q G0 x ((kp1.trans (sKept sl)).trans kp2) (hb2.le (by omega)) (num_tk ?_)
        exact (show ∀ x ∈ (["0", "7", "10", "999", "123456789"] : List Str), numB x = true by decide +kernel) x hx
      · rw [decide_eq_false (fun z => c4 (V.int.inj z))]
        refine iteF ⟨.int r, rfl, rfl, _, rfl, ?_⟩
        by_cases c5 : r = 4
        · rw [decide_eq_true (by rw [c5])]
          refine iteT ⟨.ref b, rfl, by decide, fun l nl => ?_⟩
          obtain ⟨sl, fl, ul⟩ := grow (o := .lst ([0, 1, 5, 60].map V.int)) nl
          refine ⟨b, l, _, _, rfl, hb1.same sl, fl, hb1.ne nl, by decide, by decide, by omega, fun G0 v kp2 hb2 hm => ?_⟩
          obtain ⟨kk, hk, rfl⟩ := sizes_mem hm
          have k0 : Kept b H G0 := (kp1.trans (sKept sl)).trans kp2
          obtain ⟨cc, hcc⟩ : ∃ cc : Int, cc = c + 2 := ⟨_, rfl⟩
          have b0 : Box cc G0 b := hb2.le (by omega)
          have k1 : 0 ≤ kk ∧ kk ≤ 60 := by
            simp only [List.mem_cons, List.not_mem_nil, or_false] at hk
            omega
          let zz : Str := "ab #{~ "
          let pp := isIn
          have hpp : (cp zz).all pp = true := by decide +kernel
          refine ⟨⟨_, rfl⟩, .int kk, rfl, kk, rfl, by omega, by omega, fun D nD => ?_⟩
          have nDb := b0.ne nD
          have hD : H D = none := k0.fresh nD nDb
          refine lc_range (lo := 0) (n := kk.toNat) (fun j G' => Kept b H G' ∧ Box (cc + j) G' b ∧
            ∃ zs : List Str, G' D = some (.lst (zs.map V.str)) ∧ zs.length = j ∧ ∀ y ∈ zs, One pp y) ?_ ?_ ?_
          · exact ⟨k0.new hD, (b0.off nDb).le (by omega), [], upd_same, rfl, fun y hy => (List.not_mem_nil hy).elim⟩
          · rintro j G1 hj ⟨k1', b1', zs, d1', lz, oz⟩
            refine ⟨rfl, ?_⟩
            refine ⟨.ref b, rfl, zz, rfl, (by decide +kernel), fun l nl => ?_⟩
            obtain ⟨sl, fl, ul⟩ := grow (o := .lst (zz.cps.toList.map fun c => V.str ⟨#[c]⟩)) nl
            have nlb := b1'.ne nl
            refine ⟨b, l, _, _, rfl, b1'.same sl, fl, nlb, (by decide +kernel), (by decide +kernel), by omega, fun G2 v kp2 hb2 hm2 => ?_⟩
            obtain ⟨y, rfl, oy1⟩ := sign_mem hm2 hpp
            have kk2 : Kept b G1 G2 := (sKept sl).trans kp2
            have d2 := kk2 _ _ d1' nDb
            refine ⟨_, d2, ?_, ?_⟩
            · rw [List.length_map]
              exact small1000 (by omega)
            · refine ⟨(k1'.trans kk2).new hD, (hb2.off nDb).le (by omega), zs ++ [y], by rw [upd_same, List.map_append]; rfl, by rw [List.length_append, lz]; rfl, fun u hu => ?_⟩
              rcases List.mem_append.mp hu with h | h
              · exact oz u h
              · rw [List.mem_singleton.mp h]
                exact oy1
          rintro G1 ⟨k1', b1', zs, d1', lz, oz⟩
          obtain ⟨jl, jo, js⟩ := one_flat oz
          have e0 : (Str.ofString "").length = 0 := by decide +kernel
          refine ⟨_, D, zs, rfl, rfl, .inl (SqL.of d1'), by rw [e0, js]; omega, ?_⟩
          rw [← join_cp] at jl jo
          have e1 : cp ("\"" : Str) = [34] := by decide +kernel
          have jle : (Txt.join "" zs).length ≤ 60 := by
            rw [← cp_len, jl]
            omega
          have q1 : ("\"" : Str).length = 1 := by decide +kernel
          refine ⟨_, _, rfl, rfl, ?_, _, _, rfl, rfl, ?_, q G1 _ k1' (b1'.le (by omega)) ?_⟩
          · exact tiny (by omega)
          · exact tiny (by rw [strLen_append]; omega)
          · rw [cp_app, cp_app, e1]
            show Tk (34 :: (cp (Txt.join "" zs) ++ [34]))
            exact .str jo (by omega)
        · rw [decide_eq_false (fun z => c5 (V.int.inj z))]
          refine iteF ⟨.ref b, rfl, _, rfl, (by decide +kernel), fun l nl => ?_⟩
          obtain ⟨sl, fl, ul⟩ := grow (o := .lst ((Str.ofString "{}[]():.,=+-*").cps.toList.map fun c => V.str ⟨#[c]⟩)) nl
          refine ⟨b, l, _, _, rfl, hb1.same sl, fl, hb1.ne nl, (by decide +kernel), (by decide +kernel), by omega, fun G0 v kp2 hb2 hm => ?_⟩
          obtain ⟨y, rfl, d, rfl, hd⟩ := sign_mem (p := isSign) hm (by decide +kernel)
          exact q G0 _ ((kp1.trans (sKept sl)).trans kp2) (hb2.le (by omega)) (.sign hd)
end
end K2

set_option maxHeartbeats 2000000
/-! Texts that the law puts together. -/
namespace K2
open PySem PySem.Spec PyProof.Rows L2

theorem scParts : FnScope ["_law_ahead", "_law_token_here", "_law_letters", "_law_digits"] ["_law_ahead", "_law_token_here"] (defScope sParts) :=
  ⟨rfl, rfl, rfl, by decide +kernel, rfl, by decide +kernel, by decide +kernel⟩
theorem scPut : FnScope ["_law_box_here", "_law_page", "_law_found", "_law_ahead", "_law_turn", "_law_token_here", "_law_gap"] ["_law_box_here"] (defScope sPut) :=
  ⟨rfl, rfl, rfl, by decide +kernel, rfl, by decide +kernel, by decide +kernel⟩

def spParts : Sp := fun vs H Q _ => ∃ a t : Str, vs = [.str a, .str t] ∧ (cp a = [] ∨ Tk (cp a)) ∧ Tk (cp t) ∧ ∀ r H', Same H H' → (r = true → Fit (cp a) (cp t)) → Q (.bl r) H'
def spPut : Sp := fun vs H Q _ => ∃ (b : Addr) (c : Int), vs = [.ref b] ∧ Box c H b ∧ c ≤ 60000 ∧ ∀ H' t l x ds, Kept b H H' → Box (c + 6000) H' b → H' t = some (.tup [.str x, .ref l]) → H' l = some (.lst ds) →
  Toks H' ds (scan 0 (cp x)) → Page (cp x) → Q (.ref t) H'

structure GapOk (g : List Nat) : Prop where
  gap : GapT g
  hd : ∀ y, g.head? = some y → isGap y = true ∨ y = 35
  lt : ∀ c ∈ g, c < 128
  ln : g.length ≤ 20
theorem gaps7 {g : Str} (h : g ∈ (["", "", " ", "\n", "  ", " # x: \"\n", "#\n#\n"] : List Str)) : GapOk (cp g) := by
  have e0 : cp (Str.ofString "") = [] := by decide +kernel
  have e1 : cp (Str.ofString " ") = [32] := by decide +kernel
  have e2 : cp (Str.ofString "\n") = [10] := by decide +kernel
  have e3 : cp (Str.ofString "  ") = [32, 32] := by decide +kernel
  have e4 : cp (Str.ofString " # x: \"\n") = 32 :: 35 :: ([32, 120, 58, 32, 34] ++ 10 :: []) := by decide +kernel
  have e5 : cp (Str.ofString "#\n#\n") = 35 :: ([] ++ 10 :: (35 :: ([] ++ 10 :: []))) := by decide +kernel
  simp only [List.mem_cons, List.not_mem_nil, or_false] at h
  rcases h with rfl | rfl | rfl | rfl | rfl | rfl | rfl
  · rw [e0]; exact ⟨gap_nil, (fun y h => nomatch h), by decide, by decide⟩
  · rw [e0]; exact ⟨gap_nil, (fun y h => nomatch h), by decide, by decide⟩
  · rw [e1]; exact ⟨gap_cons (by decide) gap_nil, fun y h => by cases h; decide, by decide, by decide⟩
  · rw [e2]; exact ⟨gap_cons (by decide) gap_nil, fun y h => by cases h; decide, by decide, by decide⟩
  · rw [e3]; exact ⟨gap_cons (by decide) (gap_cons (by decide) gap_nil), fun y h => by cases h; decide, by decide, by decide⟩
  · rw [e4]; exact ⟨gap_cons (by decide) (gap_rem (by decide) gap_nil), fun y h => by cases h; decide, by decide, by decide⟩
  · rw [e5]; exact ⟨gap_rem (by decide) (gap_rem (by decide) gap_nil), fun y h => by cases h; decide, by decide, by decide⟩
theorem gaps3 {g : Str} (h : g ∈ (["", " ", "# only { a remark\n"] : List Str)) : GapOk (cp g) := by
  have e0 : cp (Str.ofString "") = [] := by decide +kernel
  have e1 : cp (Str.ofString " ") = [32] := by decide +kernel
  have e2 : cp (Str.ofString "# only { a remark\n") = 35 :: ([32, 111, 110, 108, 121, 32, 123, 32, 97, 32, 114, 101, 109, 97, 114, 107] ++ 10 :: []) := by decide +kernel
  simp only [List.mem_cons, List.not_mem_nil, or_false] at h
  rcases h with rfl | rfl | rfl
  · rw [e0]; exact ⟨gap_nil, (fun y h => nomatch h), by decide, by decide⟩
  · rw [e1]; exact ⟨gap_cons (by decide) gap_nil, fun y h => by cases h; decide, by decide, by decide⟩
  · rw [e2]; exact ⟨gap_rem (by decide) gap_nil, fun y h => by cases h; decide, by decide, by decide⟩
theorem ends3 {g : Str} (h : g ∈ (["", "\n", "# end"] : List Str)) : GapE (cp g) ∧ (∀ y, (cp g).head? = some y → isLet y = false ∧ isDig y = false) ∧ (∀ c ∈ cp g, c < 128) ∧ (cp g).length ≤ 5 := by
  have e0 : cp (Str.ofString "") = [] := by decide +kernel
  have e1 : cp (Str.ofString "\n") = [10] := by decide +kernel
  have e2 : cp (Str.ofString "# end") = 35 :: [32, 101, 110, 100] := by decide +kernel
  simp only [List.mem_cons, List.not_mem_nil, or_false] at h
  rcases h with rfl | rfl | rfl
  · rw [e0]; exact ⟨gapE_of gap_nil, (fun y h => nomatch h), by decide, by decide⟩
  · rw [e1]; exact ⟨gapE_of (gap_cons (by decide) gap_nil), fun y h => by cases h; decide, by decide, by decide⟩
  · rw [e2]; exact ⟨gapE_rem (by decide), fun y h => by cases h; decide, by decide, by decide⟩
theorem fit_end {a g : List Nat} (h : ∀ y, g.head? = some y → isLet y = false ∧ isDig y = false) : Fit a g := fun x y _ hy =>
  ⟨(fun z => by rw [(h y hy).1] at z; cases z.2), (fun z => by rw [(h y hy).2] at z; cases z.2)⟩
theorem one_gap : GapOk (cp (Str.ofString " ")) := gaps3 (g := Str.ofString " ") (by decide +kernel)

section
variable {P : Program} {w : World} {K : PySem.W.Frag} {mg : Str → Option Value} {base : Heap}
theorem ok_parts {f : Addr} {fd : FuncData} (F : Fun K "_law_parts" "_law_parts" sParts f fd) (Z : Bare mg) :
    FnOk P w K mg base CX0 1 f fd ["_law_ahead", "_law_token_here"] spParts := by
  refine F.ok scParts (fun vs H Q E h => ?_) (fun cdv A outer s H vs Q E hr h => ?_)
  · obtain ⟨a, t, rfl, _⟩ := h
    rfl
  · obtain ⟨a, t, rfl, ha, ht, q⟩ := h
    refine ⟨_, pss_cons (ps_asg (pe_tup (pa_cons pe_str (pa_cons pe_str pa_nil))) (pg_tup rfl (pgs_cons (pg_name (i := 2) scParts.nd rfl (.inl rfl)) (pgs_cons (pg_name (i := 3) scParts.nd rfl (.inl rfl)) pgs_nil))))
      (pss_cons (ps_if (PW.pt (pw_or (pt_cmpR op_eq (pv 0) pe_str (nomark _))
          (pw_or1 (PW.pt (pw_and (pt_cmpR op_in_sign (pe_ix ix_str (pv 0) (pe_un un_neg pe_int) (fun _ _ => rfl)) (pv 2) (by with_unfolding_all rfl))
            (pw_and1 (pt_cmpR op_in_sign (pe_ix ix_str (pv 1) pe_int (fun _ _ => rfl)) (pv 2) (by with_unfolding_all rfl))))))))
        (pss_one (ps_ret (pe_cmpR op_eq (pv 0) pe_str (nomark _)))) pss_nil)
      (pss_one (ps_ret (pe_not (pe_and (pe_cmpR op_in_sign (pe_ix ix_str (pv 0) (pe_un un_neg pe_int) (fun _ _ => rfl)) (pv 3) (by with_unfolding_all rfl))
        (pe_one (pe_cmpR op_in_sign (pe_ix ix_str (pv 1) pe_int (fun _ _ => rfl)) (pv 3) (by with_unfolding_all rfl)))))))), ?_⟩
    refine ⟨by show 2 ≤ sizeLine; decide, fun p np => ?_⟩
    obtain ⟨s1, f1, _⟩ := grow (o := .tup [.str "abcdefghijklmnopqrstuvwxyz", .str "0123456789"]) np
    generalize upd H p (.tup [.str "abcdefghijklmnopqrstuvwxyz", .str "0123456789"]) = H1 at s1 f1 ⊢
    refine ⟨p, _, rfl, SqT.of f1, rfl, _, _, rfl, _, _, rfl, rfl, ?_⟩
    have qq := fun r => q r H1 s1
    have e0 : (Str.ofString "") = (⟨#[]⟩ : Str) := by decide +kernel
    refine ⟨.str a, rfl, rfl, _, rfl, ?_⟩
    by_cases ea : cp a = []
    · have ea' : a = Str.ofString "" := by
        rw [e0]
        obtain ⟨⟨l⟩⟩ := a
        have : l = [] := ea
        rw [this]
      rw [decide_eq_true (by rw [ea'])]
      refine iteT (iteT ⟨.str a, rfl, rfl, ?_⟩)
      rw [decide_eq_true (by rw [ea'])]
      refine qq true fun _ => ?_
      rw [ea]
      intro x y hx
      cases hx
    · have na : decide (V.str a = V.str (Str.ofString "")) = false := decide_eq_false (by
        intro z
        have := V.str.inj z
        rw [e0] at this
        exact ea (by rw [this]))
      rw [na]
      have ta : Tk (cp a) := ha.resolve_left ea
      obtain ⟨xs, x, hx⟩ : ∃ xs x, cp a = xs ++ [x] := ⟨(cp a).dropLast, (cp a).getLast ea, (List.dropLast_concat_getLast ea).symm⟩
      obtain ⟨y, ys, hy⟩ : ∃ y ys, cp t = y :: ys := by
        obtain ⟨y, ys, e, _⟩ := tk_head ht
        exact ⟨y, ys, e⟩
      have la : a.length ≤ sizeLine := by
        rw [← cp_len]
        have := (tk_len ta).2
        exact tiny (by omega)
      have lt : t.length ≤ sizeLine := by
        rw [← cp_len]
        have := (tk_len ht).2
        exact tiny (by omega)
      have ax : atI a.cps.toList (-1) = some x := by
        show atI (cp a) (-1) = _
        rw [hx]
        exact atI_last xs x
      have ty : atI t.cps.toList 0 = some y := by
        show atI (cp t) ((0 : Nat) : Int) = _
        refine atI_nat (j := 0) ?_
        rw [hy]
        rfl
      have fit : ¬ (isLet x = true ∧ isLet y = true) → ¬ (isDig x = true ∧ isDig y = true) → Fit (cp a) (cp t) := by
        intro h1 h2 u v hu hv
        rw [hx, List.getLast?_concat] at hu
        rw [hy] at hv
        cases hu
        cases hv
        exact ⟨h1, h2⟩
      refine iteF ⟨.str a, rfl, 1, rfl, a, -1, x, rfl, rfl, la, ax, .str "abcdefghijklmnopqrstuvwxyz", rfl, x, _, rfl, rfl, _, rfl, ?_⟩
      rw [letters_is]
      -- behind: the digits
      have fin : ∀ D : Ends, D.rt = Q → ¬ (isLet x = true ∧ isLet y = true) → tRet (tNotV (tAndV (tOp (fun x y H Q => ∃ (c : Nat) (z : Str), x = .str ⟨#[c]⟩ ∧ y = .str z ∧ Q (.bl (decide (c ∈ z.cps.toList))) H) (tOp rIxS (tVar 0) (tUn (rU fun i => .int (-i)) (tC (.int 1)))) (tVar 3))
          (tOp (fun x y H Q => ∃ (c : Nat) (z : Str), x = .str ⟨#[c]⟩ ∧ y = .str z ∧ Q (.bl (decide (c ∈ z.cps.toList))) H) (tOp rIxS (tVar 1) (tC (.int 0))) (tVar 3)))) D [some (.str a), some (.str t), some (.str "abcdefghijklmnopqrstuvwxyz"), some (.str "0123456789")] H1 := by
        rintro D hD nl
        refine ⟨.str a, rfl, 1, rfl, a, -1, x, rfl, rfl, la, ax, .str "0123456789", rfl, x, _, rfl, rfl, _, rfl, ?_⟩
        rw [digits_is, hD]
        cases dx : isDig x with
        | false => exact iteF ⟨false, rfl, qq true fun _ => fit nl (fun z => by rw [dx] at z; cases z.1)⟩
        | true =>
          refine iteT ⟨.str t, rfl, t, 0, y, rfl, rfl, lt, ty, .str "0123456789", rfl, y, _, rfl, rfl, _, rfl, ?_⟩
          rw [digits_is]
          exact qq _ fun e => fit nl (fun z => by rw [z.2] at e; cases e)
      cases lx : isLet x with
      | false => exact iteF (fin _ rfl fun z => by rw [lx] at z; cases z.1)
      | true =>
        refine iteT ⟨.str t, rfl, t, 0, y, rfl, rfl, lt, ty, .str "abcdefghijklmnopqrstuvwxyz", rfl, y, _, rfl, rfl, _, rfl, ?_⟩
        rw [letters_is]
        cases ly : isLet y with
        | true =>
          refine iteT ⟨.str a, rfl, rfl, ?_⟩
          rw [na]
          exact qq false fun z => nomatch z
        | false => exact iteF (fin _ rfl fun z => by rw [ly] at z; cases z.2)


theorem ok_put {f fO fK fP : Addr} {fd fdO fdK fdP : FuncData} (F : Fun K "_law_put_together" "_law_put_together" sPut f fd) (Z : Bare mg)
    (FO : Fun K "_law_of" "_law_of" sOf fO fdO) (bO : Binds K fdO ["_law_box_here", "_law_some"] []) (gO : mg "_law_of" = some (.ref fO))
    (GO : FnOk P w K mg base CX0 2 fO fdO ["_law_box_here", "_law_some"] spOf)
    (FK : Fun K "_law_token" "_law_token" sToken fK fdK) (bK : Binds K fdK ["_law_box_here"] []) (gK : mg "_law_token" = some (.ref fK))
    (GK : FnOk P w K mg base CX0 3 fK fdK ["_law_box_here"] spToken)
    (FP : Fun K "_law_parts" "_law_parts" sParts fP fdP) (bP : Binds K fdP ["_law_ahead", "_law_token_here"] []) (gP : mg "_law_parts" = some (.ref fP)) :
    FnOk P w K mg base CX0 4 f fd ["_law_box_here"] spPut := by
  have GP : FnOk P w K mg base CX0 1 fP fdP ["_law_ahead", "_law_token_here"] spParts := ok_parts FP Z
  refine F.ok scPut (fun vs H Q E h => ?_) (fun cdv A outer s H vs Q E hr h => ?_)
  · obtain ⟨b, c, rfl, _⟩ := h
    rfl
  · obtain ⟨b, c, rfl, hb, hc, q⟩ := h
    have hr1 : Room 1 _ := hr.mono (by decide)
    have hr2 : Room 2 _ := hr.mono (by decide)
    refine ⟨_, pss_cons (ps_par3 (i := 1) (j := 2) (l := 3) (by rfl) scPut.nd rfl rfl rfl (by decide) (by decide) (by decide) rfl rfl rfl
        (pa_cons (pe_call GO hr2 (by rfl) gO FO.kp bO .nil pass0 (pa_cons (pv 0) (pa_cons (pe_lst (pa_cons pe_str (pa_cons pe_str (pa_cons pe_str pa_nil)))) pa_nil))) (pa_cons (pe_lst pa_nil) (pa_cons pe_str pa_nil))) (by rfl))
      (pss_cons (ps_for PassesOwn.never rfl (pi_range1 (by rfl) Z.range (pa_cons (pe_call GO hr2 (by rfl) gO FO.kp bO .nil pass0 (pa_cons (pv 0) (pa_cons (pe_lst (pa_cons pe_int (pa_cons pe_int (pa_cons pe_int (pa_cons pe_int pa_nil))))) pa_nil))) pa_nil))
          (pg_name (i := 4) scPut.nd rfl (.inl rfl))
        (pss_cons (ps_set (i := 5) scPut.nd rfl (.inl rfl) (pe_call GK hr (by rfl) gK FK.kp bK .nil pass0 (pa_cons (pv 0) pa_nil)))
        (pss_cons (ps_set (i := 6) scPut.nd rfl (.inl rfl) (pe_call GO hr2 (by rfl) gO FO.kp bO .nil pass0 (pa_cons (pv 0) (pa_cons (pe_lst (pa_cons pe_str (pa_cons pe_str (pa_cons pe_str (pa_cons pe_str (pa_cons pe_str (pa_cons pe_str (pa_cons pe_str pa_nil)))))))) pa_nil))))
        (pss_cons (ps_set (i := 1) scPut.nd rfl (.inl rfl) (pe_op op_add_str (pv 1) (pe_ifExp (PW.pt (pw_or (pt_cmpR op_ne (pv 6) pe_str (nomark _))
            (pw_or1 (pt_val (pe_call GP hr1 (by rfl) gP FP.kp bP .nil pass0 (pa_cons (pv 3) (pa_cons (pv 5) pa_nil))))))) (pv 6) pe_str)))
        (pss_cons (ps_expr (pe_bm PySem.F.plainAttrs_list PySem.F.slot_list_append PySem.F.type_list_append mt_append (pv 2)
          (pa_cons (pe_tup (pa_cons (pe_callB call_len_str (by rfl) Z.len PySem.boot_len (pa_cons (pv 1) pa_nil)) (pa_cons (pv 5) pa_nil))) pa_nil)))
        (pss_one (ps_par (by rfl) scPut.nd (i := 1) (j := 3) rfl rfl (by decide) rfl rfl (pa_cons (pe_op op_add_str (pv 1) (pv 5)) (pa_cons (pv 5) pa_nil)) (by rfl))))))))
      (pss_one (ps_ret (pe_tup (pa_cons (pe_op op_add_str (pv 1) (pe_call GO hr2 (by rfl) gO FO.kp bO .nil pass0 (pa_cons (pv 0) (pa_cons (pe_lst (pa_cons pe_str (pa_cons pe_str (pa_cons pe_str pa_nil)))) pa_nil)))) (pa_cons (pv 2) pa_nil)))))), ?_⟩
    refine ⟨.ref b, rfl, by decide, fun l0 nl0 => ?_⟩
    obtain ⟨s0, f0, _⟩ := grow (o := .lst ((["", " ", "# only { a remark\n"] : List Str).map V.str)) nl0
    refine ⟨b, l0, _, _, rfl, hb.same s0, f0, hb.ne nl0, by decide, by decide, by omega, fun H1 v kp1 hb1 hm => ?_⟩
    obtain ⟨x0, hx0, rfl⟩ := texts_mem hm
    have g0 := gaps3 hx0
    have k1 : Kept b H H1 := (sKept s0).trans kp1
    refine ⟨by decide, fun l nl => ?_⟩
    obtain ⟨s2, f2, _⟩ := grow (o := .lst []) nl
    have nlb := hb1.ne nl
    have nlH := k1.fresh nl nlb
    have k2 : Kept b H (upd H1 l (.lst [])) := k1.new nlH
    have hb2 := hb1.same s2
    generalize upd H1 l (.lst []) = H2 at s2 f2 k2 hb2 ⊢
    refine ⟨_, _, _, rfl, .ref b, rfl, by decide, fun l3 nl3 => ?_⟩
    obtain ⟨s3, f3, _⟩ := grow (o := .lst ([0, 1, 9, 80].map V.int)) nl3
    refine ⟨b, l3, _, _, rfl, hb2.same s3, f3, hb2.ne nl3, by decide, by decide, by omega, fun H3 v kp3 hb3 hm => ?_⟩
    obtain ⟨kk, hk, rfl⟩ := sizes_mem hm
    have fl3 : H3 l = some (.lst []) := kp3 _ _ (s3 _ _ f2) nlb
    have k3 : Kept b H H3 := (k2.trans (sKept s3)).trans kp3
    have kb : 0 ≤ kk ∧ kk ≤ 80 := by
      simp only [List.mem_cons, List.not_mem_nil, or_false] at hk
      omega
    refine ⟨kk, rfl, by omega, by omega, for_range (lo := 0) (n := kk.toNat) (fun j σ G => ∃ (x a : Str) (o4 o5 o6 : Option V) (ds : List V) (done : List (Nat × List Nat)),
      σ = [some (.ref b), some (.str x), some (.ref l), some (.str a), o4, o5, o6] ∧ Kept b H G ∧ Box (c + 2 + 64 * j) G b ∧ G l = some (.lst ds) ∧ Toks G ds done ∧ Sofar (cp x) done (cp a) ∧
      (cp a = [] ∨ Tk (cp a)) ∧ (cp x).length ≤ 20 + 82 * j ∧ (∀ c ∈ cp x, c < 128) ∧ ds.length ≤ j) ?_ ?_ ?_⟩
    · refine ⟨x0, Str.ofString "", none, none, none, [], [], rfl, k3, hb3.le (by omega), fl3, .nil, ?_, .inl (by decide +kernel), g0.ln, g0.lt, Nat.le_refl _⟩
      rw [show cp (Str.ofString "") = [] by decide +kernel]
      exact sofar_gap g0.gap
    · rintro j σ G hj ⟨x, a, o4, o5, o6, ds, done, rfl, kG, bG, eL, tk, sf, ha, hlen, hlt, dl⟩
      refine ⟨.ref b, rfl, b, _, rfl, bG, by omega, fun G1 t kp bG1 ht => ?_⟩
      have eL1 := kp _ _ eL nlb
      have tk1 : Toks G1 ds done := by
        obtain ⟨o, m, k, hb', _⟩ := bG
        exact tk.kept kp hb' (fun _ z => nomatch z)
      have kG1 := kG.trans kp
      refine ⟨.ref b, rfl, by decide, fun l4 nl4 => ?_⟩
      obtain ⟨s4, f4, _⟩ := grow (o := .lst ((["", "", " ", "\n", "  ", " # x: \"\n", "#\n#\n"] : List Str).map V.str)) nl4
      refine ⟨b, l4, _, _, rfl, bG1.same s4, f4, bG1.ne nl4, by decide, by decide, by omega, fun G2 v kp2 bG2 hm => ?_⟩
      obtain ⟨g, hg, rfl⟩ := texts_mem hm
      have gk := gaps7 hg
      have kk12 : Kept b G1 G2 := (sKept s4).trans kp2
      have eL2 := kk12 _ _ eL1 nlb
      have tk2 : Toks G2 ds done := by
        obtain ⟨o, m, k, hb', _⟩ := bG1
        exact tk1.kept kk12 hb' (fun _ z => nomatch z)
      have kG2 := kG1.trans kk12
      have line24 : sizeLine = 2 ^ 24 := rfl
      have j80 : j < 80 := by omega
      refine ⟨.str x, rfl, .str g, rfl, rfl, _, rfl, ?_⟩
      by_cases eg : cp g = []
      · have eg' : g = Str.ofString "" := by
          obtain ⟨⟨u⟩⟩ := g
          have : u = [] := eg
          rw [this]
          decide +kernel
        rw [eg', decide_eq_true rfl]
        refine iteF ⟨.str a, rfl, .str t, rfl, a, t, rfl, ha, ht, fun r G3 s23 hfit => ?_⟩
        refine ⟨r, rfl, ?_⟩
        cases r with
        | true =>
          obtain ⟨y, hy⟩ : ∃ y, y = Str.ofString "" := ⟨_, rfl⟩
          have gy : GapOk (cp y) := by rw [hy, ← eg']; exact gk
          have fy : cp y = [] → Fit (cp a) (cp t) := fun _ => hfit rfl
          rw [← hy]
          refine iteT ⟨.str y, rfl, ?_⟩
          have ly := gy.ln
          have lt62 := (tk_len ht).2
          have lx : x.length = (cp x).length := (cp_len x).symm
          have lyy : y.length = (cp y).length := (cp_len y).symm
          have ltt : t.length = (cp t).length := (cp_len t).symm
          have el1 : (x ++ y).length = x.length + y.length := strLen_append x y
          refine ⟨_, _, rfl, rfl, by omega, ?_⟩
          have eL3 := s23 _ _ eL2
          refine ⟨.ref l, rfl, .inl ⟨rfl, _, SqL.of eL3⟩, .str (x ++ y), rfl, x ++ y, rfl, by omega, .str t, rfl, by show 2 ≤ sizeLine; decide, fun tp ntp => ?_⟩
          have s5 : Same G3 (upd G3 tp (.tup [.int (x ++ y).length, .str t])) := same_upd ntp
          have f5 : upd G3 tp (.tup [.int (x ++ y).length, .str t]) tp = some (.tup [.int (x ++ y).length, .str t]) := upd_same
          generalize upd G3 tp (.tup [.int (x ++ y).length, .str t]) = G4 at s5 f5 ⊢
          have eL4 := s5 _ _ eL3
          refine ⟨l, ds, _, rfl, rfl, eL4, by omega, ?_⟩
          refine ⟨.str (x ++ y), rfl, .str t, rfl, _, _, rfl, rfl, by omega, .str t, rfl, _, _, rfl, ?_⟩
          have tkA : TokAt G4 (.ref tp) ((cp x ++ cp y).length, cp t) := by
            refine ⟨tp, rfl, ?_⟩
            rw [f5, el1, lx, lyy, List.length_append]
          have s24 : Same G2 G4 := sTr s23 s5
          refine ⟨x ++ y ++ t, t, _, _, _, ds ++ [.ref tp], done ++ [((cp x ++ cp y).length, cp t)], rfl, (kG2.trans (sKept s24)).new nlH, ((bG2.same s24).off nlb).le (by omega), upd_same,
            ((tk2.mono s24).snoc tkA).upd_lst eL4, ?_, .inr ht, ?_, ?_, ?_⟩
          · rw [cp_app, cp_app]
            exact sofar_step sf gy.gap ht fy gy.hd
          · rw [cp_app, cp_app, List.length_append, List.length_append]
            omega
          · rw [cp_app, cp_app]
            intro d hd
            rcases List.mem_append.mp hd with hd | hd
            · rcases List.mem_append.mp hd with hd | hd
              · exact hlt d hd
              · exact gy.lt d hd
            · exact tk_lt ht d hd
          · rw [List.length_append, List.length_singleton]
            omega
        | false =>
          obtain ⟨y, hy⟩ : ∃ y, y = Str.ofString " " := ⟨_, rfl⟩
          have gy : GapOk (cp y) := by rw [hy]; exact one_gap
          have fy : cp y = [] → Fit (cp a) (cp t) := fun z => by
            rw [hy, show cp (Str.ofString " ") = [32] by decide +kernel] at z
            cases z
          refine iteF ?_
          show tC (V.str (Str.ofString " ")) _ _ _
          rw [← hy]
          have ly := gy.ln
          have lt62 := (tk_len ht).2
          have lx : x.length = (cp x).length := (cp_len x).symm
          have lyy : y.length = (cp y).length := (cp_len y).symm
          have ltt : t.length = (cp t).length := (cp_len t).symm
          have el1 : (x ++ y).length = x.length + y.length := strLen_append x y
          refine ⟨_, _, rfl, rfl, by omega, ?_⟩
          have eL3 := s23 _ _ eL2
          refine ⟨.ref l, rfl, .inl ⟨rfl, _, SqL.of eL3⟩, .str (x ++ y), rfl, x ++ y, rfl, by omega, .str t, rfl, by show 2 ≤ sizeLine; decide, fun tp ntp => ?_⟩
          have s5 : Same G3 (upd G3 tp (.tup [.int (x ++ y).length, .str t])) := same_upd ntp
          have f5 : upd G3 tp (.tup [.int (x ++ y).length, .str t]) tp = some (.tup [.int (x ++ y).length, .str t]) := upd_same
          generalize upd G3 tp (.tup [.int (x ++ y).length, .str t]) = G4 at s5 f5 ⊢
          have eL4 := s5 _ _ eL3
          refine ⟨l, ds, _, rfl, rfl, eL4, by omega, ?_⟩
          refine ⟨.str (x ++ y), rfl, .str t, rfl, _, _, rfl, rfl, by omega, .str t, rfl, _, _, rfl, ?_⟩
          have tkA : TokAt G4 (.ref tp) ((cp x ++ cp y).length, cp t) := by
            refine ⟨tp, rfl, ?_⟩
            rw [f5, el1, lx, lyy, List.length_append]
          have s24 : Same G2 G4 := sTr s23 s5
          refine ⟨x ++ y ++ t, t, _, _, _, ds ++ [.ref tp], done ++ [((cp x ++ cp y).length, cp t)], rfl, (kG2.trans (sKept s24)).new nlH, ((bG2.same s24).off nlb).le (by omega), upd_same,
            ((tk2.mono s24).snoc tkA).upd_lst eL4, ?_, .inr ht, ?_, ?_, ?_⟩
          · rw [cp_app, cp_app]
            exact sofar_step sf gy.gap ht fy gy.hd
          · rw [cp_app, cp_app, List.length_append, List.length_append]
            omega
          · rw [cp_app, cp_app]
            intro d hd
            rcases List.mem_append.mp hd with hd | hd
            · rcases List.mem_append.mp hd with hd | hd
              · exact hlt d hd
              · exact gy.lt d hd
            · exact tk_lt ht d hd
          · rw [List.length_append, List.length_singleton]
            omega
      · have ng : decide (V.str g = V.str (Str.ofString "")) = false := decide_eq_false (fun z => eg (by rw [V.str.inj z]; decide +kernel))
        rw [ng]
        obtain ⟨y, hy⟩ : ∃ y, y = g := ⟨_, rfl⟩
        rw [← hy] at gk eg ⊢
        have gy := gk
        have fy : cp y = [] → Fit (cp a) (cp t) := fun z => absurd z eg
        have s23 : Same G2 G2 := Same.rf G2
        obtain ⟨G3, hG3⟩ : ∃ G3, G3 = G2 := ⟨_, rfl⟩
        rw [← hG3]
        rw [show Same G2 G2 = Same G2 G3 by rw [hG3]] at s23
        refine iteT (iteT ⟨.str y, rfl, ?_⟩)
        have ly := gy.ln
        have lt62 := (tk_len ht).2
        have lx : x.length = (cp x).length := (cp_len x).symm
        have lyy : y.length = (cp y).length := (cp_len y).symm
        have ltt : t.length = (cp t).length := (cp_len t).symm
        have el1 : (x ++ y).length = x.length + y.length := strLen_append x y
        refine ⟨_, _, rfl, rfl, by omega, ?_⟩
        have eL3 := s23 _ _ eL2
        refine ⟨.ref l, rfl, .inl ⟨rfl, _, SqL.of eL3⟩, .str (x ++ y), rfl, x ++ y, rfl, by omega, .str t, rfl, by show 2 ≤ sizeLine; decide, fun tp ntp => ?_⟩
        have s5 : Same G3 (upd G3 tp (.tup [.int (x ++ y).length, .str t])) := same_upd ntp
        have f5 : upd G3 tp (.tup [.int (x ++ y).length, .str t]) tp = some (.tup [.int (x ++ y).length, .str t]) := upd_same
        generalize upd G3 tp (.tup [.int (x ++ y).length, .str t]) = G4 at s5 f5 ⊢
        have eL4 := s5 _ _ eL3
        refine ⟨l, ds, _, rfl, rfl, eL4, by omega, ?_⟩
        refine ⟨.str (x ++ y), rfl, .str t, rfl, _, _, rfl, rfl, by omega, .str t, rfl, _, _, rfl, ?_⟩
        have tkA : TokAt G4 (.ref tp) ((cp x ++ cp y).length, cp t) := by
          refine ⟨tp, rfl, ?_⟩
          rw [f5, el1, lx, lyy, List.length_append]
        have s24 : Same G2 G4 := sTr s23 s5
        refine ⟨x ++ y ++ t, t, _, _, _, ds ++ [.ref tp], done ++ [((cp x ++ cp y).length, cp t)], rfl, (kG2.trans (sKept s24)).new nlH, ((bG2.same s24).off nlb).le (by omega), upd_same,
          ((tk2.mono s24).snoc tkA).upd_lst eL4, ?_, .inr ht, ?_, ?_, ?_⟩
        · rw [cp_app, cp_app]
          exact sofar_step sf gy.gap ht fy gy.hd
        · rw [cp_app, cp_app, List.length_append, List.length_append]
          omega
        · rw [cp_app, cp_app]
          intro d hd
          rcases List.mem_append.mp hd with hd | hd
          · rcases List.mem_append.mp hd with hd | hd
            · exact hlt d hd
            · exact gy.lt d hd
          · exact tk_lt ht d hd
        · rw [List.length_append, List.length_singleton]
          omega
    · rintro σ G ⟨x, a, o4, o5, o6, ds, done, rfl, kG, bG, eL, tk, sf, ha, hlen, hlt, dl⟩
      refine ⟨.str x, rfl, .ref b, rfl, by decide, fun l4 nl4 => ?_⟩
      obtain ⟨s4, f4, _⟩ := grow (o := .lst ((["", "\n", "# end"] : List Str).map V.str)) nl4
      refine ⟨b, l4, _, _, rfl, bG.same s4, f4, bG.ne nl4, by decide, by decide, by omega, fun G2 v kp2 bG2 hm => ?_⟩
      obtain ⟨g, hg, rfl⟩ := texts_mem hm
      obtain ⟨g1, g2, g3, g4⟩ := ends3 hg
      have kk12 : Kept b G G2 := (sKept s4).trans kp2
      have eL2 := kk12 _ _ eL nlb
      have tk2 : Toks G2 ds done := by
        obtain ⟨o, m, k, hb', _⟩ := bG
        exact tk.kept kk12 hb' (fun _ z => nomatch z)
      have line24 : sizeLine = 2 ^ 24 := rfl
      have lx : x.length = (cp x).length := (cp_len x).symm
      have lg : g.length = (cp g).length := (cp_len g).symm
      refine ⟨_, _, rfl, rfl, by omega, .ref l, rfl, by show 2 ≤ sizeLine; decide, fun tp ntp => ?_⟩
      obtain ⟨s5, f5, _⟩ := grow (o := .tup [.str (x ++ g), .ref l]) ntp
      obtain ⟨e1, e2⟩ := sofar_end sf g1 (fit_end g2)
      refine q _ tp l (x ++ g) ds ((kG.trans kk12).trans (sKept s5)) ((bG2.same s5).le (by omega)) f5 (s5 _ _ eL2) ?_ ⟨?_, ?_, ?_⟩
      · rw [cp_app, e1]
        exact tk2.mono s5
      · rw [cp_app, List.length_append]
        omega
      · rw [cp_app]
        intro d hd
        rcases List.mem_append.mp hd with hd | hd
        · exact hlt d hd
        · exact g3 d hd
      · rw [cp_app]
        exact e2
end
end K2

set_option maxHeartbeats 2000000
/-! A dict beside an empty one. -/
namespace K2
open PySem PySem.Spec PyProof.Rows L2
section
variable {X : Cx}
def rEq0 (t : Bool) : R2 := fun x y H Q => ∃ a b ks, x = .ref a ∧ y = .ref b ∧ H a = some (.dK ks) ∧ H b = some (.dK []) ∧ Q (.bl (if t then ks.isEmpty else !ks.isEmpty)) H
theorem op_eq0 (hu : X.A.units < cLine) : OpR X (compareOp .Eq) (rEq0 true) := by
  intro pins s σ H x y v u Q I rx ry h
  obtain ⟨a, b, ks, rfl, rfl, ea, eb, q⟩ := h
  obtain rfl : v = Value.ref a := rx
  obtain rfl : u = Value.ref b := ry
  obtain ⟨_, ya, va, ra, da⟩ := (show ObjOk X.prog X.w H s.heap a (.dK ks) from I.hok a _ ea)
  obtain ⟨_, yb, vb, rb, db⟩ := (show ObjOk X.prog X.w H s.heap b (.dK []) from I.hok b _ eb)
  have l1 := ra.length
  have l2 := rb.length
  refine PySem.W.keq_eq (knd := mixKind X.prog X.w) (r := true) ya yb da db hu (fun e => ?_) (fin_bl I q ?_)
  · cases ks with
    | nil => exact hits_all (ks := []) rb ra (fun p h => (List.not_mem_nil h).elim)
    | cons k r =>
      rw [List.length_cons] at l1
      rw [List.length_nil] at l2
      omega
  · cases ks with
    | nil =>
      rw [List.length_nil] at l1 l2
      simp [← l1, ← l2]
    | cons k r =>
      rw [List.length_cons] at l1
      rw [List.length_nil] at l2
      simp [← l1, ← l2]
theorem op_ne0 (hu : X.A.units < cLine) : OpR X (compareOp .NotEq) (rEq0 false) := by
  intro pins s σ H x y v u Q I rx ry h
  obtain ⟨a, b, ks, rfl, rfl, ea, eb, q⟩ := h
  obtain rfl : v = Value.ref a := rx
  obtain rfl : u = Value.ref b := ry
  obtain ⟨_, ya, va, ra, da⟩ := (show ObjOk X.prog X.w H s.heap a (.dK ks) from I.hok a _ ea)
  obtain ⟨_, yb, vb, rb, db⟩ := (show ObjOk X.prog X.w H s.heap b (.dK []) from I.hok b _ eb)
  have l1 := ra.length
  have l2 := rb.length
  refine PySem.W.keq_ne (knd := mixKind X.prog X.w) (r := true) ya yb da db hu (fun e => ?_) (fin_bl I q ?_)
  · cases ks with
    | nil => exact hits_all (ks := []) rb ra (fun p h => (List.not_mem_nil h).elim)
    | cons k r =>
      rw [List.length_cons] at l1
      rw [List.length_nil] at l2
      omega
  · cases ks with
    | nil =>
      rw [List.length_nil] at l1 l2
      simp [← l1, ← l2]
    | cons k r =>
      rw [List.length_cons] at l1
      rw [List.length_nil] at l2
      simp [← l1, ← l2]
end
end K2

set_option maxHeartbeats 2000000
/-! The data of a drawn project, as they stand in the heap. S: what is still written. -/
namespace K2
open PySem PySem.Spec PyProof.Rows L2

def At (S : Addr → Prop) (H : Hp) (a : Addr) (o : HO) : Prop := ¬ S a ∧ H a = some o
def Tr (S : Addr → Prop) (H : Hp) (S' : Addr → Prop) (H' : Hp) : Prop := ∀ a o, At S H a o → At S' H' a o
theorem Tr.rf (S : Addr → Prop) (H : Hp) : Tr S H S H := fun _ _ h => h
theorem Tr.tr {S S' S'' : Addr → Prop} {H H' H'' : Hp} (x : Tr S H S' H') (y : Tr S' H' S'' H'') : Tr S H S'' H'' := fun a o h => y a o (x a o h)
theorem tr_same {S : Addr → Prop} {H H' : Hp} (s : Same H H') : Tr S H S H' := fun a o h => ⟨h.1, s _ _ h.2⟩
theorem tr_kept {S : Addr → Prop} {H H' : Hp} {b : Addr} (k : Kept b H H') (hb : S b) : Tr S H S H' := fun a o h => ⟨h.1, k _ _ h.2 (by rintro rfl; exact h.1 hb)⟩
/-- one more is written: a new one -/
def Pl (S : Addr → Prop) (m : Addr) : Addr → Prop := fun a => S a ∨ a = m
theorem tr_new {S : Addr → Prop} {H : Hp} {m : Addr} {o : HO} (n : H m = none) : Tr S H (Pl S m) (upd H m o) := fun a u h => by
  have na : a ≠ m := ne_of_none h.2 n
  exact ⟨fun z => z.elim h.1 na, by rw [upd_ne na]; exact h.2⟩
theorem tr_upd {S : Addr → Prop} {H : Hp} {m : Addr} {o : HO} (hm : S m) : Tr S H S (upd H m o) := fun a u h => by
  have na : a ≠ m := by rintro rfl; exact h.1 hm
  exact ⟨h.1, by rw [upd_ne na]; exact h.2⟩
theorem tr_less {S S' : Addr → Prop} {H : Hp} (h : ∀ a, S' a → S a) : Tr S H S' H := fun a o x => ⟨fun z => x.1 (h a z), x.2⟩
/-- all that is written stands -/
def Al (S : Addr → Prop) (H : Hp) : Prop := ∀ a, S a → H a ≠ none
theorem Al.new {S : Addr → Prop} {H : Hp} (x : Al S H) {p : Addr} (n : H p = none) : ¬ S p := fun z => x p z n
theorem Al.same {S : Addr → Prop} {H H' : Hp} (x : Al S H) (s : Same H H') : Al S H' := fun a h n => x a h (same_free s n)
theorem Al.kept {S : Addr → Prop} {H H' : Hp} {b : Addr} (x : Al S H) (k : Kept b H H') (hb : H' b ≠ none) : Al S H' := fun a h n => by
  by_cases e : a = b
  · exact hb (e ▸ n)
  · exact x a h (k.fresh n e)
theorem Al.upd {S : Addr → Prop} {H : Hp} {m : Addr} {o : HO} (x : Al S H) : Al S (upd H m o) := fun a h => by
  by_cases e : a = m
  · rw [e, upd_same]
    exact fun z => nomatch z
  · rw [upd_ne e]
    exact x a h
theorem Al.pl {S : Addr → Prop} {H : Hp} {m : Addr} (x : Al S H) (h : H m ≠ none) : Al (Pl S m) H := fun a z => by
  rcases z with z | rfl
  · exact x a z
  · exact h

/-- a word -/
def Wd (s : Str) : Prop := cp s ≠ [] ∧ (∀ c ∈ cp s, isLet c = true) ∧ (cp s).length ≤ 12
def wdB (s : Str) : Bool := decide (cp s ≠ []) && (cp s).all isLet && decide ((cp s).length ≤ 12)
theorem wd_of {s : Str} (h : wdB s = true) : Wd s := by
  unfold wdB at h
  simp only [Bool.and_eq_true, decide_eq_true_eq, List.all_eq_true] at h
  exact ⟨h.1.1, h.1.2, h.2⟩
inductive Lit : V → Prop
  | txt (s : Str) : (∀ c ∈ cp s, isIn c = true) → (cp s).length ≤ 12 → Lit (.str s)
  | num (i : Int) : i.natAbs < 1000 → Lit (.int i)

section
variable (S : Addr → Prop) (H : Hp)
inductive Path : V → Prop
  | one (t : Addr) (s : Str) : At S H t (.tup [.str s]) → Wd s → Path (.ref t)
  | two (t : Addr) (s r : Str) : At S H t (.tup [.str s, .str r]) → Wd s → Wd r → Path (.ref t)
/-- None or a path -/
def PathN (v : V) : Prop := v = .non ∨ Path S H v
def Term (v : V) : Prop := ∃ t f p, v = .ref t ∧ At S H t (.tup [.int f, p]) ∧ f.natAbs < 1000 ∧ PathN S H p
inductive SV : V → Prop
  | lit (t : Addr) (v : V) : At S H t (.tup [.str "lit", v]) → Lit v → SV (.ref t)
  | copy (t : Addr) (p : V) : At S H t (.tup [.str "copy", p]) → Path S H p → SV (.ref t)
  | sum (t l : Addr) (xs : List V) : At S H t (.tup [.str "sum", .ref l]) → At S H l (.lst xs) → (∀ x ∈ xs, Term S H x) → xs.length ≤ 3 → SV (.ref t)
inductive VV : V → Prop
  | sv (v : V) : SV S H v → VV v
  | ite (t : Addr) (p l a b : V) : At S H t (.tup [.str "if", p, l, a, b]) → Path S H p → Lit l → SV S H a → SV S H b → VV (.ref t)
/-- a body of overrides: at most n bodies deep -/
def BD : Nat → Addr → Prop
  | 0, d => ∃ kvs, At S H d (.dK kvs) ∧ kvs.length ≤ 4 ∧ (∀ kv ∈ kvs, ∃ s, kv.1 = .inr s ∧ Wd s) ∧ ∀ kv ∈ kvs, VV S H kv.2
  | n + 1, d => ∃ kvs, At S H d (.dK kvs) ∧ kvs.length ≤ 4 ∧ (∀ kv ∈ kvs, ∃ s, kv.1 = .inr s ∧ Wd s) ∧ ∀ kv ∈ kvs, VV S H kv.2 ∨ ∃ t d', kv.2 = .ref t ∧ At S H t (.tup [.str "body", .ref d']) ∧ BD n d'
/-- the right side of a where -/
def Side (v : V) : Prop := ∃ t x, v = .ref t ∧ ((At S H t (.tup [.str "path", x]) ∧ Path S H x) ∨ (At S H t (.tup [.str "lit", x]) ∧ Lit x))
def Wh (v : V) : Prop := v = .non ∨ ∃ t s w, v = .ref t ∧ At S H t (.tup [.str s, w]) ∧ Wd s ∧ Side S H w
/-- what a declared field is given -/
inductive NV : Nat → V → Prop
  | vv (n : Nat) (v : V) : VV S H v → NV n v
  | new (n : Nat) (t d : Addr) (s : Str) : At S H t (.tup [.str "new", .str s, .ref d]) → Wd s → BD S H n d → NV n (.ref t)
  | loop (n : Nat) (t d : Addr) (s q : Str) (w : V) : At S H t (.tup [.str "loop", .str "it", .str q, w, .str s, .ref d]) → Wd s → Wd q → Wh S H w → BD S H n d → NV n (.ref t)
/-- a declaring body: at most k of its entries hold a body -/
def DB (n k : Nat) (d : Addr) : Prop := ∃ (kvs : List (Key × V)) (fl : List Bool), At S H d (.dK kvs) ∧ kvs.length ≤ 6 ∧ fl.length = kvs.length ∧ fl.count true ≤ k ∧ (∀ kv ∈ kvs, ∃ s, kv.1 = .inr s ∧ Wd s) ∧
  ∀ (i : Nat) kv b, kvs[i]? = some kv → fl[i]? = some b → ∃ t o x, kv.2 = .ref t ∧ At S H t (.tup [.bl o, x]) ∧ NV S H n x ∧ (b = false → VV S H x)
/-- the paths that may be read, with their kinds -/
def Kd (s : Str) : Prop := s = "text" ∨ s = "number"
def Some (v : V) : Prop := ∃ t p k, v = .ref t ∧ At S H t (.tup [p, .str k]) ∧ Path S H p ∧ Kd k
end

section
variable {S S' : Addr → Prop} {H H' : Hp}
theorem Path.mono {v : V} (x : Path S H v) (h : Tr S H S' H') : Path S' H' v := by
  cases x with
  | one t s a b => exact .one t s (h _ _ a) b
  | two t s r a b c => exact .two t s r (h _ _ a) b c
theorem PathN.mono {v : V} (x : PathN S H v) (h : Tr S H S' H') : PathN S' H' v := x.imp id fun y => y.mono h
theorem Term.mono {v : V} (x : Term S H v) (h : Tr S H S' H') : Term S' H' v := by
  obtain ⟨t, f, p, e, a, b, c⟩ := x
  exact ⟨t, f, p, e, h _ _ a, b, c.mono h⟩
theorem SV.mono {v : V} (x : SV S H v) (h : Tr S H S' H') : SV S' H' v := by
  cases x with
  | lit t v a b => exact .lit t v (h _ _ a) b
  | copy t p a b => exact .copy t p (h _ _ a) (b.mono h)
  | sum t l xs a b c d => exact .sum t l xs (h _ _ a) (h _ _ b) (fun x q => (c x q).mono h) d
theorem VV.mono {v : V} (x : VV S H v) (h : Tr S H S' H') : VV S' H' v := by
  cases x with
  | sv v a => exact .sv v (a.mono h)
  | ite t p l a b e q1 q2 q3 q4 => exact .ite t p l a b (h _ _ e) (q1.mono h) q2 (q3.mono h) (q4.mono h)
theorem BD.mono (h : Tr S H S' H') : ∀ {n : Nat} {d : Addr}, BD S H n d → BD S' H' n d
  | 0, d, ⟨kvs, a, b, c, e⟩ => ⟨kvs, h _ _ a, b, c, fun kv q => (e kv q).mono h⟩
  | n + 1, d, ⟨kvs, a, b, c, e⟩ => ⟨kvs, h _ _ a, b, c, fun kv q => (e kv q).imp (fun z => z.mono h) fun ⟨t, d', e1, e2, e3⟩ => ⟨t, d', e1, h _ _ e2, BD.mono h e3⟩⟩
theorem BD.up : ∀ {n : Nat} {d : Addr}, BD S H n d → BD S H (n + 1) d
  | 0, d, ⟨kvs, a, b, c, e⟩ => ⟨kvs, a, b, c, fun kv q => .inl (e kv q)⟩
  | n + 1, d, ⟨kvs, a, b, c, e⟩ => ⟨kvs, a, b, c, fun kv q => (e kv q).imp id fun ⟨t, d', e1, e2, e3⟩ => ⟨t, d', e1, e2, BD.up e3⟩⟩
theorem BD.le {n m : Nat} {d : Addr} (x : BD S H n d) (h : n ≤ m) : BD S H m d := by
  obtain ⟨k, rfl⟩ : ∃ k, m = n + k := ⟨m - n, by omega⟩
  induction k with
  | zero => exact x
  | succ k ih => exact (ih (by omega)).up
theorem Side.mono {v : V} (x : Side S H v) (h : Tr S H S' H') : Side S' H' v := by
  obtain ⟨t, x, e, a | a⟩ := x
  · exact ⟨t, x, e, .inl ⟨h _ _ a.1, a.2.mono h⟩⟩
  · exact ⟨t, x, e, .inr ⟨h _ _ a.1, a.2⟩⟩
theorem Wh.mono {v : V} (x : Wh S H v) (h : Tr S H S' H') : Wh S' H' v := by
  rcases x with x | ⟨t, s, w, e, a, b, c⟩
  · exact .inl x
  · exact .inr ⟨t, s, w, e, h _ _ a, b, c.mono h⟩
theorem NV.mono {n : Nat} {v : V} (x : NV S H n v) (h : Tr S H S' H') : NV S' H' n v := by
  cases x with
  | vv v a => exact .vv n v (a.mono h)
  | new t d s a b c => exact .new n t d s (h _ _ a) b (BD.mono h c)
  | loop t d s q w a b c e f => exact .loop n t d s q w (h _ _ a) b c (e.mono h) (BD.mono h f)
theorem DB.mono {n k : Nat} {d : Addr} (x : DB S H n k d) (h : Tr S H S' H') : DB S' H' n k d := by
  obtain ⟨kvs, fl, a, b, l1, l2, c, e⟩ := x
  refine ⟨kvs, fl, h _ _ a, b, l1, l2, c, fun i kv b q r => ?_⟩
  obtain ⟨t, o, x, e1, e2, e3, e4⟩ := e i kv b q r
  exact ⟨t, o, x, e1, h _ _ e2, e3.mono h, fun z => (e4 z).mono h⟩
theorem Some.mono {v : V} (x : Some S H v) (h : Tr S H S' H') : Some S' H' v := by
  obtain ⟨t, p, k, e, a, b, c⟩ := x
  exact ⟨t, p, k, e, h _ _ a, b.mono h, c⟩
end
end K2

set_option maxHeartbeats 2000000
/-! Drawn literals, copies, sums. -/
namespace K2
open PySem PySem.Spec PyProof.Rows L2

theorem scPlain : FnScope ["_law_box_here", "_law_kind"] ["_law_box_here", "_law_kind"] (defScope sPlain) := ⟨rfl, rfl, rfl, by decide +kernel, rfl, by decide +kernel, by decide +kernel⟩
theorem scSimple : FnScope ["_law_box_here", "_law_some", "_law_kind", "_law_fit", "_law_terms", "_law_turn", "_law_path", "_law_of_kind"] ["_law_box_here", "_law_some", "_law_kind"] (defScope sSimple) := ⟨rfl, rfl, rfl, by decide +kernel, rfl, by decide +kernel, by decide +kernel⟩

def spPlain : Sp := fun vs H Q _ => ∃ (b : Addr) (k : Str) (c : Int), vs = [.ref b, .str k] ∧ Box c H b ∧ c ≤ 99000 ∧ ∀ H' t v, Kept b H H' → Box (c + 1) H' b → H t = none → H' t = some (.tup [.str "lit", v]) → Lit v → Q (.ref t) H'
def spSimple : Sp := fun vs H Q _ => ∃ (b so : Addr) (k : Str) (S : Addr → Prop) (xs : List V) (c : Int), vs = [.ref b, .ref so, .str k] ∧ Box c H b ∧ c ≤ 98000 ∧ S b ∧ Al S H ∧ At S H so (.lst xs) ∧ (∀ x ∈ xs, Some S H x) ∧ xs.length ≤ 200 ∧
  ∀ H' v, Kept b H H' → Box (c + 9) H' b → SV S H' v → Q v H'

def six : List Str := ["", "x", "Ann", "Bob", "a b", "#"]
def ten : List Int := [0, 1, 2, 3, 5, 10, 40, -1, -7, 999]
theorem six_lit {s : Str} (h : s ∈ six) : Lit (.str s) := by
  have : ∀ s ∈ six, (cp s).all isIn = true ∧ (cp s).length ≤ 12 := by decide +kernel
  obtain ⟨a, b⟩ := this s h
  exact .txt s (List.all_eq_true.mp a) b
theorem ten_lit {i : Int} (h : i ∈ ten) : Lit (.int i) := .num i ((show ∀ i ∈ ten, i.natAbs < 1000 by decide +kernel) i h)

theorem str_eq {a b : Str} : decide (V.str a = V.str b) = decide (a = b) := by
  by_cases h : a = b
  · rw [h, decide_eq_true rfl, decide_eq_true rfl]
  · rw [decide_eq_false h, decide_eq_false (fun z => h (V.str.inj z))]

theorem wd_dp {K : PySem.W.Frag} {H : Hp} {S : Addr → Prop} {v : V} (x : Path S H v) : ∃ d, Dp K H v d ∧ d.canLay0 = true ∧ d.depth ≤ 1 := by
  have ok : ∀ s : Str, Wd s → PyData.strOk s = true := fun s h => by
    obtain ⟨⟨l⟩⟩ := s
    exact str_ok (l := l) (fun c q => let_lt' (h.2.1 c q))
  cases x with
  | one t s a b =>
    refine ⟨.tuple [.str s], .tup (SqT.of a.2) (.cons (.str _) .nil), ?_, ?_⟩
    · simp [PyData.canLay0, PyData.canLayAll0, ok s b]
    · simp [PyData.depth, PyData.depthAll]
  | two t s r a b c =>
    refine ⟨.tuple [.str s, .str r], .tup (SqT.of a.2) (.cons (.str _) (.cons (.str _) .nil)), ?_, ?_⟩
    · simp [PyData.canLay0, PyData.canLayAll0, ok s b, ok r c]
    · simp [PyData.depth, PyData.depthAll]
theorem paths_dp {K : PySem.W.Frag} {H : Hp} {S : Addr → Prop} : ∀ {xs : List V}, (∀ x ∈ xs, Path S H x) → ∃ ds, DpAll K H xs ds ∧ ds.length = xs.length ∧ PyData.canLayAll0 ds = true ∧ PyData.depthAll ds ≤ 1
  | [], _ => ⟨[], .nil, rfl, rfl, Nat.zero_le _⟩
  | x :: r, h => by
    obtain ⟨d, a, b, c⟩ := wd_dp (K := K) (h x List.mem_cons_self)
    obtain ⟨ds, a', l', b', c'⟩ := paths_dp (K := K) (xs := r) fun y q => h y (List.mem_cons_of_mem _ q)
    refine ⟨d :: ds, .cons a a', by rw [List.length_cons, l', List.length_cons], by rw [PyData.canLayAll0, b, b']; rfl, ?_⟩
    simp only [PyData.depthAll]
    omega
theorem eqv_nil (ds : List PyData) : PyData.eqv (.list ds) (.list []) = ds.isEmpty := by
  cases ds with
  | nil => rfl
  | cons d r => simp [PyData.eqv, PyData.eqvAll]
theorem shaped_nil : SeqAt.shaped (.list []) = true := by decide +kernel

section
variable {P : Program} {w : World} {K : PySem.W.Frag} {mg : Str → Option Value} {base : Heap}
theorem ok_plain {f fO : Addr} {fd fdO : FuncData} (F : Fun K "_law_plain" "_law_plain" sPlain f fd) (Z : Bare mg)
    (FO : Fun K "_law_of" "_law_of" sOf fO fdO) (bO : Binds K fdO ["_law_box_here", "_law_some"] []) (gO : mg "_law_of" = some (.ref fO))
    (GO : FnOk P w K mg base CX0 2 fO fdO ["_law_box_here", "_law_some"] spOf) :
    FnOk P w K mg base CX0 3 f fd ["_law_box_here", "_law_kind"] spPlain := by
  refine F.ok scPlain (fun vs H Q E h => ?_) (fun cdv A outer s H vs Q E hr h => ?_)
  · obtain ⟨b, k, c, rfl, _⟩ := h
    rfl
  · obtain ⟨b, k, c, rfl, hb, hc, q⟩ := h
    refine ⟨_, pss_cons (ps_if (pt_cmpR op_eq (pv 1) pe_str (nomark _))
        (pss_one (ps_ret (pe_tup (pa_cons pe_str (pa_cons (pe_call GO hr (by rfl) gO FO.kp bO .nil pass0 (pa_cons (pv 0) (pa_cons (pe_lst (pa_cons pe_str (pa_cons pe_str (pa_cons pe_str (pa_cons pe_str (pa_cons pe_str (pa_cons pe_str pa_nil))))))) pa_nil))) pa_nil))))) pss_nil)
      (pss_one (ps_ret (pe_tup (pa_cons pe_str (pa_cons (pe_call GO hr (by rfl) gO FO.kp bO .nil pass0 (pa_cons (pv 0) (pa_cons (pe_lst (pa_cons pe_int (pa_cons pe_int (pa_cons pe_int (pa_cons pe_int (pa_cons pe_int (pa_cons pe_int (pa_cons pe_int
        (pa_cons (pe_un un_neg pe_int) (pa_cons (pe_un un_neg pe_int) (pa_cons pe_int pa_nil))))))))))) pa_nil))) pa_nil))))), ?_⟩
    have fin : ∀ (zs : List V) (l : Addr), H l = none → zs.length ≤ 100 → 1 ≤ zs.length → (∀ v ∈ zs, Lit v) → spOf [.ref b, .ref l] (upd H l (.lst zs)) (fun v H1 => 2 ≤ sizeLine ∧ ∀ t, H1 t = none → Q (.ref t) (upd H1 t (.tup [.str "lit", v]))) (fun _ _ _ => False) := by
      intro zs l nl h1 h2 hz
      obtain ⟨sl, fl, ul⟩ := grow (o := .lst zs) nl
      refine ⟨b, l, zs, c, rfl, hb.same sl, fl, hb.ne nl, h2, by omega, by omega, fun G2 v kp hb2 hm => ⟨by decide, fun t nt => ?_⟩⟩
      obtain ⟨st, ft, ut⟩ := grow (o := .tup [.str "lit", v]) nt
      have k2 : Kept b H G2 := (sKept sl).trans kp
      exact q _ t v (k2.trans (sKept st)) (hb2.same st) (k2.fresh nt (hb2.ne nt)) ft (hz v hm)
    refine ⟨.str k, rfl, rfl, _, rfl, ?_⟩
    rw [str_eq]
    refine ite2 (fun _ => ?_) (fun _ => ?_)
    · refine ⟨.ref b, rfl, by decide, fun l nl => ?_⟩
      exact fin (six.map V.str) l nl (by decide) (by decide) (fun v h => by
        obtain ⟨s, hs, rfl⟩ := texts_mem h
        exact six_lit hs)
    · refine ⟨.ref b, rfl, ?_⟩
      refine ⟨_, rfl, _, rfl, by decide, fun l nl => ?_⟩
      exact fin (ten.map V.int) l nl (by decide) (by decide) (fun v h => by
        obtain ⟨s, hs, rfl⟩ := sizes_mem h
        exact ten_lit hs)

theorem ok_simple {f fO fT fP : Addr} {fd fdO fdT fdP : FuncData} (F : Fun K "_law_simple" "_law_simple" sSimple f fd) (Z : Bare mg)
    (FO : Fun K "_law_of" "_law_of" sOf fO fdO) (bO : Binds K fdO ["_law_box_here", "_law_some"] []) (gO : mg "_law_of" = some (.ref fO))
    (GO : FnOk P w K mg base CX0 2 fO fdO ["_law_box_here", "_law_some"] spOf)
    (FT : Fun K "_law_take" "_law_take" sTake fT fdT) (bT : Binds K fdT ["_law_box_here", "_law_many"] []) (gT : mg "_law_take" = some (.ref fT))
    (GT : FnOk P w K mg base CX0 1 fT fdT ["_law_box_here", "_law_many"] spTake)
    (FP : Fun K "_law_plain" "_law_plain" sPlain fP fdP) (bP : Binds K fdP ["_law_box_here", "_law_kind"] []) (gP : mg "_law_plain" = some (.ref fP)) :
    FnOk P w K mg base CX0 4 f fd ["_law_box_here", "_law_some", "_law_kind"] spSimple := by
  have GP : FnOk P w K mg base CX0 3 fP fdP ["_law_box_here", "_law_kind"] spPlain := ok_plain FP Z FO bO gO GO
  refine F.ok scSimple (fun vs H Q E h => ?_) (fun cdv A outer s H vs Q E hr h => ?_)
  · obtain ⟨b, so, k, S, xs, c, rfl, _⟩ := h
    rfl
  · obtain ⟨b, so, k, S, xs, c, rfl, hb, hc, Sb, al, aso, hxs, lxs, q⟩ := h
    have hr1 : Room 1 _ := hr.mono (by decide)
    have hr2 : Room 2 _ := hr.mono (by decide)
    refine ⟨_, pss_cons (ps_setLc (i := 3) (own := [("_law_path", 6), ("_law_of_kind", 7)]) (g := gTup K 2 (gCons (gName 6) (gCons (gName 7) gNil))) rfl scSimple.nd rfl rfl (sw_true rfl rfl rfl (by decide +kernel))
          (pi_list (pv 1))
          (blkOk_by (N := ["_law_box_here", "_law_some", "_law_kind", "_law_fit", "_law_terms", "_law_turn", "_law_path", "_law_of_kind"]) (sc := defScope sSimple) (by decide +kernel))
          (fun _ _ _ _ _ => pg_tup rfl (pgs_cons (pg_name (i := 6) scSimple.nd rfl (.inl rfl)) (pgs_cons (pg_name (i := 7) scSimple.nd rfl (.inl rfl)) pgs_nil)))
          (fun _ _ _ _ _ => pts_one (pt_cmpR op_eq (pv 7) (pv 2) (nomark _)))
          (fun _ _ _ _ _ => pv 6))
      (pss_cons (ps_if (PW.pt (pw_or (pt_cmpR (op_eqD hr.units) (pv 3) (pe_lst pa_nil) (nomark _))
          (pw_or1 (pt_cmpR op_eq (pe_call GT hr1 (by rfl) gT FT.kp bT .nil pass0 (pa_cons (pv 0) (pa_cons pe_int pa_nil))) pe_int (nomark _)))))
        (pss_one (ps_ret (pe_call GP hr (by rfl) gP FP.kp bP .nil pass0 (pa_cons (pv 0) (pa_cons (pv 2) pa_nil))))) pss_nil)
      (pss_cons (ps_if (PW.pt (pw_or (pt_cmpR op_eq (pv 2) pe_str (nomark _))
          (pw_or1 (pt_cmpR op_eq (pe_call GT hr1 (by rfl) gT FT.kp bT .nil pass0 (pa_cons (pv 0) (pa_cons pe_int pa_nil))) pe_int (nomark _)))))
        (pss_one (ps_ret (pe_tup (pa_cons pe_str (pa_cons (pe_call GO hr2 (by rfl) gO FO.kp bO .nil pass0 (pa_cons (pv 0) (pa_cons (pv 3) pa_nil))) pa_nil))))) pss_nil)
      (pss_cons (ps_set (i := 4) scSimple.nd rfl (.inl rfl) (pe_lst (pa_cons (pe_tup (pa_cons (pe_call GO hr2 (by rfl) gO FO.kp bO .nil pass0 (pa_cons (pv 0) (pa_cons (pe_lst (pa_cons pe_int (pa_cons pe_int (pa_cons (pe_un un_neg pe_int) (pa_cons pe_int pa_nil))))) pa_nil)))
          (pa_cons (pe_call GO hr2 (by rfl) gO FO.kp bO .nil pass0 (pa_cons (pv 0) (pa_cons (pv 3) pa_nil))) pa_nil))) pa_nil)))
      (pss_cons (ps_for PassesOwn.never rfl (pi_range1 (by rfl) Z.range (pa_cons (pe_call GT hr1 (by rfl) gT FT.kp bT .nil pass0 (pa_cons (pv 0) (pa_cons pe_int pa_nil))) pa_nil))
          (pg_name (i := 5) scSimple.nd rfl (.inl rfl))
        (pss_one (ps_expr (pe_bm PySem.F.plainAttrs_list PySem.F.slot_list_append PySem.F.type_list_append mt_append (pv 4)
          (pa_cons (pe_tup (pa_cons (pe_call GO hr2 (by rfl) gO FO.kp bO .nil pass0 (pa_cons (pv 0) (pa_cons (pe_lst (pa_cons pe_int (pa_cons (pe_un un_neg pe_int) (pa_cons pe_int (pa_cons pe_int pa_nil))))) pa_nil)))
            (pa_cons (pe_call GO hr2 (by rfl) gO FO.kp bO .nil pass0 (pa_cons (pv 0) (pa_cons (pe_op op_cat (pv 3) (pe_lst (pa_cons pe_non pa_nil))) pa_nil))) pa_nil))) pa_nil)))))
      (pss_one (ps_ret (pe_tup (pa_cons pe_str (pa_cons (pv 4) pa_nil))))))))), ?_⟩
    have nos : ∀ {p : Addr}, H p = none → p ≠ so := fun {p} n => (ne_of_none aso.2 n).symm
    refine ⟨.ref so, rfl, so, rfl, ⟨_, SqL.of aso.2⟩, fun D nD => ?_⟩
    have nDb := hb.ne nD
    refine lc_list (K := K) (a := so) (xs := xs) (fun i G => Same H G ∧ ∃ fs, G D = some (.lst fs) ∧ (∀ f ∈ fs, Path S H f) ∧ fs.length ≤ i)
      ⟨same_upd nD, [], upd_same, fun f h => (List.not_mem_nil h).elim, Nat.le_refl _⟩ (fun i G _ z => SqL.of (z.1 _ _ aso.2)) ?_ ?_
    · rintro i x G hx ⟨sG, fs, fD, hf, lf⟩
      obtain ⟨t, p, k', rfl, at_, hp, _⟩ := hxs x (List.mem_of_getElem? hx)
      refine ⟨t, _, rfl, SqT.of (sG _ _ at_.2), rfl, _, _, rfl, _, _, rfl, rfl, rfl, ?_⟩
      refine ⟨.str k', rfl, .str k, rfl, rfl, _, rfl, ?_⟩
      have li : i < xs.length := (List.getElem?_eq_some_iff.mp hx).1
      refine ite2 (fun _ => ?_) (fun _ => ?_)
      · refine ⟨p, rfl, fs, fD, small1000 (by omega), ?_⟩
        refine ⟨same_lst sG nD, fs ++ [p], upd_same, fun f h => ?_, by rw [List.length_append, List.length_singleton]; omega⟩
        rcases List.mem_append.mp h with h | h
        · exact hf f h
        · rw [List.mem_singleton.mp h]
          exact hp
      · exact ⟨sG, fs, fD, hf, by omega⟩
    rintro G ⟨sG, fs, fD, hf, lf⟩
    have alG := al.same sG
    have bG := hb.same sG
    have pG : ∀ f ∈ fs, Path S G f := fun f h => (hf f h).mono (tr_same sG)
    -- a new object is none of those that are written
    -- fit == []
    obtain ⟨ds, dp, dl, dc, dd⟩ := paths_dp (K := K) pG
    refine ⟨.ref D, rfl, Nat.zero_le _, fun l2 nl2 => ?_⟩
    obtain ⟨s2, f2, _⟩ := grow (o := .lst []) nl2
    generalize upd G l2 (.lst []) = G2 at s2 f2 ⊢
    have D2 := s2 _ _ fD
    have al2 := alG.same s2
    have b2 := bG.same s2
    have p2 : ∀ f ∈ fs, Path S G2 f := fun f h => (pG f h).mono (tr_same s2)
    obtain ⟨ds, dp, dl, dc, dd⟩ := paths_dp (K := K) p2
    have k02 : Kept b H G2 := sKept (sTr sG s2)
    have shd : SeqAt.shaped (.list ds) = true := by
      unfold SeqAt.shaped
      rw [PyData.canLay0, dc, Bool.true_and]
      exact decide_eq_true (by simp only [PyData.depth]; omega)
    refine ⟨.list ds, .list [], .lst (SqL.of D2) dp, .lst (SqL.of f2) .nil, shd, shaped_nil, _, rfl, ?_⟩
    rw [eqv_nil]
    -- a literal
    have plain : ∀ (G3 : Hp) (c3 : Int), Kept b H G3 → Box c3 G3 b → c3 ≤ c + 1 → Al S G3 → spPlain [.ref b, .str k] G3 Q (fun _ _ _ => False) := by
      intro G3 c3 k3 b3 hc3 al3
      refine ⟨b, k, c3, rfl, b3, by omega, fun H' t v kp hb' nt ft hv => ?_⟩
      exact q H' _ (k3.trans kp) (hb'.le (by omega)) (.lit t v ⟨al3.new nt, ft⟩ hv)
    refine ite2 (fun _ => iteT ⟨.ref b, rfl, .str k, rfl, plain G2 c k02 b2 (by omega) al2⟩) (fun e => ?_)
    have ne : fs ≠ [] := by
      rintro rfl
      rw [List.length_nil] at dl
      rw [List.length_eq_zero_iff.mp dl] at e
      exact e rfl
    have l1 : 1 ≤ fs.length := List.length_pos_iff.mpr ne
    refine ⟨.ref b, rfl, b, 2, c, rfl, b2, by decide, by decide, by omega, fun G3 r kp3 b3 r0 r1 => ⟨rfl, _, rfl, ?_⟩⟩
    have k03 := k02.trans kp3
    have al3 : Al S G3 := al2.kept kp3 b3.some
    have D3 := kp3 _ _ D2 nDb
    have p3 : ∀ f ∈ fs, Path S G3 f := fun f h => (p2 f h).mono (tr_kept kp3 Sb)
    refine ite2 (fun _ => ⟨.ref b, rfl, .str k, rfl, plain G3 (c + 1) k03 b3 (by omega) al3⟩) (fun _ => ?_)
    -- a copy
    have copy : ∀ (G4 : Hp) (c4 : Int), Kept b H G4 → Box c4 G4 b → c4 ≤ c + 2 → Al S G4 → G4 D = some (.lst fs) → (∀ f ∈ fs, Path S G4 f) →
        spOf [.ref b, .ref D] G4 (fun v H1 => 2 ≤ sizeLine ∧ ∀ t, H1 t = none → Q (.ref t) (upd H1 t (.tup [.str "copy", v]))) (fun _ _ _ => False) := by
      intro G4 c4 k4 b4 hc4 al4 D4 p4
      refine ⟨b, D, fs, c4, rfl, b4, D4, nDb, l1, by omega, by omega, fun H' v kp hb' hm => ⟨by decide, fun t nt => ?_⟩⟩
      obtain ⟨st, ft, _⟩ := grow (o := .tup [.str "copy", v]) nt
      have al5 : Al S H' := al4.kept kp hb'.some
      exact q _ _ ((k4.trans kp).trans (sKept st)) ((hb'.same st).le (by omega)) (.copy t v ⟨al5.new nt, ft⟩ ((p4 v hm).mono ((tr_kept kp Sb).tr (tr_same st))))
    refine ⟨.str k, rfl, rfl, _, rfl, ?_⟩
    refine ite2 (fun _ => iteT ⟨.ref b, rfl, .ref D, rfl, copy G3 (c + 1) k03 b3 (by omega) al3 D3 p3⟩) (fun _ => ?_)
    refine ⟨.ref b, rfl, b, 4, c + 1, rfl, b3, by decide, by decide, by omega, fun G4 r kp4 b4 r0 r1 => ⟨rfl, _, rfl, ?_⟩⟩
    have k04 := k03.trans kp4
    have al4 : Al S G4 := al3.kept kp4 b4.some
    have D4 := kp4 _ _ D3 nDb
    have p4 : ∀ f ∈ fs, Path S G4 f := fun f h => (p3 f h).mono (tr_kept kp4 Sb)
    refine ite2 (fun _ => ⟨.ref b, rfl, .ref D, rfl, copy G4 (c + 2) k04 (b4.le (by omega)) (by omega) al4 D4 p4⟩) (fun _ => ?_)
    -- a sum
    refine ⟨.ref b, rfl, 1, rfl, by decide, fun l5 nl5 => ?_⟩
    obtain ⟨s5, f5, _⟩ := grow (o := .lst ([2, 3, -1, 10].map V.int)) nl5
    refine ⟨b, l5, [2, 3, -1, 10].map V.int, _, rfl, b4.same s5, f5, b4.ne nl5, by decide, by decide, by omega, fun G5 v kp5 b5 hm => ?_⟩
    obtain ⟨i1, hi1, rfl⟩ := sizes_mem hm
    have k45 : Kept b G4 G5 := (sKept s5).trans kp5
    refine ⟨.ref b, rfl, .ref D, rfl, b, D, fs, _, rfl, b5, k45 _ _ D4 nDb, nDb, l1, by omega, by omega, fun G6 v kp6 b6 hm => ?_⟩
    have k46 := k45.trans kp6
    have al6 : Al S G6 := al4.kept k46 b6.some
    have D6 := k46 _ _ D4 nDb
    have v6 : Path S G6 v := (p4 v hm).mono (tr_kept k46 Sb)
    refine ⟨by show 2 ≤ sizeLine; decide, fun t6 nt6 => ?_⟩
    obtain ⟨s6, f6, _⟩ := grow (o := .tup [.int i1, v]) nt6
    have a6 : At S (upd G6 t6 (.tup [.int i1, v])) t6 (.tup [.int i1, v]) := ⟨al6.new nt6, f6⟩
    have al7 := al6.same s6
    have b7 := b6.same s6
    have D7 := s6 _ _ D6
    have k47 : Kept b G4 (upd G6 t6 (.tup [.int i1, v])) := k46.trans (sKept s6)
    have v7 : Path S (upd G6 t6 (.tup [.int i1, v])) v := v6.mono (tr_same s6)
    generalize upd G6 t6 (.tup [.int i1, v]) = G7 at a6 al7 b7 D7 k47 v7 ⊢
    refine ⟨by show 1 ≤ sizeLine; decide, fun T nT => ?_⟩
    obtain ⟨sT, fT, _⟩ := grow (o := .lst [.ref t6]) nT
    have nTb := b7.ne nT
    have nTD : T ≠ D := (ne_of_none D7 nT).symm
    have nST : ¬ S T := al7.new nT
    have k48 : Kept b G4 (upd G7 T (.lst [.ref t6])) := k47.trans (sKept sT)
    have al8 := al7.same sT
    have b8 := b7.same sT
    have D8 := sT _ _ D7
    have a8 := tr_same (S := S) sT _ _ a6
    have v8 : Path S (upd G7 T (.lst [.ref t6])) v := v7.mono (tr_same sT)
    have nT4 : H T = none := (k04.trans k47).fresh nT nTb
    -- while terms grow they are one of those that are written
    have tm : Term (Pl S T) (upd G7 T (.lst [.ref t6])) (.ref t6) := by
      refine ⟨t6, i1, v, rfl, tr_new nT _ _ a6, ?_, .inr (v7.mono (tr_new nT))⟩
      exact (show ∀ i ∈ ([2, 3, -1, 10] : List Int), i.natAbs < 1000 by decide) i1 hi1
    have p8 : ∀ f ∈ fs, Path (Pl S T) (upd G7 T (.lst [.ref t6])) f := fun f h => ((p4 f h).mono (tr_kept k47 Sb)).mono (tr_new nT)
    generalize upd G7 T (.lst [.ref t6]) = G8 at fT k48 al8 b8 D8 tm p8 ⊢
    refine ⟨.ref b, rfl, b, 3, _, rfl, b8, by decide, by decide, by omega, fun G9 r9 kp9 b9 r90 r91 => ?_⟩
    have al9 : Al S G9 := al8.kept kp9 b9.some
    have SbT : Pl S T b := .inl Sb
    refine ⟨r9, rfl, by omega, by omega, for_range (lo := 0) (n := r9.toNat) (fun j σ G => ∃ o5 ts, σ = [some (.ref b), some (.ref so), some (.str k), some (.ref D), some (.ref T), o5, none, none] ∧ Kept b H G ∧ Box (c + 5 + 2 * j) G b ∧ Al S G ∧
      G D = some (.lst fs) ∧ (∀ f ∈ fs, Path (Pl S T) G f) ∧ G T = some (.lst ts) ∧ (∀ x ∈ ts, Term (Pl S T) G x) ∧ ts.length ≤ j + 1) ?_ ?_ ?_⟩
    · refine ⟨none, [.ref t6], rfl, (k04.trans k48).trans kp9, b9.le (by omega), al9, kp9 _ _ D8 nDb, fun f h => (p8 f h).mono (tr_kept kp9 SbT), kp9 _ _ fT nTb, fun x h => ?_, Nat.le_refl _⟩
      rw [List.mem_singleton.mp h]
      exact tm.mono (tr_kept kp9 SbT)
    · rintro j σ G hj ⟨o5, ts, rfl, kG, bG, alG, DG, pG, TG, tG, lG⟩
      refine ⟨.ref T, rfl, .inl ⟨rfl, _, SqL.of TG⟩, .ref b, rfl, 1, rfl, by decide, fun l5 nl5 => ?_⟩
      obtain ⟨s5, f5, _⟩ := grow (o := .lst ([1, -1, 2, 7].map V.int)) nl5
      refine ⟨b, l5, [1, -1, 2, 7].map V.int, _, rfl, bG.same s5, f5, bG.ne nl5, by decide, by decide, by omega, fun G5 v kp5 b5 hm => ?_⟩
      obtain ⟨i2, hi2, rfl⟩ := sizes_mem hm
      have kG5 : Kept b G G5 := (sKept s5).trans kp5
      refine ⟨.ref b, rfl, .ref D, rfl, by decide, fun l6 nl6 => ?_⟩
      obtain ⟨s6, f6, _⟩ := grow (o := .lst [.non]) nl6
      refine ⟨D, l6, fs, [.non], rfl, rfl, s6 _ _ (kG5 _ _ DG nDb), f6, by have := tiny (n := fs.length + 1) (by omega); exact this, fun l7 nl7 => ?_⟩
      obtain ⟨s7, f7, _⟩ := grow (o := .lst (fs ++ [.non])) nl7
      have s67 := sTr s6 s7
      refine ⟨b, l7, fs ++ [.non], _, rfl, b5.same s67, f7, (b5.same s6).ne nl7, by rw [List.length_append]; show 1 ≤ fs.length + 1; omega, by rw [List.length_append]; show fs.length + 1 ≤ 1000; omega, by omega, fun G8 v kp8 b8 hm => ?_⟩
      have kG8 : Kept b G G8 := (kG5.trans (sKept s67)).trans kp8
      have v8 : PathN (Pl S T) G8 v := by
        rcases List.mem_append.mp hm with h | h
        · exact .inr ((pG v h).mono (tr_kept kG8 SbT))
        · exact .inl (List.mem_singleton.mp h)
      refine ⟨by show 2 ≤ sizeLine; decide, fun t8 nt8 => ?_⟩
      obtain ⟨s8, f8, _⟩ := grow (o := .tup [.int i2, v]) nt8
      have T8 := kG8 _ _ TG nTb
      have al8 : Al S G8 := alG.kept kG8 b8.some
      have nt8T : t8 ≠ T := (ne_of_none T8 nt8).symm
      have a8 : At (Pl S T) (upd G8 t8 (.tup [.int i2, v])) t8 (.tup [.int i2, v]) := ⟨fun z => z.elim (al8.new nt8) nt8T, f8⟩
      refine ⟨T, ts, _, rfl, rfl, s8 _ _ T8, small1000 (by omega), ?_⟩
      have v9 := v8.mono (tr_same (S := Pl S T) s8)
      have t9 : ∀ x ∈ ts, Term (Pl S T) (upd G8 t8 (.tup [.int i2, v])) x := fun x h => (tG x h).mono ((tr_kept kG8 SbT).tr (tr_same s8))
      have p9 : ∀ f ∈ fs, Path (Pl S T) (upd G8 t8 (.tup [.int i2, v])) f := fun f h => (pG f h).mono ((tr_kept kG8 SbT).tr (tr_same s8))
      have al9 := al8.same s8
      have b9 := b8.same s8
      have D9 := s8 _ _ (kG8 _ _ DG nDb)
      have k9 : Kept b H (upd G8 t8 (.tup [.int i2, v])) := (kG.trans kG8).trans (sKept s8)
      generalize upd G8 t8 (.tup [.int i2, v]) = G9 at a8 v9 t9 p9 al9 b9 D9 k9 ⊢
      have ut : Tr (Pl S T) G9 (Pl S T) (upd G9 T (.lst (ts ++ [.ref t8]))) := tr_upd (.inr rfl)
      refine ⟨_, ts ++ [.ref t8], rfl, k9.new nT4, (b9.off nTb).le (by omega), al9.upd, by rw [upd_ne nTD.symm]; exact D9, fun f h => (p9 f h).mono ut, upd_same, fun x h => ?_, by rw [List.length_append, List.length_singleton]; omega⟩
      rcases List.mem_append.mp h with h | h
      · exact (t9 x h).mono ut
      · rw [List.mem_singleton.mp h]
        exact ⟨t8, i2, v, rfl, ut _ _ a8, (show ∀ i ∈ ([1, -1, 2, 7] : List Int), i.natAbs < 1000 by decide) i2 hi2, v9.mono ut⟩
    · rintro σ G ⟨o5, ts, rfl, kG, bG, alG, DG, pG, TG, tG, lG⟩
      refine ⟨.ref T, rfl, by show 2 ≤ sizeLine; decide, fun t9 nt9 => ?_⟩
      obtain ⟨s9, f9, _⟩ := grow (o := .tup [.str "sum", .ref T]) nt9
      have less : Tr (Pl S T) G S (upd G t9 (.tup [.str "sum", .ref T])) := (tr_less fun a h => .inl h).tr (tr_same s9)
      exact q _ _ (kG.trans (sKept s9)) ((bG.same s9).le (by omega)) (.sum t9 T ts ⟨alG.new nt9, f9⟩ ⟨nST, s9 _ _ TG⟩ (fun x h => (tG x h).mono less) (by omega))
end
end K2

set_option maxHeartbeats 2000000
/-! Drawn values. -/
namespace K2
open PySem PySem.Spec PyProof.Rows L2

theorem scValue : FnScope ["_law_box_here", "_law_some", "_law_kind", "_law_path", "_law_of_kind"] ["_law_box_here", "_law_some", "_law_kind"] (defScope sValue) := ⟨rfl, rfl, rfl, by decide +kernel, rfl, by decide +kernel, by decide +kernel⟩
def spValue : Sp := fun vs H Q _ => ∃ (b so : Addr) (k : Str) (S : Addr → Prop) (xs : List V) (c : Int), vs = [.ref b, .ref so, .str k] ∧ Box c H b ∧ c ≤ 97000 ∧ S b ∧ Al S H ∧ At S H so (.lst xs) ∧ (∀ x ∈ xs, Some S H x) ∧ xs.length ≤ 200 ∧
  ∀ H' v, Kept b H H' → Box (c + 30) H' b → VV S H' v → Q v H'

theorem some_dp {K : PySem.W.Frag} {H : Hp} {S : Addr → Prop} : ∀ {xs : List V}, (∀ x ∈ xs, Some S H x) → ∃ ds, DpAll K H xs ds ∧ ds.length = xs.length ∧ PyData.canLayAll0 ds = true ∧ PyData.depthAll ds ≤ 2
  | [], _ => ⟨[], .nil, rfl, rfl, Nat.zero_le _⟩
  | x :: r, h => by
    obtain ⟨t, p, k, rfl, a, hp, hk⟩ := h x List.mem_cons_self
    obtain ⟨d, a1, b, c⟩ := wd_dp (K := K) hp
    obtain ⟨ds, a', l', b', c'⟩ := some_dp (K := K) (xs := r) fun y q => h y (List.mem_cons_of_mem _ q)
    have ok : PyData.strOk k = true := by
      rcases hk with rfl | rfl <;> decide +kernel
    refine ⟨.tuple [d, .str k] :: ds, .cons (.tup (SqT.of a.2) (.cons a1 (.cons (.str _) .nil))) a', by rw [List.length_cons, l', List.length_cons], ?_, ?_⟩
    · rw [PyData.canLayAll0, b']
      simp [PyData.canLay0, PyData.canLayAll0, b, ok]
    · simp only [PyData.depthAll, PyData.depth]
      omega

section
variable {P : Program} {w : World} {K : PySem.W.Frag} {mg : Str → Option Value} {base : Heap}
theorem ok_value {f fO fT fP fS : Addr} {fd fdO fdT fdP fdS : FuncData} (F : Fun K "_law_value" "_law_value" sValue f fd) (Z : Bare mg)
    (FO : Fun K "_law_of" "_law_of" sOf fO fdO) (bO : Binds K fdO ["_law_box_here", "_law_some"] []) (gO : mg "_law_of" = some (.ref fO))
    (GO : FnOk P w K mg base CX0 2 fO fdO ["_law_box_here", "_law_some"] spOf)
    (FT : Fun K "_law_take" "_law_take" sTake fT fdT) (bT : Binds K fdT ["_law_box_here", "_law_many"] []) (gT : mg "_law_take" = some (.ref fT))
    (GT : FnOk P w K mg base CX0 1 fT fdT ["_law_box_here", "_law_many"] spTake)
    (FP : Fun K "_law_plain" "_law_plain" sPlain fP fdP) (bP : Binds K fdP ["_law_box_here", "_law_kind"] []) (gP : mg "_law_plain" = some (.ref fP))
    (FS : Fun K "_law_simple" "_law_simple" sSimple fS fdS) (bS : Binds K fdS ["_law_box_here", "_law_some", "_law_kind"] []) (gS : mg "_law_simple" = some (.ref fS)) :
    FnOk P w K mg base CX0 5 f fd ["_law_box_here", "_law_some", "_law_kind"] spValue := by
  have GP : FnOk P w K mg base CX0 3 fP fdP ["_law_box_here", "_law_kind"] spPlain := ok_plain FP Z FO bO gO GO
  have GS : FnOk P w K mg base CX0 4 fS fdS ["_law_box_here", "_law_some", "_law_kind"] spSimple := ok_simple FS Z FO bO gO GO FT bT gT GT FP bP gP
  refine F.ok scValue (fun vs H Q E h => ?_) (fun cdv A outer s H vs Q E hr h => ?_)
  · obtain ⟨b, so, k, S, xs, c, rfl, _⟩ := h
    rfl
  · obtain ⟨b, so, k, S, xs, c, rfl, hb, hc, Sb, al, aso, hxs, lxs, q⟩ := h
    have hr1 : Room 1 _ := hr.mono (by decide)
    have hr2 : Room 2 _ := hr.mono (by decide)
    have hr3 : Room 3 _ := hr.mono (by decide)
    have simp3 := fun (X : Cx) => (0 : Nat)
    refine ⟨_, pss_cons (ps_if (PW.pt (pw_or (pt_cmpR (op_eqD hr.units) (pv 1) (pe_lst pa_nil) (nomark _))
          (pw_or1 (pt_cmpR op_gt (pe_call GT hr1 (by rfl) gT FT.kp bT .nil pass0 (pa_cons (pv 0) (pa_cons pe_int pa_nil))) pe_int (nomark _)))))
        (pss_one (ps_ret (pe_call GS hr (by rfl) gS FS.kp bS .nil pass0 (pa_cons (pv 0) (pa_cons (pv 1) (pa_cons (pv 2) pa_nil)))))) pss_nil)
      (pss_cons (ps_asg (pe_call GO hr2 (by rfl) gO FO.kp bO .nil pass0 (pa_cons (pv 0) (pa_cons (pv 1) pa_nil)))
        (pg_tup rfl (pgs_cons (pg_name (i := 3) scValue.nd rfl (.inl rfl)) (pgs_cons (pg_name (i := 4) scValue.nd rfl (.inl rfl)) pgs_nil))))
      (pss_one (ps_ret (pe_tup (pa_cons pe_str (pa_cons (pv 3)
        (pa_cons (pe_ix ix_tup (pe_call GP hr3 (by rfl) gP FP.kp bP .nil pass0 (pa_cons (pv 0) (pa_cons (pv 4) pa_nil))) pe_int (fun _ _ => rfl))
        (pa_cons (pe_call GS hr (by rfl) gS FS.kp bS .nil pass0 (pa_cons (pv 0) (pa_cons (pv 1) (pa_cons (pv 2) pa_nil))))
        (pa_cons (pe_call GS hr (by rfl) gS FS.kp bS .nil pass0 (pa_cons (pv 0) (pa_cons (pv 1) (pa_cons (pv 2) pa_nil)))) pa_nil))))))))), ?_⟩
    have nbs : so ≠ b := by
      rintro rfl
      exact aso.1 Sb
    -- some == []
    refine ⟨.ref so, rfl, Nat.zero_le _, fun l2 nl2 => ?_⟩
    obtain ⟨s2, f2, _⟩ := grow (o := .lst []) nl2
    generalize upd H l2 (.lst []) = G2 at s2 f2 ⊢
    have a2 := tr_same (S := S) s2 _ _ aso
    have al2 := al.same s2
    have b2 := hb.same s2
    have x2 : ∀ x ∈ xs, Some S G2 x := fun x h => (hxs x h).mono (tr_same s2)
    obtain ⟨ds, dp, dl, dc, dd⟩ := some_dp (K := K) x2
    have k02 : Kept b H G2 := sKept s2
    have shd : SeqAt.shaped (.list ds) = true := by
      unfold SeqAt.shaped
      rw [PyData.canLay0, dc, Bool.true_and]
      exact decide_eq_true (by simp only [PyData.depth]; omega)
    refine ⟨.list ds, .list [], .lst (SqL.of a2.2) dp, .lst (SqL.of f2) .nil, shd, shaped_nil, _, rfl, ?_⟩
    rw [eqv_nil]
    have simple : ∀ (G3 : Hp) (c3 : Int), Kept b H G3 → Box c3 G3 b → c3 ≤ c + 1 → Al S G3 → At S G3 so (.lst xs) → (∀ x ∈ xs, Some S G3 x) → spSimple [.ref b, .ref so, .str k] G3 Q (fun _ _ _ => False) := by
      intro G3 c3 k3 b3 hc3 al3 a3 x3
      exact ⟨b, so, k, S, xs, c3, rfl, b3, by omega, Sb, al3, a3, x3, lxs, fun H' v kp hb' hv => q H' v (k3.trans kp) (hb'.le (by omega)) (.sv v hv)⟩
    refine ite2 (fun _ => iteT ⟨.ref b, rfl, .ref so, rfl, .str k, rfl, simple G2 c k02 b2 (by omega) al2 a2 x2⟩) (fun e => ?_)
    have l1 : 1 ≤ xs.length := by
      rcases Nat.eq_zero_or_pos xs.length with z | z
      · rw [z] at dl
        rw [List.length_eq_zero_iff.mp dl] at e
        exact absurd rfl e
      · exact z
    refine ⟨.ref b, rfl, b, 5, c, rfl, b2, by decide, by decide, by omega, fun G3 r kp3 b3 r0 r1 => ⟨_, _, rfl, rfl, _, rfl, ?_⟩⟩
    have k03 := k02.trans kp3
    have al3 : Al S G3 := al2.kept kp3 b3.some
    have a3 := tr_kept kp3 Sb _ _ a2
    have x3 : ∀ x ∈ xs, Some S G3 x := fun x h => (x2 x h).mono (tr_kept kp3 Sb)
    refine ite2 (fun _ => ⟨.ref b, rfl, .ref so, rfl, .str k, rfl, simple G3 (c + 1) k03 b3 (by omega) al3 a3 x3⟩) (fun _ => ?_)
    -- a choice
    refine ⟨.ref b, rfl, .ref so, rfl, b, so, xs, _, rfl, b3, a3.2, nbs, l1, by omega, by omega, fun G4 v kp4 b4 hm => ?_⟩
    have k04 := k03.trans kp4
    have al4 : Al S G4 := al3.kept kp4 b4.some
    have a4 := tr_kept kp4 Sb _ _ a3
    have x4 : ∀ x ∈ xs, Some S G4 x := fun x h => (x3 x h).mono (tr_kept kp4 Sb)
    obtain ⟨t, p, k4, rfl, at4, hp4, _⟩ := x4 v hm
    refine ⟨t, _, rfl, SqT.of at4.2, rfl, _, _, rfl, _, _, rfl, rfl, ?_⟩
    refine ⟨p, rfl, .ref b, rfl, .str k4, rfl, b, k4, _, rfl, b4, by omega, fun G5 t5 v5 kp5 b5 nt5 ft5 hv5 => ?_⟩
    have k05 := k04.trans kp5
    have al5 : Al S G5 := al4.kept kp5 b5.some
    have a5 := tr_kept kp5 Sb _ _ a4
    have x5 : ∀ x ∈ xs, Some S G5 x := fun x h => (x4 x h).mono (tr_kept kp5 Sb)
    have p5 : Path S G5 p := hp4.mono (tr_kept kp5 Sb)
    refine ⟨t5, _, 1, v5, rfl, rfl, SqT.of ft5, atI_nat (j := 1) rfl, ?_⟩
    refine ⟨.ref b, rfl, .ref so, rfl, .str k, rfl, b, so, k, S, xs, _, rfl, b5, by omega, Sb, al5, a5, x5, lxs, fun G6 u6 kp6 b6 hu6 => ?_⟩
    have al6 : Al S G6 := al5.kept kp6 b6.some
    have a6 := tr_kept kp6 Sb _ _ a5
    have x6 : ∀ x ∈ xs, Some S G6 x := fun x h => (x5 x h).mono (tr_kept kp6 Sb)
    refine ⟨.ref b, rfl, .ref so, rfl, .str k, rfl, b, so, k, S, xs, _, rfl, b6, by omega, Sb, al6, a6, x6, lxs, fun G7 u7 kp7 b7 hu7 => ?_⟩
    have al7 : Al S G7 := al6.kept kp7 b7.some
    refine ⟨by show 5 ≤ sizeLine; decide, fun t7 nt7 => ?_⟩
    obtain ⟨s7, f7, _⟩ := grow (o := .tup [.str "if", p, v5, u6, u7]) nt7
    have kk : Kept b G5 G7 := kp6.trans kp7
    exact q _ _ (((k05.trans kp6).trans kp7).trans (sKept s7)) ((b7.same s7).le (by omega)) (.ite t7 p v5 u6 u7 ⟨al7.new nt7, f7⟩ (p5.mono ((tr_kept kk Sb).tr (tr_same s7))) hv5
      (hu6.mono ((tr_kept kp7 Sb).tr (tr_same s7))) (hu7.mono (tr_same s7)))
end
end K2

set_option maxHeartbeats 2000000
/-! The paths that may be read. -/
namespace K2
open PySem PySem.Spec PyProof.Rows L2

/-- the templates that are known: where their kinds stand, of what rank -/
abbrev Reg := Str → Option (Addr × Nat)
section
variable (S : Addr → Prop) (H : Hp) (reg : Reg)
def KindOk (n : Nat) (v : V) : Prop := (∃ k, v = .str k ∧ Kd k) ∨ ∃ t w name a m, v = .ref t ∧ At S H t (.tup [.str w, .str name]) ∧ (w = "record" ∨ w = "rows") ∧ Wd name ∧ reg name = some (a, m) ∧ m < n
/-- the kinds of a record -/
def KindsOk (n : Nat) (kvs : List (Key × V)) : Prop := ∀ kv ∈ kvs, (∃ s, kv.1 = .inr s ∧ Wd s) ∧ KindOk S H reg n kv.2
def KD (n : Nat) (d : Addr) : Prop := ∃ kvs, At S H d (.dK kvs) ∧ kvs.length ≤ 4 ∧ KindsOk S H reg n kvs
/-- what is known of the book: bk the book, Kd its kinds -/
structure BookK (bk Kn : Addr) : Prop where
  bk : ∃ kvs, H bk = some (.dK kvs) ∧ valV kvs (.inr "kinds") = some (.ref Kn)
  kn : ∃ kk, H Kn = some (.dK kk) ∧ ∀ name a m, reg name = some (a, m) → valV kk (.inr name) = some (.ref a) ∧ KD S H reg m a
end
section
variable {S S' : Addr → Prop} {H H' : Hp} {reg : Reg}
theorem KindOk.mono {n : Nat} {v : V} (x : KindOk S H reg n v) (h : Tr S H S' H') : KindOk S' H' reg n v := by
  rcases x with x | ⟨t, w, name, a, m, e, a1, b, c, d, f⟩
  · exact .inl x
  · exact .inr ⟨t, w, name, a, m, e, h _ _ a1, b, c, d, f⟩
theorem KindsOk.mono {n : Nat} {kvs : List (Key × V)} (x : KindsOk S H reg n kvs) (h : Tr S H S' H') : KindsOk S' H' reg n kvs := fun kv q => ⟨(x kv q).1, (x kv q).2.mono h⟩
theorem KD.mono {n : Nat} {d : Addr} (x : KD S H reg n d) (h : Tr S H S' H') : KD S' H' reg n d := by
  obtain ⟨kvs, a, b, c⟩ := x
  exact ⟨kvs, h _ _ a, b, c.mono h⟩
theorem BookK.mono {bk Kn : Addr} (x : BookK S H reg bk Kn) (h : Tr S H S' H') (h1 : H' bk = H bk) (h2 : H' Kn = H Kn) : BookK S' H' reg bk Kn := by
  obtain ⟨kvs, a, b⟩ := x.bk
  obtain ⟨kk, c, d⟩ := x.kn
  exact ⟨⟨kvs, h1.trans a, b⟩, ⟨kk, h2.trans c, fun name a m e => ⟨(d name a m e).1, (d name a m e).2.mono h⟩⟩⟩
theorem BookK.same {bk Kn : Addr} (x : BookK S H reg bk Kn) (s : Same H H') : BookK S H' reg bk Kn := by
  obtain ⟨kvs, a, b⟩ := x.bk
  obtain ⟨kk, c, d⟩ := x.kn
  exact ⟨⟨kvs, s _ _ a, b⟩, ⟨kk, s _ _ c, fun name a m e => ⟨(d name a m e).1, (d name a m e).2.mono (tr_same s)⟩⟩⟩
theorem BookK.kept {bk Kn b : Addr} {c : Int} (x : BookK S H reg bk Kn) (k : Kept b H H') (bx : Box c H b) (hb : S b) : BookK S H' reg bk Kn := by
  obtain ⟨kvs, a, b1⟩ := x.bk
  obtain ⟨kk, c1, d⟩ := x.kn
  obtain ⟨o, m, j, e, _⟩ := bx
  refine ⟨⟨kvs, k _ _ a ?_, b1⟩, ⟨kk, k _ _ c1 ?_, fun name a m e => ⟨(d name a m e).1, (d name a m e).2.mono (tr_kept k hb)⟩⟩⟩
  · rintro rfl
    rw [a] at e
    cases e
  · rintro rfl
    rw [c1] at e
    cases e
end

theorem scPaths : FnScope ["_law_book_here", "_law_kinds", "_law_found", "_law_field", "_law_kind", "_law_inner", "_law_other", "_law_of_kind"] ["_law_book_here", "_law_kinds"] (defScope sPaths) := ⟨rfl, rfl, rfl, by decide +kernel, rfl, by decide +kernel, by decide +kernel⟩
def spPaths : Sp := fun vs H Q _ => ∃ (bk Kn d : Addr) (S : Addr → Prop) (reg : Reg) (n : Nat) (kvs : List (Key × V)), vs = [.ref bk, .ref d] ∧ BookK S H reg bk Kn ∧ bk ≠ d ∧ Kn ≠ d ∧ S d ∧ Al S H ∧ H d = some (.dK kvs) ∧ kvs.length ≤ 6 ∧ KindsOk S H reg n kvs ∧
  ∀ H' l xs, Same H H' → H l = none → H' l = some (.lst xs) → (∀ x ∈ xs, Some S H' x) → xs.length ≤ 30 → Q (.ref l) H'

section
variable {P : Program} {w : World} {K : PySem.W.Frag} {mg : Str → Option Value} {base : Heap}
theorem ok_paths {f : Addr} {fd : FuncData} (F : Fun K "_law_paths" "_law_paths" sPaths f fd) (Z : Bare mg) :
    FnOk P w K mg base CX0 1 f fd ["_law_book_here", "_law_kinds"] spPaths := by
  refine F.ok scPaths (fun vs H Q E h => ?_) (fun cdv A outer s H vs Q E hr h => ?_)
  · obtain ⟨bk, Kn, d, S, reg, n, kvs, rfl, _⟩ := h
    rfl
  · obtain ⟨bk, Kn, d, S, reg, n, kvs, rfl, hbk, nbd, nkd, Sd, al, hd, lk, ks, q⟩ := h
    refine ⟨_, pss_cons (ps_set (i := 2) scPaths.nd rfl (.inl rfl) (pe_lst pa_nil))
      (pss_cons (ps_lock (ps_for PassesOwn.never rfl (pi_items (pv 1)) (pg_tup rfl (pgs_cons (pg_name (i := 3) scPaths.nd rfl (.inr rfl)) (pgs_cons (pg_name (i := 4) scPaths.nd rfl (.inl rfl)) pgs_nil)))
        (pss_one (ps_if (pt_val (pe_callB call_isi (by rfl) Z.isin (by decide +kernel) (pa_cons (pv 4) (pa_cons (pe_bltn (v := .ty "str") (by rfl) Z.str (by decide +kernel) rfl) pa_nil))))
          (pss_one (ps_expr (pe_bm PySem.F.plainAttrs_list PySem.F.slot_list_append PySem.F.type_list_append mt_append (pv 2)
            (pa_cons (pe_tup (pa_cons (pe_tup (pa_cons (pv 3) pa_nil)) (pa_cons (pv 4) pa_nil))) pa_nil))))
          (pss_one (ps_if (pt_cmpR op_eq (pe_ix ix_tup (pv 4) pe_int (fun _ _ => rfl)) pe_str (nomark _))
            (pss_cons (ps_set (i := 5) scPaths.nd rfl (.inl rfl) (pe_dget (hu_of hr) (pe_dget (hu_of hr) (pv 0) pe_str (fun _ _ => rfl)) (pe_ix ix_tup (pv 4) pe_int (fun _ _ => rfl)) (fun _ _ => rfl)))
            (pss_one (ps_expr (pe_lock (pe_bm PySem.F.plainAttrs_list PySem.F.slot_list_extend PySem.F.type_list_extend mt_extend (pv 2)
              (pa_cons (pe_lc (own := [("_law_other", 6), ("_law_of_kind", 7)]) (g := gTup K 2 (gCons (gName 6) (gCons (gName 7) gNil))) rfl scPaths.nd (pi_items (pv 5))
                (blkOk_by (N := ["_law_book_here", "_law_kinds", "_law_found", "_law_field", "_law_kind", "_law_inner", "_law_other", "_law_of_kind"]) (sc := defScope sPaths) (by decide +kernel))
                (fun _ _ _ _ _ => pg_tup rfl (pgs_cons (pg_name (i := 6) scPaths.nd rfl (.inl rfl)) (pgs_cons (pg_name (i := 7) scPaths.nd rfl (.inl rfl)) pgs_nil)))
                (fun _ _ _ _ _ => pts_one (pt_val (pe_callB (id := "isinstance") (r := rIsi K) call_isi (by rfl) Z.isin (by decide +kernel) (pa_cons (pv 7) (pa_cons (pe_bltn (v := .ty "str") (by rfl) Z.str (by decide +kernel) rfl) pa_nil)))))
                (fun _ _ _ _ _ => pe_tup (pa_cons (pe_tup (pa_cons (pv 3) (pa_cons (pv 6) pa_nil))) (pa_cons (pv 7) pa_nil)))) pa_nil)))))) pss_nil))))))
      (pss_one (ps_ret (pv 2)))), ?_⟩
    refine ⟨Nat.zero_le _, fun l nl => ?_⟩
    obtain ⟨s1, f1, _⟩ := grow (o := .lst []) nl
    have nSl := al.new nl
    have nld : l ≠ d := (ne_of_none hd nl).symm
    have d1 := s1 _ _ hd
    generalize upd H l (.lst []) = H1 at s1 f1 d1 ⊢
    refine ⟨d, .dK kvs, d1, trivial, fun od => ?_⟩
    refine ⟨.ref d, rfl, d, od, kvs, rfl, upd_same, for_it (walk_items (d := d) (o := od) (kvs := kvs))
      (fun i σ G => ∃ o3 o4 o5 xs, σ = [some (.ref bk), some (.ref d), some (.ref l), o3, o4, o5, none, none] ∧ (∀ a o, H a = some o → a ≠ d → G a = some o) ∧ G d = some (.frz od (.dK kvs)) ∧ G l = some (.lst xs) ∧
        (∀ x ∈ xs, Some (Pl S l) G x) ∧ xs.length ≤ 5 * i) ?_ (fun i σ G _ ⟨_, _, _, _, _, _, z, _⟩ => z) ?_ ?_⟩
    · refine ⟨none, none, none, [], rfl, fun a o e n => ?_, upd_same, ?_, fun x h => (List.not_mem_nil h).elim, Nat.le_refl _⟩
      · rw [upd_ne n]
        exact s1 _ _ e
      · rw [upd_ne nld]
        exact f1
    · rintro i x σ G G' hi ⟨o3, o4, o5, xs, rfl, kG, dG, lG, xG, lx⟩ ⟨T, x', y', rfl, nT, rfl, e1, e2⟩
      obtain ⟨kv, hkv⟩ : ∃ kv, kvs[i]? = some kv := ⟨_, List.getElem?_eq_getElem hi⟩
      replace e1 : (kvs[i]?.map fun kv => kV kv.1) = some x' := e1
      replace e2 : kvs[i]?.map Prod.snd = some y' := e2
      rw [hkv] at e1 e2
      cases e1
      cases e2
      obtain ⟨⟨s, es, ws⟩, kok⟩ := ks kv (List.mem_of_getElem? hkv)
      obtain ⟨k0, v0⟩ := kv
      cases es
      obtain ⟨sT, fT, _⟩ := grow (o := .tup [kV (.inr s), v0]) nT
      have nTl : T ≠ l := (ne_of_none lG nT).symm
      have tr : Tr S H (Pl S l) G := fun a o h => ⟨fun z => z.elim h.1 (ne_of_none h.2 nl), kG a o h.2 (by rintro rfl; exact h.1 Sd)⟩
      have trT : Tr S H (Pl S l) (upd G T (.tup [kV (.inr s), v0])) := tr.tr (tr_same sT)
      have kT : ∀ a o, H a = some o → a ≠ d → (upd G T (.tup [kV (.inr s), v0])) a = some o := fun a o e n => sT _ _ (kG a o e n)
      have dT := sT _ _ dG
      have lT := sT _ _ lG
      have xT : ∀ x ∈ xs, Some (Pl S l) (upd G T (.tup [kV (.inr s), v0])) x := fun x h => (xG x h).mono (tr_same sT)
      refine ⟨T, _, rfl, SqT.of fT, rfl, _, _, rfl, _, _, rfl, rfl, ?_⟩
      generalize upd G T (.tup [kV (.inr s), v0]) = G1 at fT trT kT dT lT xT ⊢
      have i6 : i < 6 := by omega
      rcases kok with ⟨k, rfl, hk⟩ | ⟨t, w, name, a, m, rfl, at_, hw, wn, hreg, hm⟩
      · refine ⟨.str k, rfl, .str k, .ty "str", .type "str", .type "str", true, rfl, .ty "str", .base (.str k), kit_ty (by decide +kernel), _, rfl, iteT ?_⟩
        refine ⟨.ref l, rfl, .inl ⟨rfl, _, SqL.of lT⟩, .str s, rfl, by show 1 ≤ sizeLine; decide, fun t1 nt1 => ?_⟩
        obtain ⟨sa, fa, _⟩ := grow (o := .tup [.str s]) nt1
        have la := sa _ _ lT
        refine ⟨.str k, rfl, by show 2 ≤ sizeLine; decide, fun t2 nt2 => ?_⟩
        obtain ⟨sb, fb, _⟩ := grow (o := .tup [.ref t1, .str k]) nt2
        have lb := sb _ _ la
        have sab := sTr sa sb
        have n1 : H t1 = none := by
          cases e : H t1 with
          | none => rfl
          | some o =>
            by_cases z : t1 = d
            · rw [z, dT] at nt1; cases nt1
            · rw [kT _ _ e z] at nt1; cases nt1
        have n2 : H t2 = none := by
          have n2' := same_free sa nt2
          cases e : H t2 with
          | none => rfl
          | some o =>
            by_cases z : t2 = d
            · rw [z, dT] at n2'; cases n2'
            · rw [kT _ _ e z] at n2'; cases n2'
        have a1 : At (Pl S l) (upd (upd G1 t1 (.tup [.str s])) t2 (.tup [.ref t1, .str k])) t1 (.tup [.str s]) := ⟨fun z => z.elim (al.new n1) (ne_of_none lT nt1).symm, sb _ _ fa⟩
        have a2 : At (Pl S l) (upd (upd G1 t1 (.tup [.str s])) t2 (.tup [.ref t1, .str k])) t2 (.tup [.ref t1, .str k]) := ⟨fun z => z.elim (al.new n2) (ne_of_none la nt2).symm, fb⟩
        refine ⟨l, xs, _, rfl, rfl, lb, small1000 (by omega), ?_⟩
        have ut : Tr (Pl S l) (upd (upd G1 t1 (.tup [.str s])) t2 (.tup [.ref t1, .str k])) (Pl S l) (upd (upd (upd G1 t1 (.tup [.str s])) t2 (.tup [.ref t1, .str k])) l (.lst (xs ++ [.ref t2]))) := tr_upd (.inr rfl)
        refine ⟨_, _, _, xs ++ [.ref t2], rfl, fun a o e n => ?_, ?_, upd_same, fun x h => ?_, by rw [List.length_append, List.length_singleton]; omega⟩
        · rw [upd_ne (ne_of_none e nl)]
          exact sab _ _ (kT a o e n)
        · rw [upd_ne nld.symm]
          exact sab _ _ dT
        · rcases List.mem_append.mp h with h | h
          · exact (xT x h).mono ((tr_same sab).tr ut)
          · rw [List.mem_singleton.mp h]
            exact ⟨t2, .ref t1, k, rfl, ut _ _ a2, .one t1 s (ut _ _ a1) ws, hk⟩
      · have at1 := trT _ _ at_
        refine ⟨.ref t, rfl, .ref t, .ty "str", .type "tuple", .type "str", false, rfl, .ty "str", .base (.tup at1.2), kit_ty (by decide +kernel), _, rfl, iteF ?_⟩
        refine ⟨.ref t, rfl, t, _, 0, .str w, rfl, rfl, SqT.of at1.2, atI_nat (j := 0) rfl, rfl, _, rfl, ?_⟩
        rw [str_eq]
        refine ite2 (fun ew => ?_) (fun _ => ?_)
        · -- a record: its own paths
          have bk1 : ∃ kvb, G1 bk = some (.dK kvb) ∧ valV kvb (.inr "kinds") = some (.ref Kn) := by
            obtain ⟨kvb, a, b⟩ := hbk.bk
            exact ⟨kvb, kT _ _ a nbd, b⟩
          have kn1 : ∃ kk, G1 Kn = some (.dK kk) ∧ valV kk (.inr name) = some (.ref a) := by
            obtain ⟨kk, a, b⟩ := hbk.kn
            exact ⟨kk, kT _ _ a nkd, (b name _ m hreg).1⟩
          obtain ⟨kvb, hb1, hb2⟩ := bk1
          obtain ⟨kk, hk1, hk2⟩ := kn1
          have kd : KD S H reg m a := by
            obtain ⟨kk, a, b⟩ := hbk.kn
            exact (b name _ m hreg).2
          obtain ⟨kva, aa, la, ka⟩ := kd
          have aa1 := trT _ _ aa
          refine ⟨.ref bk, rfl, bk, .ref Kn, rfl, hb2 ▸ DGet.k (k := .inr "kinds") hb1, .ref t, rfl, t, _, 1, .str name, rfl, rfl, SqT.of at1.2, atI_nat (j := 1) rfl, Kn, .ref a, rfl, hk2 ▸ DGet.k (k := .inr name) hk1, ?_⟩
          refine ⟨a, .dK kva, aa1.2, trivial, fun od2 => ?_⟩
          have nal : a ≠ l := fun z => aa1.1 (.inr z)
          have nad : a ≠ d := fun z => aa.1 (by rw [z]; exact Sd)
          have lL : (upd G1 a (.frz od2 (.dK kva))) l = some (.lst xs) := by rw [upd_ne nal.symm]; exact lT
          refine ⟨.ref l, rfl, .inl ⟨rfl, _, SqL.of lL⟩, .ref a, rfl, a, od2, kva, rfl, upd_same, fun D nD => ?_⟩
          have nD1 : G1 D = none := by
            by_cases z : D = a
            · rw [z, upd_same] at nD; cases nD
            · rw [upd_ne z] at nD; exact nD
          have nDa : D ≠ a := (ne_of_none aa1.2 nD1).symm
          have nDl : D ≠ l := (ne_of_none lT nD1).symm
          have nDd : D ≠ d := (ne_of_none dT nD1).symm
          refine lc_it (walk_items (d := a) (o := od2) (kvs := kva)) (fun j G2 => (∀ z o, G1 z = some o → z ≠ a → G2 z = some o) ∧ G2 a = some (.frz od2 (.dK kva)) ∧ ∃ ys, G2 D = some (.lst ys) ∧ ys.length ≤ j ∧
            ∀ y ∈ ys, ∃ t1 t2 r k, y = .ref t1 ∧ G2 t1 = some (.tup [.ref t2, .str k]) ∧ G2 t2 = some (.tup [.str s, .str r]) ∧ G1 t1 = none ∧ G1 t2 = none ∧ t1 ≠ D ∧ t2 ≠ D ∧ t1 ≠ a ∧ t2 ≠ a ∧ Wd r ∧ Kd k) ?_ (fun j G2 _ z => z.2.1) ?_ ?_
          · refine ⟨fun z o e n => ?_, ?_, [], upd_same, Nat.le_refl _, fun y h => (List.not_mem_nil h).elim⟩
            · rw [upd_ne (ne_of_none e nD1), upd_ne n]
              exact e
            · rw [upd_ne nDa.symm, upd_same]
          · rintro j x2 G2 G3 hj ⟨k2, a2, ys, D2, ly, hy⟩ ⟨T2, x3, y3, rfl, nT2, rfl, e3, e4⟩
            obtain ⟨kv2, hkv2⟩ : ∃ kv, kva[j]? = some kv := ⟨_, List.getElem?_eq_getElem hj⟩
            replace e3 : (kva[j]?.map fun kv => kV kv.1) = some x3 := e3
            replace e4 : kva[j]?.map Prod.snd = some y3 := e4
            rw [hkv2] at e3 e4
            cases e3
            cases e4
            obtain ⟨⟨r, er, wr⟩, kok2⟩ := ka kv2 (List.mem_of_getElem? hkv2)
            obtain ⟨k02, v02⟩ := kv2
            cases er
            obtain ⟨sT2, fT2, _⟩ := grow (o := .tup [kV (.inr r), v02]) nT2
            have k3 : ∀ z o, G1 z = some o → z ≠ a → (upd G2 T2 (.tup [kV (.inr r), v02])) z = some o := fun z o e n => sT2 _ _ (k2 z o e n)
            have a3 := sT2 _ _ a2
            have D3 := sT2 _ _ D2
            have hyS : ∀ G5, Same G2 G5 → ∀ y ∈ ys, ∃ t1 t2 r k, y = .ref t1 ∧ G5 t1 = some (.tup [.ref t2, .str k]) ∧ G5 t2 = some (.tup [.str s, .str r]) ∧ G1 t1 = none ∧ G1 t2 = none ∧ t1 ≠ D ∧ t2 ≠ D ∧ t1 ≠ a ∧ t2 ≠ a ∧ Wd r ∧ Kd k := by
              intro G5 s5 y h
              obtain ⟨t1, t2, r, k, e, u1, u2, rest⟩ := hy y h
              exact ⟨t1, t2, r, k, e, s5 _ _ u1, s5 _ _ u2, rest⟩
            refine ⟨T2, _, rfl, SqT.of fT2, rfl, _, _, rfl, _, _, rfl, rfl, rfl, ?_⟩
            have lys : ys.length < 1000 := by omega
            rcases kok2 with ⟨k, rfl, hk⟩ | ⟨u, w2, name2, a2', m2, rfl, at2, _⟩
            · refine ⟨.str k, rfl, .str k, .ty "str", .type "str", .type "str", true, rfl, .ty "str", .base (.str k), kit_ty (by decide +kernel), _, rfl, iteT ?_⟩
              refine ⟨.str s, rfl, .str r, rfl, by show 2 ≤ sizeLine; decide, fun t2 nt2 => ?_⟩
              obtain ⟨sa, fa, _⟩ := grow (o := .tup [.str s, .str r]) nt2
              refine ⟨.str k, rfl, by show 2 ≤ sizeLine; decide, fun t1 nt1 => ?_⟩
              obtain ⟨sb, fb, _⟩ := grow (o := .tup [.ref t2, .str k]) nt1
              have sab := sTr sa sb
              have D5 := sab _ _ D3
              have back : ∀ {z : Addr}, (upd G2 T2 (.tup [kV (.inr r), .str k])) z = none → G1 z = none ∧ z ≠ D ∧ z ≠ a := by
                intro z hz
                have za : z ≠ a := by
                  rintro rfl
                  rw [a3] at hz
                  cases hz
                refine ⟨?_, (ne_of_none D3 hz).symm, za⟩
                cases e : G1 z with
                | none => rfl
                | some o =>
                  rw [k3 _ _ e za] at hz
                  cases hz
              obtain ⟨p2, p2D, p2a⟩ := back nt2
              obtain ⟨p1, p1D, p1a⟩ := back (same_free sa nt1)
              refine ⟨ys, D5, small1000 (by omega), ?_, ?_, ys ++ [.ref t1], upd_same, by rw [List.length_append, List.length_singleton]; omega, ?_⟩
              · intro z o e n
                rw [upd_ne (ne_of_none e nD1)]
                exact sab _ _ (k3 z o e n)
              · rw [upd_ne nDa.symm]
                exact sab _ _ a3
              · intro y h
                rcases List.mem_append.mp h with h | h
                · obtain ⟨q1, q2, r', k', e, u1, u2, v1, v2, v3, v4, rest⟩ := hyS _ (sTr sT2 sab) y h
                  exact ⟨q1, q2, r', k', e, by rw [upd_ne v3]; exact u1, by rw [upd_ne v4]; exact u2, v1, v2, v3, v4, rest⟩
                · rw [List.mem_singleton.mp h]
                  exact ⟨t1, t2, r, k, rfl, by rw [upd_ne p1D]; exact fb, by rw [upd_ne p2D]; exact sb _ _ fa, p1, p2, p1D, p2D, p1a, p2a, wr, hk⟩
            · have at3 : (upd G2 T2 (.tup [kV (.inr r), .ref u])) u = some (.tup [.str w2, .str name2]) := by
                have g1u := trT _ _ at2
                exact k3 _ _ g1u.2 (by
                  rintro rfl
                  have z := g1u.2
                  rw [aa1.2] at z
                  cases z)
              refine ⟨.ref u, rfl, .ref u, .ty "str", .type "tuple", .type "str", false, rfl, .ty "str", .base (.tup at3), kit_ty (by decide +kernel), _, rfl, iteF ?_⟩
              exact ⟨k3, a3, ys, D3, by omega, hyS _ sT2⟩
          · rintro G4 ⟨k4, a4, ys, D4, ly, hy⟩
            have l4 := k4 _ _ lT nal.symm
            have nH : ∀ {z : Addr}, G1 z = none → H z = none := by
              intro z hz
              cases e : H z with
              | none => rfl
              | some o =>
                by_cases zd : z = d
                · rw [zd, dT] at hz; cases hz
                · rw [kT _ _ e zd] at hz; cases hz
            refine ⟨l, D, xs, ys, rfl, rfl, l4, D4, by have := tiny (n := xs.length + ys.length) (by omega); exact this, ?_⟩
            refine ⟨by rw [upd_ne nal]; exact a4, ?_⟩
            have trF : Tr (Pl S l) G1 (Pl S l) (upd (upd G4 l (.lst (xs ++ ys))) a (.dK kva)) := by
              intro z o hz
              refine ⟨hz.1, ?_⟩
              by_cases za : z = a
              · subst za
                rw [upd_same, ← aa1.2]
                exact hz.2
              · rw [upd_ne za, upd_ne (by rintro rfl; exact hz.1 (.inr rfl))]
                exact k4 _ _ hz.2 za
            refine ⟨_, _, _, xs ++ ys, rfl, fun z o e n => ?_, ?_, ?_, fun x h => ?_, by rw [List.length_append]; omega⟩
            · by_cases za : z = a
              · subst za
                rw [upd_same, ← aa.2]
                exact e
              · rw [upd_ne za, upd_ne (ne_of_none e nl)]
                exact k4 _ _ (kT _ _ e n) za
            · rw [upd_ne nad.symm, upd_ne nld.symm]
              exact k4 _ _ dT nad.symm
            · rw [upd_ne nal.symm, upd_same]
            · rcases List.mem_append.mp h with h | h
              · exact (xT x h).mono trF
              · obtain ⟨t1, t2, r, k, rfl, u1, u2, v1, v2, v3, v4, v5, v6, wr, hk⟩ := hy x h
                have n1l : t1 ≠ l := (ne_of_none lT v1).symm
                have n2l : t2 ≠ l := (ne_of_none lT v2).symm
                refine ⟨t1, .ref t2, k, rfl, ⟨fun z => z.elim (al.new (nH v1)) n1l, ?_⟩, .two t2 s r ⟨fun z => z.elim (al.new (nH v2)) n2l, ?_⟩ ws wr, hk⟩
                · rw [upd_ne v5, upd_ne n1l]
                  exact u1
                · rw [upd_ne v6, upd_ne n2l]
                  exact u2
        · exact ⟨_, _, _, xs, rfl, kT, dT, lT, xT, by omega⟩
    · rintro σ G ⟨o3, o4, o5, xs, rfl, kG, dG, lG, xG, lx⟩
      refine ⟨dG, .ref l, rfl, ?_⟩
      have sF : Same H (upd G d (.dK kvs)) := fun z o e => by
        by_cases zd : z = d
        · subst zd
          rw [upd_same, ← hd]
          exact e
        · rw [upd_ne zd]
          exact kG z o e zd
      have trF : Tr (Pl S l) G S (upd G d (.dK kvs)) := (tr_upd (.inl Sd)).tr (tr_less fun a h => .inl h)
      exact q _ l xs sF nl (by rw [upd_ne nld]; exact lG) (fun x h => (xG x h).mono trF) (by omega)
end
end K2

set_option maxHeartbeats 2000000
/-! Drawn bodies of overrides. -/
namespace K2
open PySem PySem.Spec PyProof.Rows L2

/-- what is no dict -/
def TrN (S : Addr → Prop) (H : Hp) (S' : Addr → Prop) (H' : Hp) : Prop := ∀ a o, At S H a o → (∀ k, o ≠ .dK k) → At S' H' a o
section
variable {S S' : Addr → Prop} {H H' : Hp} {reg : Reg}
theorem Path.monoN {v : V} (x : Path S H v) (h : TrN S H S' H') : Path S' H' v := by
  cases x with
  | one t s a b => exact .one t s (h _ _ a (fun _ z => nomatch z)) b
  | two t s r a b c => exact .two t s r (h _ _ a (fun _ z => nomatch z)) b c
theorem Some.monoN {v : V} (x : Some S H v) (h : TrN S H S' H') : Some S' H' v := by
  obtain ⟨t, p, k, e, a, b, c⟩ := x
  exact ⟨t, p, k, e, h _ _ a (fun _ z => nomatch z), b.monoN h, c⟩
/-- the templates of lower rank -/
def Reg.below (reg : Reg) (m : Nat) : Reg := fun s => match reg s with
  | some (a, k) => if k < m then some (a, k) else none
  | none => none
theorem below_of {m : Nat} {s : Str} {a : Addr} {k : Nat} (h : Reg.below reg m s = some (a, k)) : reg s = some (a, k) ∧ k < m := by
  unfold Reg.below at h
  cases e : reg s with
  | none => rw [e] at h; cases h
  | some p =>
    obtain ⟨a', k'⟩ := p
    rw [e] at h
    simp only at h
    split at h
    · next c =>
      cases h
      exact ⟨rfl, c⟩
    · cases h
theorem to_below {m : Nat} {s : Str} {a : Addr} {k : Nat} (h : reg s = some (a, k)) (c : k < m) : Reg.below reg m s = some (a, k) := by
  unfold Reg.below
  rw [h]
  simp only
  rw [if_pos c]
theorem KindOk.belowN {n m : Nat} {v : V} (x : KindOk S H reg n v) (h : TrN S H S' H') (hm : n ≤ m) : KindOk S' H' (reg.below m) n v := by
  rcases x with x | ⟨t, w, name, a, k, e, a1, b, c, d, f⟩
  · exact .inl x
  · exact .inr ⟨t, w, name, a, k, e, h _ _ a1 (fun _ z => nomatch z), b, c, to_below d (by omega), f⟩
/-- one object, one rank; none of them is the book's own -/
structure Ranks (reg : Reg) (bk Kn : Addr) : Prop where
  one : ∀ s s' a m m', reg s = some (a, m) → reg s' = some (a, m') → m = m'
  ne : ∀ s a m, reg s = some (a, m) → a ≠ bk ∧ a ≠ Kn
theorem Ranks.below {bk Kn : Addr} (x : Ranks reg bk Kn) (m : Nat) : Ranks (reg.below m) bk Kn :=
  ⟨fun s s' a k k' h h' => x.one s s' a k k' (below_of h).1 (below_of h').1, fun s a k h => x.ne s a k (below_of h).1⟩
end

def cB : Nat → Int
  | 0 => 140
  | n + 1 => 140 + 4 * cB n
theorem cB_pos : ∀ n, 0 ≤ cB n
  | 0 => by decide
  | n + 1 => by have := cB_pos n; show 0 ≤ 140 + 4 * cB n; omega

theorem scBody : FnScope ["_law_box_here", "_law_book_here", "_law_name", "_law_some", "_law_is_own", "_law_found", "_law_ahead", "_law_field", "_law_kind", "_law_may_read"] ["_law_box_here", "_law_book_here", "_law_name", "_law_some", "_law_is_own"] (defScope sBody) := ⟨rfl, rfl, rfl, by decide +kernel, rfl, by decide +kernel, by decide +kernel⟩

def spBody (n : Nat) : Sp := fun vs H Q _ => ∃ (b bk Kn so a : Addr) (name : Str) (own : Bool) (S : Addr → Prop) (reg : Reg) (m : Nat) (xs : List V) (c : Int),
  vs = [.ref b, .ref bk, .str name, .ref so, .bl own] ∧ Box c H b ∧ c + cB n ≤ 96000 ∧ S b ∧ Al S H ∧ BookK S H reg bk Kn ∧ Ranks reg bk Kn ∧ reg name = some (a, m) ∧ m ≤ n ∧ At S H so (.lst xs) ∧ (∀ x ∈ xs, Some S H x) ∧ xs.length ≤ 100 ∧
  ∀ H' d, Kept b H H' → Box (c + cB n) H' b → BD S H' n d → H d = none → Q (.ref d) H'
def spPrev : Nat → Sp
  | 0 => fun _ _ _ _ => False
  | n + 1 => spBody n

def Ent (S : Addr → Prop) (H : Hp) : Nat → V → Prop
  | 0, v => VV S H v
  | n + 1, v => VV S H v ∨ ∃ t d', v = .ref t ∧ At S H t (.tup [.str "body", .ref d']) ∧ BD S H n d'
theorem Ent.vv {S : Addr → Prop} {H : Hp} {v : V} (x : VV S H v) : ∀ n, Ent S H n v
  | 0 => x
  | _ + 1 => .inl x
theorem Ent.mono {S S' : Addr → Prop} {H H' : Hp} (h : Tr S H S' H') : ∀ {n : Nat} {v : V}, Ent S H n v → Ent S' H' n v
  | 0, _, x => VV.mono x h
  | _ + 1, _, x => x.imp (fun z => z.mono h) fun ⟨t, d', e, a, b⟩ => ⟨t, d', e, h _ _ a, BD.mono h b⟩
theorem BD.of {S : Addr → Prop} {H : Hp} {d : Addr} {kvs : List (Key × V)} (a : At S H d (.dK kvs)) (b : kvs.length ≤ 4) (c : ∀ kv ∈ kvs, ∃ s, kv.1 = .inr s ∧ Wd s) : ∀ {n : Nat}, (∀ kv ∈ kvs, Ent S H n kv.2) → BD S H n d
  | 0, e => ⟨kvs, a, b, c, e⟩
  | _ + 1, e => ⟨kvs, a, b, c, e⟩
def cP : Nat → Int
  | 0 => 0
  | n + 1 => cB n
theorem cP_pos : ∀ n, 0 ≤ cP n
  | 0 => by decide
  | n + 1 => cB_pos n
theorem cP_le : ∀ n, (32 + cP n) * 4 + 12 ≤ cB n
  | 0 => by decide
  | n + 1 => by show (32 + cB n) * 4 + 12 ≤ 140 + 4 * cB n; omega
theorem mem_put {kvs : List (Key × V)} {k : Key} {v : V} {kv : Key × V} (h : kv ∈ putK kvs k v) : kv ∈ kvs ∨ kv = (k, v) := by
  unfold putK at h
  split at h
  · obtain ⟨p, hp, e⟩ := List.mem_map.mp h
    by_cases z : p.1 = k
    · rw [if_pos z] at e
      rw [← e, z]
      exact .inr rfl
    · rw [if_neg z] at e
      rw [← e]
      exact .inl hp
  · rcases List.mem_append.mp h with h | h
    · exact .inl h
    · exact .inr (List.mem_singleton.mp h)

section
variable {P : Program} {w : World} {K : PySem.W.Frag} {mg : Str → Option Value} {base : Heap}


theorem ok_body_step (n : Nat) {f fT fV fP : Addr} {fd fdT fdV fdP : FuncData} (F : Fun K "_law_body" "_law_body" sBody f fd) (Z : Bare mg) (bF : Binds K fd ["_law_box_here", "_law_book_here", "_law_name", "_law_some", "_law_is_own"] []) (gF : mg "_law_body" = some (.ref f))
    (FT : Fun K "_law_take" "_law_take" sTake fT fdT) (bT : Binds K fdT ["_law_box_here", "_law_many"] []) (gT : mg "_law_take" = some (.ref fT))
    (GT : FnOk P w K mg base CX0 1 fT fdT ["_law_box_here", "_law_many"] spTake)
    (FV : Fun K "_law_value" "_law_value" sValue fV fdV) (bV : Binds K fdV ["_law_box_here", "_law_some", "_law_kind"] []) (gV : mg "_law_value" = some (.ref fV))
    (GV : FnOk P w K mg base CX0 5 fV fdV ["_law_box_here", "_law_some", "_law_kind"] spValue)
    (FP : Fun K "_law_paths" "_law_paths" sPaths fP fdP) (bP : Binds K fdP ["_law_book_here", "_law_kinds"] []) (gP : mg "_law_paths" = some (.ref fP))
    (GF : FnOk P w K mg base CX0 (5 + n) f fd ["_law_box_here", "_law_book_here", "_law_name", "_law_some", "_law_is_own"] (spPrev n)) :
    FnOk P w K mg base CX0 (5 + n + 1) f fd ["_law_box_here", "_law_book_here", "_law_name", "_law_some", "_law_is_own"] (spBody n) := by
  have GP : FnOk P w K mg base CX0 1 fP fdP ["_law_book_here", "_law_kinds"] spPaths := ok_paths FP Z
  refine F.ok scBody (fun vs H Q E h => ?_) (fun cdv A outer s H vs Q E hr h => ?_)
  · obtain ⟨b, bk, Kn, so, a, name, own, S, reg, m, xs, c, rfl, _⟩ := h
    rfl
  · obtain ⟨b, bk, Kn, so, a, name, own, S, reg, m, xs, c, rfl, hb, hc, Sb, al, hbk, rk, hreg, hmn, aso, hxs, lxs, q⟩ := h
    have hr1 : Room 1 _ := hr.mono (by omega)
    have hr5 : Room 5 _ := hr.mono (by omega)
    refine ⟨_, pss_cons (ps_par (by rfl) scBody.nd (i := 5) (j := 6) rfl rfl (by decide) rfl rfl (pa_cons pe_dnewK (pa_cons pe_dnewK pa_nil)) (by rfl))
      (pss_cons (ps_lock (ps_for PassesOwn.never rfl (pi_items (pe_dget (hu_of hr) (pe_dget (hu_of hr) (pv 1) pe_str (fun _ _ => rfl)) (pv 2) (fun _ _ => rfl)))
          (pg_tup rfl (pgs_cons (pg_name (i := 7) scBody.nd rfl (.inl rfl)) (pgs_cons (pg_name (i := 8) scBody.nd rfl (.inl rfl)) pgs_nil)))
        (pss_cons (ps_set (i := 9) scBody.nd rfl (.inl rfl) (pe_ifExp (pt_val (pv 4)) (pe_call GP hr1 (by rfl) gP FP.kp bP .nil pass0 (pa_cons (pv 1) (pa_cons (pv 6) pa_nil))) (pv 3)))
        (pss_cons (ps_if (PW.pt (pw_and (pt_val (pe_callB call_isi (by rfl) Z.isin (by decide +kernel) (pa_cons (pv 8) (pa_cons (pe_bltn (v := .ty "str") (by rfl) Z.str (by decide +kernel) rfl) pa_nil))))
            (pw_and1 (pt_cmpR op_eq (pe_call GT hr1 (by rfl) gT FT.kp bT .nil pass0 (pa_cons (pv 0) (pa_cons pe_int pa_nil))) pe_int (nomark _)))))
          (pss_one (ps_dput (hu_of hr) (pv 5) (pv 7) (pe_call GV hr5 (by rfl) gV FV.kp bV .nil pass0 (pa_cons (pv 0) (pa_cons (pv 9) (pa_cons (pv 8) pa_nil)))) rfl))
          (pss_one (ps_if (PW.pt (pw_and (pt_not (pt_val (pe_callB call_isi (by rfl) Z.isin (by decide +kernel) (pa_cons (pv 8) (pa_cons (pe_bltn (v := .ty "str") (by rfl) Z.str (by decide +kernel) rfl) pa_nil)))))
              (pw_and (pt_cmpR op_eq (pe_ix ix_tup (pv 8) pe_int (fun _ _ => rfl)) pe_str (nomark _))
              (pw_and1 (pt_cmpR op_eq (pe_call GT hr1 (by rfl) gT FT.kp bT .nil pass0 (pa_cons (pv 0) (pa_cons pe_int pa_nil))) pe_int (nomark _))))))
            (pss_one (ps_dput (hu_of hr) (pv 5) (pv 7) (pe_tup (pa_cons pe_str (pa_cons (pe_call GF hr (by rfl) gF F.kp bF .nil pass0 (pa_cons (pv 0) (pa_cons (pv 1) (pa_cons (pe_ix ix_tup (pv 8) pe_int (fun _ _ => rfl)) (pa_cons (pv 9) (pa_cons pe_bl pa_nil)))))) pa_nil))) rfl)) pss_nil)))
        (pss_one (ps_dput (hu_of hr) (pv 6) (pv 7) (pv 8) rfl))))))
      (pss_one (ps_ret (pv 5)))), ?_⟩
    obtain ⟨kvb, hb1, hb2⟩ := hbk.bk
    obtain ⟨kk, hk1, hk2⟩ := hbk.kn
    obtain ⟨hk3, kvs, aa, la, ka⟩ := hk2 name a m hreg
    obtain ⟨nab, nak⟩ := rk.ne _ _ _ hreg
    have cp0 := cP_pos n
    have cpl := cP_le n
    have box0 := hb
    have nbb : bk ≠ b := by
      obtain ⟨o, m, j, e, _⟩ := hb
      rintro rfl
      rw [hb1] at e
      cases e
    have nkb : Kn ≠ b := by
      obtain ⟨o, m, j, e, _⟩ := hb
      rintro rfl
      rw [hk1] at e
      cases e
    intro dF nF dA nA
    have nAF : dA ≠ dF := (ne_of_none upd_same nA).symm
    have nAH : H dA = none := by
      rw [upd_ne nAF] at nA
      exact nA
    refine ⟨_, _, rfl, ?_⟩
    have nFb := hb.ne nF
    have nAb := hb.ne nAH
    have naF : a ≠ dF := ne_of_none aa.2 nF
    have naA : a ≠ dA := ne_of_none aa.2 nAH
    have nFA : dF ≠ dA := nAF.symm
    have nabx : a ≠ b := by rintro rfl; exact aa.1 Sb
    have s0 : Same H (upd (upd H dF (.dK [])) dA (.dK [])) := fun z o e => by
      rw [upd_ne (ne_of_none e nAH), upd_ne (ne_of_none e nF)]
      exact e
    have eF : upd (upd H dF (.dK [])) dA (.dK []) dF = some (.dK []) := by rw [upd_ne nFA, upd_same]
    have eA : upd (upd H dF (.dK [])) dA (.dK []) dA = some (.dK []) := upd_same
    generalize upd (upd H dF (.dK [])) dA (.dK []) = H1 at s0 eF eA ⊢
    refine ⟨a, .dK kvs, s0 _ _ aa.2, trivial, fun od => ?_⟩
    have lk : ∀ z o, H z = some o → z ≠ a → upd H1 a (.frz od (.dK kvs)) z = some o := fun z o e n => by
      rw [upd_ne n]
      exact s0 _ _ e
    let S1 : Addr → Prop := fun z => S z ∨ z = a ∨ z = dF ∨ z = dA
    have S1b : S1 b := .inl Sb
    refine ⟨.ref bk, rfl, bk, .ref Kn, rfl, hb2 ▸ DGet.k (k := .inr "kinds") (lk _ _ hb1 nab.symm), .str name, rfl, Kn, .ref a, rfl, hk3 ▸ DGet.k (k := .inr name) (lk _ _ hk1 nak.symm), a, od, kvs, rfl, upd_same,
      for_it (walk_items (d := a) (o := od) (kvs := kvs)) (fun i σ G => ∃ (o7 o8 o9 : Option V) (fs as : List (Key × V)), σ = [some (.ref b), some (.ref bk), some (.str name), some (.ref so), some (.bl own), some (.ref dF), some (.ref dA), o7, o8, o9] ∧
        (∀ z o, H z = some o → z ≠ b → z ≠ a → G z = some o) ∧ Box (c + (32 + cP n) * (i : Int)) G b ∧ G a = some (.frz od (.dK kvs)) ∧ G dF = some (.dK fs) ∧ G dA = some (.dK as) ∧ Al S1 G ∧ KindsOk S1 G (reg.below m) m as ∧ as.length ≤ i ∧ fs.length ≤ i ∧
        (∀ kv ∈ fs, ∃ s, kv.1 = .inr s ∧ Wd s) ∧ (∀ kv ∈ fs, Ent S1 G n kv.2)) ?_ (fun i σ G _ ⟨_, _, _, _, _, _, _, _, z, _⟩ => z) ?_ ?_⟩
    · refine ⟨none, none, none, [], [], rfl, fun z o e _ n => lk z o e n, ?_, upd_same, by rw [upd_ne naF.symm]; exact eF, by rw [upd_ne naA.symm]; exact eA, ?_, fun kv h => (List.not_mem_nil h).elim, Nat.le_refl _, Nat.le_refl _, fun kv h => (List.not_mem_nil h).elim, fun kv h => (List.not_mem_nil h).elim⟩
      · obtain ⟨o, m, j, e, rest⟩ := hb
        refine Box.le (c := c) ⟨o, m, j, lk _ _ e nabx.symm, rest⟩ ?_
        rw [Int.natCast_zero, Int.mul_zero]
        omega
      · intro z hz e
        rcases hz with hz | rfl | rfl | rfl
        · cases e2 : H z with
          | none => exact al z hz e2
          | some o =>
            by_cases za : z = a
            · rw [za] at hz
              exact aa.1 hz
            · rw [lk z o e2 za] at e
              cases e
        · rw [upd_same] at e
          cases e
        · rw [upd_ne naF.symm, eF] at e
          cases e
        · rw [upd_ne naA.symm, eA] at e
          cases e
    · rintro i x σ G G' hi ⟨o7, o8, o9, fs, as, rfl, kG, bG, aG, FG, AG, alG, asG, las, lfs, keys, ents⟩ ⟨T, x', y', rfl, nT, rfl, e1, e2⟩
      obtain ⟨kv, hkv⟩ : ∃ kv, kvs[i]? = some kv := ⟨_, List.getElem?_eq_getElem hi⟩
      replace e1 : (kvs[i]?.map fun kv => kV kv.1) = some x' := e1
      replace e2 : kvs[i]?.map Prod.snd = some y' := e2
      rw [hkv] at e1 e2
      cases e1
      cases e2
      obtain ⟨⟨s, es, ws⟩, kok⟩ := ka kv (List.mem_of_getElem? hkv)
      obtain ⟨k0, v0⟩ := kv
      cases es
      have i4 : i < 4 := by omega
      have mulS : (32 + cP n) * ((i + 1 : Nat) : Int) = (32 + cP n) * (i : Int) + (32 + cP n) := by
        rw [Int.natCast_add, Int.mul_add]
        show _ + (32 + cP n) * 1 = _
        rw [Int.mul_one]
      have mul4 : (32 + cP n) * (i : Int) + (32 + cP n) ≤ (32 + cP n) * 4 := by
        rw [← mulS]
        exact Int.mul_le_mul_of_nonneg_left (by omega) (by omega)
      obtain ⟨sT, fT, _⟩ := grow (o := .tup [kV (.inr s), v0]) nT
      refine ⟨T, _, rfl, SqT.of fT, rfl, _, _, rfl, _, _, rfl, rfl, ?_⟩
      have kT : ∀ z o, H z = some o → z ≠ b → z ≠ a → (upd G T (.tup [kV (.inr s), v0])) z = some o := fun z o e n1 n2 => sT _ _ (kG z o e n1 n2)
      have bT1 := bG.same sT
      have aT := sT _ _ aG
      have FT1 := sT _ _ FG
      have AT1 := sT _ _ AG
      have alT := alG.same sT
      have asT : KindsOk S1 (upd G T (.tup [kV (.inr s), v0])) (reg.below m) m as := asG.mono (tr_same sT)
      have entT : ∀ kv ∈ fs, Ent S1 (upd G T (.tup [kV (.inr s), v0])) n kv.2 := fun kv h => (ents kv h).mono (tr_same sT)
      generalize upd G T (.tup [kV (.inr s), v0]) = G1 at kT bT1 aT FT1 AT1 alT asT entT ⊢
      have trN : TrN S H S1 G1 := fun z o h hd => by
        have za : z ≠ a := by
          rintro rfl
          exact hd _ (Option.some.inj (h.2.symm.trans aa.2))
        refine ⟨fun w => ?_, kT z o h.2 (by rintro rfl; exact h.1 Sb) za⟩
        rcases w with w | w | w | w
        · exact h.1 w
        · exact za w
        · exact ne_of_none h.2 nF w
        · exact ne_of_none h.2 nAH w
      have kok1 : KindOk S1 G1 (reg.below m) m v0 := kok.belowN trN (Nat.le_refl _)
      have bk1 : BookK S1 G1 (reg.below m) bk Kn := by
        refine ⟨⟨kvb, kT _ _ hb1 nbb nab.symm, hb2⟩, ⟨kk, kT _ _ hk1 nkb nak.symm, fun nm a' k' h => ?_⟩⟩
        obtain ⟨h1, h2⟩ := below_of h
        obtain ⟨g1, kv', at', l', ks'⟩ := hk2 nm a' k' h1
        have na' : a' ≠ a := by
          rintro rfl
          have := rk.one _ _ _ _ _ h1 hreg
          omega
        refine ⟨g1, kv', ⟨fun w => ?_, kT _ _ at'.2 (by rintro rfl; exact at'.1 Sb) na'⟩, l', fun kv q => ⟨(ks' kv q).1, (ks' kv q).2.belowN trN (by omega)⟩⟩
        rcases w with w | w | w | w
        · exact at'.1 w
        · exact na' w
        · exact ne_of_none at'.2 nF w
        · exact ne_of_none at'.2 nAH w
      refine ⟨.bl own, rfl, own, rfl, ?_⟩
      cases own with
      | true =>
        refine iteT ⟨.ref bk, rfl, .ref dA, rfl, bk, Kn, dA, S1, reg.below m, m, as, rfl, bk1, ne_of_none hb1 nAH, ne_of_none hk1 nAH, .inr (.inr (.inr rfl)), alT, AT1, by omega, asT, fun G2 rd ys s2 nrd hrd hys lys => ?_⟩
        have ard : At S1 G2 rd (.lst ys) := ⟨alT.new nrd, hrd⟩
        have k2 : ∀ z o, H z = some o → z ≠ b → z ≠ a → G2 z = some o := fun z o e n1 n2 => s2 _ _ (kT z o e n1 n2)
        have b2 := bT1.same s2
        have a2 := s2 _ _ aT
        have F2 := s2 _ _ FT1
        have A2 := s2 _ _ AT1
        have al2 := alT.same s2
        have as2 := asT.mono (tr_same s2)
        have ent2 : ∀ kv ∈ fs, Ent S1 G2 n kv.2 := fun kv h => (entT kv h).mono (tr_same s2)
        have kok2 := kok1.mono (tr_same s2)
        have bk2 := bk1.same s2
        have small : ∀ (zs : List (Key × V)), zs.length ≤ i → zs.length < sizeLine := fun zs h => small1000 (by omega)
        rcases kok with ⟨k, rfl, hk⟩ | ⟨t, w, nm, a', k', rfl, at_, hw, wn, hr2, hlt⟩
        · refine ⟨.str k, rfl, .str k, .ty "str", .type "str", .type "str", true, rfl, .ty "str", .base (.str k), kit_ty (by decide +kernel), _, rfl, iteT ?_⟩
          refine ⟨.ref b, rfl, b, 3, _, rfl, b2, by decide, by decide, by omega, fun G3 r kp3 b3 r0 r1 => ⟨rfl, _, rfl, ?_⟩⟩
          have al3 : Al S1 G3 := al2.kept kp3 b3.some
          have tr3 : Tr S1 G2 S1 G3 := tr_kept kp3 S1b
          have k3 : ∀ z o, H z = some o → z ≠ b → z ≠ a → G3 z = some o := fun z o e n1 n2 => kp3 _ _ (k2 z o e n1 n2) n1
          have a3 := kp3 _ _ a2 nabx
          have dF3 := kp3 _ _ F2 nFb
          have dA3 := kp3 _ _ A2 nAb
          have ks3 := as2.mono tr3
          have kok3 := kok2.mono tr3
          have hf3 : ∀ kv ∈ fs, Ent S1 G3 n kv.2 := fun kv h => (ent2 kv h).mono tr3
          obtain ⟨v0, hv0⟩ : ∃ v0, v0 = V.str k := ⟨_, rfl⟩
          rw [← hv0] at kok3
          refine ite2 (fun _ => ?_) (fun _ => ?_)
          · refine ⟨.ref b, rfl, .ref rd, rfl, .str k, rfl, b, rd, k, S1, ys, _, rfl, b3, by omega, S1b, al3, tr3 _ _ ard, fun x h => (hys x h).mono tr3, by omega, fun G4 v kp4 b4 hv => ?_⟩
            have al4 : Al S1 G4 := al3.kept kp4 b4.some
            have tr4 : Tr S1 G3 S1 G4 := tr_kept kp4 S1b
            have dF4 := kp4 _ _ dF3 nFb
            have ut4 : Tr S1 G4 S1 (upd G4 dF (.dK (putK fs (.inr s) v))) := tr_upd (.inr (.inr (.inl rfl)))
            refine ⟨.ref dF, rfl, .str s, rfl, dF, _, rfl, DPut.k (k := .inr s) dF4 (small fs lfs), ?_⟩
            obtain ⟨fs3, hfs3⟩ : ∃ fs3, fs3 = putK fs (.inr s) v := ⟨_, rfl⟩
            have lf3 : fs3.length ≤ i + 1 := by
              rw [hfs3]
              have := length_putK fs (.inr s) v
              omega
            have k5 : ∀ z o, H z = some o → z ≠ b → z ≠ a → (upd G4 dF (.dK fs3)) z = some o := fun z o e n1 n2 => by
              rw [upd_ne (ne_of_none e nF)]
              exact kp4 _ _ (k3 z o e n1 n2) n1
            have a5 : (upd G4 dF (.dK fs3)) a = some (.frz od (.dK kvs)) := by
              rw [upd_ne naF]
              exact kp4 _ _ a3 nabx
            have dA5 : (upd G4 dF (.dK fs3)) dA = some (.dK as) := by
              rw [upd_ne nAF]
              exact kp4 _ _ dA3 nAb
            rw [← hfs3] at ut4 ⊢
            have b5 : Box _ (upd G4 dF (.dK fs3)) b := b4.off nFb
            have al5 : Al S1 (upd G4 dF (.dK fs3)) := al4.upd
            have ks5 := (ks3.mono tr4).mono ut4
            have kok5 := (kok3.mono tr4).mono ut4
            have hk5 : ∀ kv ∈ fs3, ∃ s, kv.1 = .inr s ∧ Wd s := fun kv h => by
              rw [hfs3] at h
              rcases mem_put h with h | h
              · exact keys kv h
              · rw [h]
                exact ⟨s, rfl, ws⟩
            have hf5 : ∀ kv ∈ fs3, Ent S1 (upd G4 dF (.dK fs3)) n kv.2 := fun kv h => by
              rw [hfs3] at h
              rcases mem_put h with h | h
              · exact ((hf3 kv h).mono tr4).mono ut4
              · rw [h]
                exact Ent.vv (hv.mono ut4) n
            have dF5 : (upd G4 dF (.dK fs3)) dF = some (.dK fs3) := upd_same
            clear k3 a3 dF3 dA3 ks3 kok3 hf3 b3 al3
            have k3 := k5
            have a3 := a5
            have dF3 := dF5
            have dA3 := dA5
            have ks3 := ks5
            have kok3 := kok5
            have hf3 := hf5
            have hk3 := hk5
            have b3 := b5
            have al3 := al5
            obtain ⟨G3, hG3⟩ : ∃ G3, G3 = upd G4 dF (.dK fs3) := ⟨_, rfl⟩
            rw [← hG3] at k3 a3 dF3 dA3 ks3 kok3 hf3 b3 al3 ⊢
            rw [← hv0]
            -- ahead[field] = kind: heap G3 with found as fs3
            refine ⟨v0, rfl, .ref dA, rfl, .str s, rfl, dA, _, rfl, DPut.k (k := .inr s) dA3 (Nat.lt_of_le_of_lt (by omega : as.length ≤ 1000) (by decide)), ?_⟩
            have ut : Tr S1 G3 S1 (upd G3 dA (.dK (putK as (.inr s) v0))) := tr_upd (.inr (.inr (.inr rfl)))
            refine ⟨_, _, _, fs3, putK as (.inr s) v0, rfl, fun z o e nb na => ?_, (b3.off nAb).le (by rw [mulS]; omega), by rw [upd_ne naA]; exact a3, by rw [upd_ne nFA]; exact dF3, upd_same, al3.upd, fun kv h => ?_, ?_, ?_, hk3, fun kv h => (hf3 kv h).mono ut⟩
            · rw [upd_ne (ne_of_none e nAH)]
              exact k3 z o e nb na
            · rcases mem_put h with h | h
              · exact ⟨(ks3 kv h).1, (ks3 kv h).2.mono ut⟩
              · rw [h]
                exact ⟨⟨s, rfl, ws⟩, kok3.mono ut⟩
            · have := length_putK as (.inr s) v0
              omega
            · omega
          · refine ⟨.str k, rfl, .str k, .ty "str", .type "str", .type "str", true, rfl, .ty "str", .base (.str k), kit_ty (by decide +kernel), _, rfl, iteF ?_⟩
            obtain ⟨fs3, hfs3⟩ : ∃ fs3, fs3 = fs := ⟨_, rfl⟩
            rw [← hfs3] at dF3 hf3
            have hk3 : ∀ kv ∈ fs3, ∃ s, kv.1 = .inr s ∧ Wd s := by rw [hfs3]; exact keys
            have lf3 : fs3.length ≤ i := by rw [hfs3]; exact lfs
            rw [← hv0]
            -- ahead[field] = kind: heap G3 with found as fs3
            refine ⟨v0, rfl, .ref dA, rfl, .str s, rfl, dA, _, rfl, DPut.k (k := .inr s) dA3 (Nat.lt_of_le_of_lt (by omega : as.length ≤ 1000) (by decide)), ?_⟩
            have ut : Tr S1 G3 S1 (upd G3 dA (.dK (putK as (.inr s) v0))) := tr_upd (.inr (.inr (.inr rfl)))
            refine ⟨_, _, _, fs3, putK as (.inr s) v0, rfl, fun z o e nb na => ?_, (b3.off nAb).le (by rw [mulS]; omega), by rw [upd_ne naA]; exact a3, by rw [upd_ne nFA]; exact dF3, upd_same, al3.upd, fun kv h => ?_, ?_, ?_, hk3, fun kv h => (hf3 kv h).mono ut⟩
            · rw [upd_ne (ne_of_none e nAH)]
              exact k3 z o e nb na
            · rcases mem_put h with h | h
              · exact ⟨(ks3 kv h).1, (ks3 kv h).2.mono ut⟩
              · rw [h]
                exact ⟨⟨s, rfl, ws⟩, kok3.mono ut⟩
            · have := length_putK as (.inr s) v0
              omega
            · omega
        · have at2 : At S1 G2 t (.tup [.str w, .str nm]) := tr_same s2 _ _ (trN _ _ at_ (fun _ z => nomatch z))
          refine ⟨.ref t, rfl, .ref t, .ty "str", .type "tuple", .type "str", false, rfl, .ty "str", .base (.tup at2.2), kit_ty (by decide +kernel), _, rfl, iteF ?_⟩
          refine ⟨.ref t, rfl, .ref t, .ty "str", .type "tuple", .type "str", false, rfl, .ty "str", .base (.tup at2.2), kit_ty (by decide +kernel), _, rfl, iteT ?_⟩
          refine ⟨.ref t, rfl, t, _, 0, .str w, rfl, rfl, SqT.of at2.2, atI_nat (j := 0) rfl, rfl, _, rfl, ?_⟩
          obtain ⟨v0, hv0⟩ : ∃ v0, v0 = V.ref t := ⟨_, rfl⟩
          rw [← hv0] at kok2
          refine ite2 (fun _ => ?_) (fun _ => ?_)
          · refine ⟨.ref b, rfl, b, 3, _, rfl, b2, by decide, by decide, by omega, fun G3 r kp3 b3 r0 r1 => ⟨rfl, _, rfl, ?_⟩⟩
            have al3 : Al S1 G3 := al2.kept kp3 b3.some
            have tr3 : Tr S1 G2 S1 G3 := tr_kept kp3 S1b
            have k3 : ∀ z o, H z = some o → z ≠ b → z ≠ a → G3 z = some o := fun z o e n1 n2 => kp3 _ _ (k2 z o e n1 n2) n1
            have a3 := kp3 _ _ a2 nabx
            have dF3 := kp3 _ _ F2 nFb
            have dA3 := kp3 _ _ A2 nAb
            have ks3 := as2.mono tr3
            have kok3 := kok2.mono tr3
            have hf3 : ∀ kv ∈ fs, Ent S1 G3 n kv.2 := fun kv h => (ent2 kv h).mono tr3
            have at3 := tr3 _ _ at2
            have bk3 : BookK S1 G3 (reg.below m) bk Kn := bk2.kept kp3 b2 S1b
            refine ite2 (fun _ => ?_) (fun _ => ?_)
            · obtain ⟨n', rfl⟩ : ∃ n', n = n' + 1 := ⟨n - 1, by omega⟩
              have ecp : cP (n' + 1) = cB n' := rfl
              refine ⟨.ref b, rfl, .ref bk, rfl, .ref t, rfl, t, _, 1, .str nm, rfl, rfl, SqT.of at3.2, atI_nat (j := 1) rfl, .ref rd, rfl, b, bk, Kn, rd, a', nm, false, S1, reg.below m, k', ys, _, rfl, b3, by omega, S1b, al3, bk3, rk.below m, to_below hr2 hlt, by omega, tr3 _ _ ard, fun x h => (hys x h).mono tr3, by omega, fun G4 d' kp4 b4 hbd nd' => ?_⟩
              have al4 : Al S1 G4 := al3.kept kp4 b4.some
              have tr4 : Tr S1 G3 S1 G4 := tr_kept kp4 S1b
              have dF4 := kp4 _ _ dF3 nFb
              refine ⟨by show 2 ≤ sizeLine; decide, fun t5 nt5 => ?_⟩
              obtain ⟨s5, f5, _⟩ := grow (o := .tup [.str "body", .ref d']) nt5
              have dF5 := s5 _ _ dF4
              refine ⟨.ref dF, rfl, .str s, rfl, dF, _, rfl, DPut.k (k := .inr s) dF5 (small fs lfs), ?_⟩
              obtain ⟨G5, hG5⟩ : ∃ G5, G5 = upd G4 t5 (.tup [.str "body", .ref d']) := ⟨_, rfl⟩
              have tr5 : Tr S1 G4 S1 G5 := by rw [hG5]; exact tr_same s5
              have at5 : At S1 G5 t5 (.tup [.str "body", .ref d']) := ⟨al4.new nt5, by rw [hG5]; exact f5⟩
              have al5 : Al S1 G5 := by rw [hG5]; exact al4.same s5
              have b5 : Box (c + (32 + cP (n' + 1)) * (i : Int) + 1 + cB n') G5 b := by rw [hG5]; exact b4.same s5
              have k5 : ∀ z o, H z = some o → z ≠ b → z ≠ a → G5 z = some o := fun z o e n1 n2 => by rw [hG5]; exact s5 _ _ (kp4 _ _ (k3 z o e n1 n2) n1)
              have a5 : G5 a = some (.frz od (.dK kvs)) := by rw [hG5]; exact s5 _ _ (kp4 _ _ a3 nabx)
              have dA5 : G5 dA = some (.dK as) := by rw [hG5]; exact s5 _ _ (kp4 _ _ dA3 nAb)
              rw [← hG5]
              have ut5 : Tr S1 G5 S1 (upd G5 dF (.dK (putK fs (.inr s) (.ref t5)))) := tr_upd (.inr (.inr (.inl rfl)))
              obtain ⟨fs3, hfs3⟩ : ∃ fs3, fs3 = putK fs (.inr s) (.ref t5) := ⟨_, rfl⟩
              have lf3 : fs3.length ≤ i + 1 := by
                rw [hfs3]
                have := length_putK fs (.inr s) (V.ref t5)
                omega
              rw [← hfs3] at ut5 ⊢
              have k6 : ∀ z o, H z = some o → z ≠ b → z ≠ a → (upd G5 dF (.dK fs3)) z = some o := fun z o e n1 n2 => by
                rw [upd_ne (ne_of_none e nF)]
                exact k5 z o e n1 n2
              have a6 : (upd G5 dF (.dK fs3)) a = some (.frz od (.dK kvs)) := by
                rw [upd_ne naF]
                exact a5
              have dA6 : (upd G5 dF (.dK fs3)) dA = some (.dK as) := by
                rw [upd_ne nAF]
                exact dA5
              have b6 : Box _ (upd G5 dF (.dK fs3)) b := b5.off nFb
              have al6 : Al S1 (upd G5 dF (.dK fs3)) := al5.upd
              have ks6 := ((ks3.mono tr4).mono tr5).mono ut5
              have kok6 := ((kok3.mono tr4).mono tr5).mono ut5
              have hk6 : ∀ kv ∈ fs3, ∃ s, kv.1 = .inr s ∧ Wd s := fun kv h => by
                rw [hfs3] at h
                rcases mem_put h with h | h
                · exact keys kv h
                · rw [h]
                  exact ⟨s, rfl, ws⟩
              have hf6 : ∀ kv ∈ fs3, Ent S1 (upd G5 dF (.dK fs3)) (n' + 1) kv.2 := fun kv h => by
                rw [hfs3] at h
                rcases mem_put h with h | h
                · exact (((hf3 kv h).mono tr4).mono tr5).mono ut5
                · rw [h]
                  exact .inr ⟨t5, d', rfl, ut5 _ _ at5, BD.mono (tr5.tr ut5) hbd⟩
              have dF6 : (upd G5 dF (.dK fs3)) dF = some (.dK fs3) := upd_same
              clear k3 a3 dF3 dA3 ks3 kok3 hf3 b3 al3
              have k3 := k6
              have a3 := a6
              have dF3 := dF6
              have dA3 := dA6
              have ks3 := ks6
              have kok3 := kok6
              have hf3 := hf6
              have hk3 := hk6
              have b3 := b6
              have al3 := al6
              obtain ⟨G3, hG3⟩ : ∃ G3, G3 = upd G5 dF (.dK fs3) := ⟨_, rfl⟩
              rw [← hG3] at k3 a3 dF3 dA3 ks3 kok3 hf3 b3 al3 ⊢
              rw [← hv0]
              -- ahead[field] = kind: heap G3 with found as fs3
              refine ⟨v0, rfl, .ref dA, rfl, .str s, rfl, dA, _, rfl, DPut.k (k := .inr s) dA3 (Nat.lt_of_le_of_lt (by omega : as.length ≤ 1000) (by decide)), ?_⟩
              have ut : Tr S1 G3 S1 (upd G3 dA (.dK (putK as (.inr s) v0))) := tr_upd (.inr (.inr (.inr rfl)))
              refine ⟨_, _, _, fs3, putK as (.inr s) v0, rfl, fun z o e nb na => ?_, (b3.off nAb).le (by rw [mulS]; omega), by rw [upd_ne naA]; exact a3, by rw [upd_ne nFA]; exact dF3, upd_same, al3.upd, fun kv h => ?_, ?_, ?_, hk3, fun kv h => (hf3 kv h).mono ut⟩
              · rw [upd_ne (ne_of_none e nAH)]
                exact k3 z o e nb na
              · rcases mem_put h with h | h
                · exact ⟨(ks3 kv h).1, (ks3 kv h).2.mono ut⟩
                · rw [h]
                  exact ⟨⟨s, rfl, ws⟩, kok3.mono ut⟩
              · have := length_putK as (.inr s) v0
                omega
              · omega
            · obtain ⟨fs3, hfs3⟩ : ∃ fs3, fs3 = fs := ⟨_, rfl⟩
              rw [← hfs3] at dF3 hf3
              have hk3 : ∀ kv ∈ fs3, ∃ s, kv.1 = .inr s ∧ Wd s := by rw [hfs3]; exact keys
              have lf3 : fs3.length ≤ i := by rw [hfs3]; exact lfs
              rw [← hv0]
              -- ahead[field] = kind: heap G3 with found as fs3
              refine ⟨v0, rfl, .ref dA, rfl, .str s, rfl, dA, _, rfl, DPut.k (k := .inr s) dA3 (Nat.lt_of_le_of_lt (by omega : as.length ≤ 1000) (by decide)), ?_⟩
              have ut : Tr S1 G3 S1 (upd G3 dA (.dK (putK as (.inr s) v0))) := tr_upd (.inr (.inr (.inr rfl)))
              refine ⟨_, _, _, fs3, putK as (.inr s) v0, rfl, fun z o e nb na => ?_, (b3.off nAb).le (by rw [mulS]; omega), by rw [upd_ne naA]; exact a3, by rw [upd_ne nFA]; exact dF3, upd_same, al3.upd, fun kv h => ?_, ?_, ?_, hk3, fun kv h => (hf3 kv h).mono ut⟩
              · rw [upd_ne (ne_of_none e nAH)]
                exact k3 z o e nb na
              · rcases mem_put h with h | h
                · exact ⟨(ks3 kv h).1, (ks3 kv h).2.mono ut⟩
                · rw [h]
                  exact ⟨⟨s, rfl, ws⟩, kok3.mono ut⟩
              · have := length_putK as (.inr s) v0
                omega
              · omega
          · obtain ⟨G3, hG3⟩ : ∃ G3, G3 = G2 := ⟨_, rfl⟩
            obtain ⟨fs3, hfs3⟩ : ∃ fs3, fs3 = fs := ⟨_, rfl⟩
            rw [← hG3, ← hfs3] at F2
            rw [← hG3] at k2 b2 a2 A2 al2 as2 ent2 kok2 ⊢
            rw [← hfs3] at ent2
            have k3 := k2
            have b3 := b2
            have a3 := a2
            have dF3 := F2
            have dA3 := A2
            have al3 := al2
            have ks3 := as2
            have hf3 := ent2
            have kok3 := kok2
            have hk3 : ∀ kv ∈ fs3, ∃ s, kv.1 = .inr s ∧ Wd s := by rw [hfs3]; exact keys
            have lf3 : fs3.length ≤ i := by rw [hfs3]; exact lfs
            rw [← hv0]
            -- ahead[field] = kind: heap G3 with found as fs3
            refine ⟨v0, rfl, .ref dA, rfl, .str s, rfl, dA, _, rfl, DPut.k (k := .inr s) dA3 (Nat.lt_of_le_of_lt (by omega : as.length ≤ 1000) (by decide)), ?_⟩
            have ut : Tr S1 G3 S1 (upd G3 dA (.dK (putK as (.inr s) v0))) := tr_upd (.inr (.inr (.inr rfl)))
            refine ⟨_, _, _, fs3, putK as (.inr s) v0, rfl, fun z o e nb na => ?_, (b3.off nAb).le (by rw [mulS]; omega), by rw [upd_ne naA]; exact a3, by rw [upd_ne nFA]; exact dF3, upd_same, al3.upd, fun kv h => ?_, ?_, ?_, hk3, fun kv h => (hf3 kv h).mono ut⟩
            · rw [upd_ne (ne_of_none e nAH)]
              exact k3 z o e nb na
            · rcases mem_put h with h | h
              · exact ⟨(ks3 kv h).1, (ks3 kv h).2.mono ut⟩
              · rw [h]
                exact ⟨⟨s, rfl, ws⟩, kok3.mono ut⟩
            · have := length_putK as (.inr s) v0
              omega
            · omega
      | false =>
        refine iteF ⟨.ref so, rfl, ?_⟩
        obtain ⟨G2, hG2⟩ : ∃ G2, G2 = G1 := ⟨_, rfl⟩
        have s2 : Same G1 G2 := by rw [hG2]; exact Same.rf G1
        obtain ⟨rd, hrd⟩ : ∃ rd, rd = so := ⟨_, rfl⟩
        obtain ⟨ys, hys0⟩ : ∃ ys, ys = xs := ⟨_, rfl⟩
        have ard : At S1 G2 rd (.lst ys) := by
          rw [hG2, hrd, hys0]
          exact trN _ _ aso (fun _ z => nomatch z)
        have hys : ∀ x ∈ ys, Some S1 G2 x := by
          rw [hG2, hys0]
          exact fun x h => (hxs x h).monoN trN
        have lys : ys.length ≤ 100 := by rw [hys0]; exact lxs
        rw [← hG2, ← hrd]
        have k2 : ∀ z o, H z = some o → z ≠ b → z ≠ a → G2 z = some o := fun z o e n1 n2 => s2 _ _ (kT z o e n1 n2)
        have b2 := bT1.same s2
        have a2 := s2 _ _ aT
        have F2 := s2 _ _ FT1
        have A2 := s2 _ _ AT1
        have al2 := alT.same s2
        have as2 := asT.mono (tr_same s2)
        have ent2 : ∀ kv ∈ fs, Ent S1 G2 n kv.2 := fun kv h => (entT kv h).mono (tr_same s2)
        have kok2 := kok1.mono (tr_same s2)
        have bk2 := bk1.same s2
        have small : ∀ (zs : List (Key × V)), zs.length ≤ i → zs.length < sizeLine := fun zs h => small1000 (by omega)
        rcases kok with ⟨k, rfl, hk⟩ | ⟨t, w, nm, a', k', rfl, at_, hw, wn, hr2, hlt⟩
        · refine ⟨.str k, rfl, .str k, .ty "str", .type "str", .type "str", true, rfl, .ty "str", .base (.str k), kit_ty (by decide +kernel), _, rfl, iteT ?_⟩
          refine ⟨.ref b, rfl, b, 3, _, rfl, b2, by decide, by decide, by omega, fun G3 r kp3 b3 r0 r1 => ⟨rfl, _, rfl, ?_⟩⟩
          have al3 : Al S1 G3 := al2.kept kp3 b3.some
          have tr3 : Tr S1 G2 S1 G3 := tr_kept kp3 S1b
          have k3 : ∀ z o, H z = some o → z ≠ b → z ≠ a → G3 z = some o := fun z o e n1 n2 => kp3 _ _ (k2 z o e n1 n2) n1
          have a3 := kp3 _ _ a2 nabx
          have dF3 := kp3 _ _ F2 nFb
          have dA3 := kp3 _ _ A2 nAb
          have ks3 := as2.mono tr3
          have kok3 := kok2.mono tr3
          have hf3 : ∀ kv ∈ fs, Ent S1 G3 n kv.2 := fun kv h => (ent2 kv h).mono tr3
          obtain ⟨v0, hv0⟩ : ∃ v0, v0 = V.str k := ⟨_, rfl⟩
          rw [← hv0] at kok3
          refine ite2 (fun _ => ?_) (fun _ => ?_)
          · refine ⟨.ref b, rfl, .ref rd, rfl, .str k, rfl, b, rd, k, S1, ys, _, rfl, b3, by omega, S1b, al3, tr3 _ _ ard, fun x h => (hys x h).mono tr3, by omega, fun G4 v kp4 b4 hv => ?_⟩
            have al4 : Al S1 G4 := al3.kept kp4 b4.some
            have tr4 : Tr S1 G3 S1 G4 := tr_kept kp4 S1b
            have dF4 := kp4 _ _ dF3 nFb
            have ut4 : Tr S1 G4 S1 (upd G4 dF (.dK (putK fs (.inr s) v))) := tr_upd (.inr (.inr (.inl rfl)))
            refine ⟨.ref dF, rfl, .str s, rfl, dF, _, rfl, DPut.k (k := .inr s) dF4 (small fs lfs), ?_⟩
            obtain ⟨fs3, hfs3⟩ : ∃ fs3, fs3 = putK fs (.inr s) v := ⟨_, rfl⟩
            have lf3 : fs3.length ≤ i + 1 := by
              rw [hfs3]
              have := length_putK fs (.inr s) v
              omega
            have k5 : ∀ z o, H z = some o → z ≠ b → z ≠ a → (upd G4 dF (.dK fs3)) z = some o := fun z o e n1 n2 => by
              rw [upd_ne (ne_of_none e nF)]
              exact kp4 _ _ (k3 z o e n1 n2) n1
            have a5 : (upd G4 dF (.dK fs3)) a = some (.frz od (.dK kvs)) := by
              rw [upd_ne naF]
              exact kp4 _ _ a3 nabx
            have dA5 : (upd G4 dF (.dK fs3)) dA = some (.dK as) := by
              rw [upd_ne nAF]
              exact kp4 _ _ dA3 nAb
            rw [← hfs3] at ut4 ⊢
            have b5 : Box _ (upd G4 dF (.dK fs3)) b := b4.off nFb
            have al5 : Al S1 (upd G4 dF (.dK fs3)) := al4.upd
            have ks5 := (ks3.mono tr4).mono ut4
            have kok5 := (kok3.mono tr4).mono ut4
            have hk5 : ∀ kv ∈ fs3, ∃ s, kv.1 = .inr s ∧ Wd s := fun kv h => by
              rw [hfs3] at h
              rcases mem_put h with h | h
              · exact keys kv h
              · rw [h]
                exact ⟨s, rfl, ws⟩
            have hf5 : ∀ kv ∈ fs3, Ent S1 (upd G4 dF (.dK fs3)) n kv.2 := fun kv h => by
              rw [hfs3] at h
              rcases mem_put h with h | h
              · exact ((hf3 kv h).mono tr4).mono ut4
              · rw [h]
                exact Ent.vv (hv.mono ut4) n
            have dF5 : (upd G4 dF (.dK fs3)) dF = some (.dK fs3) := upd_same
            clear k3 a3 dF3 dA3 ks3 kok3 hf3 b3 al3
            have k3 := k5
            have a3 := a5
            have dF3 := dF5
            have dA3 := dA5
            have ks3 := ks5
            have kok3 := kok5
            have hf3 := hf5
            have hk3 := hk5
            have b3 := b5
            have al3 := al5
            obtain ⟨G3, hG3⟩ : ∃ G3, G3 = upd G4 dF (.dK fs3) := ⟨_, rfl⟩
            rw [← hG3] at k3 a3 dF3 dA3 ks3 kok3 hf3 b3 al3 ⊢
            rw [← hv0]
            -- ahead[field] = kind: heap G3 with found as fs3
            refine ⟨v0, rfl, .ref dA, rfl, .str s, rfl, dA, _, rfl, DPut.k (k := .inr s) dA3 (Nat.lt_of_le_of_lt (by omega : as.length ≤ 1000) (by decide)), ?_⟩
            have ut : Tr S1 G3 S1 (upd G3 dA (.dK (putK as (.inr s) v0))) := tr_upd (.inr (.inr (.inr rfl)))
            refine ⟨_, _, _, fs3, putK as (.inr s) v0, rfl, fun z o e nb na => ?_, (b3.off nAb).le (by rw [mulS]; omega), by rw [upd_ne naA]; exact a3, by rw [upd_ne nFA]; exact dF3, upd_same, al3.upd, fun kv h => ?_, ?_, ?_, hk3, fun kv h => (hf3 kv h).mono ut⟩
            · rw [upd_ne (ne_of_none e nAH)]
              exact k3 z o e nb na
            · rcases mem_put h with h | h
              · exact ⟨(ks3 kv h).1, (ks3 kv h).2.mono ut⟩
              · rw [h]
                exact ⟨⟨s, rfl, ws⟩, kok3.mono ut⟩
            · have := length_putK as (.inr s) v0
              omega
            · omega
          · refine ⟨.str k, rfl, .str k, .ty "str", .type "str", .type "str", true, rfl, .ty "str", .base (.str k), kit_ty (by decide +kernel), _, rfl, iteF ?_⟩
            obtain ⟨fs3, hfs3⟩ : ∃ fs3, fs3 = fs := ⟨_, rfl⟩
            rw [← hfs3] at dF3 hf3
            have hk3 : ∀ kv ∈ fs3, ∃ s, kv.1 = .inr s ∧ Wd s := by rw [hfs3]; exact keys
            have lf3 : fs3.length ≤ i := by rw [hfs3]; exact lfs
            rw [← hv0]
            -- ahead[field] = kind: heap G3 with found as fs3
            refine ⟨v0, rfl, .ref dA, rfl, .str s, rfl, dA, _, rfl, DPut.k (k := .inr s) dA3 (Nat.lt_of_le_of_lt (by omega : as.length ≤ 1000) (by decide)), ?_⟩
            have ut : Tr S1 G3 S1 (upd G3 dA (.dK (putK as (.inr s) v0))) := tr_upd (.inr (.inr (.inr rfl)))
            refine ⟨_, _, _, fs3, putK as (.inr s) v0, rfl, fun z o e nb na => ?_, (b3.off nAb).le (by rw [mulS]; omega), by rw [upd_ne naA]; exact a3, by rw [upd_ne nFA]; exact dF3, upd_same, al3.upd, fun kv h => ?_, ?_, ?_, hk3, fun kv h => (hf3 kv h).mono ut⟩
            · rw [upd_ne (ne_of_none e nAH)]
              exact k3 z o e nb na
            · rcases mem_put h with h | h
              · exact ⟨(ks3 kv h).1, (ks3 kv h).2.mono ut⟩
              · rw [h]
                exact ⟨⟨s, rfl, ws⟩, kok3.mono ut⟩
            · have := length_putK as (.inr s) v0
              omega
            · omega
        · have at2 : At S1 G2 t (.tup [.str w, .str nm]) := tr_same s2 _ _ (trN _ _ at_ (fun _ z => nomatch z))
          refine ⟨.ref t, rfl, .ref t, .ty "str", .type "tuple", .type "str", false, rfl, .ty "str", .base (.tup at2.2), kit_ty (by decide +kernel), _, rfl, iteF ?_⟩
          refine ⟨.ref t, rfl, .ref t, .ty "str", .type "tuple", .type "str", false, rfl, .ty "str", .base (.tup at2.2), kit_ty (by decide +kernel), _, rfl, iteT ?_⟩
          refine ⟨.ref t, rfl, t, _, 0, .str w, rfl, rfl, SqT.of at2.2, atI_nat (j := 0) rfl, rfl, _, rfl, ?_⟩
          obtain ⟨v0, hv0⟩ : ∃ v0, v0 = V.ref t := ⟨_, rfl⟩
          rw [← hv0] at kok2
          refine ite2 (fun _ => ?_) (fun _ => ?_)
          · refine ⟨.ref b, rfl, b, 3, _, rfl, b2, by decide, by decide, by omega, fun G3 r kp3 b3 r0 r1 => ⟨rfl, _, rfl, ?_⟩⟩
            have al3 : Al S1 G3 := al2.kept kp3 b3.some
            have tr3 : Tr S1 G2 S1 G3 := tr_kept kp3 S1b
            have k3 : ∀ z o, H z = some o → z ≠ b → z ≠ a → G3 z = some o := fun z o e n1 n2 => kp3 _ _ (k2 z o e n1 n2) n1
            have a3 := kp3 _ _ a2 nabx
            have dF3 := kp3 _ _ F2 nFb
            have dA3 := kp3 _ _ A2 nAb
            have ks3 := as2.mono tr3
            have kok3 := kok2.mono tr3
            have hf3 : ∀ kv ∈ fs, Ent S1 G3 n kv.2 := fun kv h => (ent2 kv h).mono tr3
            have at3 := tr3 _ _ at2
            have bk3 : BookK S1 G3 (reg.below m) bk Kn := bk2.kept kp3 b2 S1b
            refine ite2 (fun _ => ?_) (fun _ => ?_)
            · obtain ⟨n', rfl⟩ : ∃ n', n = n' + 1 := ⟨n - 1, by omega⟩
              have ecp : cP (n' + 1) = cB n' := rfl
              refine ⟨.ref b, rfl, .ref bk, rfl, .ref t, rfl, t, _, 1, .str nm, rfl, rfl, SqT.of at3.2, atI_nat (j := 1) rfl, .ref rd, rfl, b, bk, Kn, rd, a', nm, false, S1, reg.below m, k', ys, _, rfl, b3, by omega, S1b, al3, bk3, rk.below m, to_below hr2 hlt, by omega, tr3 _ _ ard, fun x h => (hys x h).mono tr3, by omega, fun G4 d' kp4 b4 hbd nd' => ?_⟩
              have al4 : Al S1 G4 := al3.kept kp4 b4.some
              have tr4 : Tr S1 G3 S1 G4 := tr_kept kp4 S1b
              have dF4 := kp4 _ _ dF3 nFb
              refine ⟨by show 2 ≤ sizeLine; decide, fun t5 nt5 => ?_⟩
              obtain ⟨s5, f5, _⟩ := grow (o := .tup [.str "body", .ref d']) nt5
              have dF5 := s5 _ _ dF4
              refine ⟨.ref dF, rfl, .str s, rfl, dF, _, rfl, DPut.k (k := .inr s) dF5 (small fs lfs), ?_⟩
              obtain ⟨G5, hG5⟩ : ∃ G5, G5 = upd G4 t5 (.tup [.str "body", .ref d']) := ⟨_, rfl⟩
              have tr5 : Tr S1 G4 S1 G5 := by rw [hG5]; exact tr_same s5
              have at5 : At S1 G5 t5 (.tup [.str "body", .ref d']) := ⟨al4.new nt5, by rw [hG5]; exact f5⟩
              have al5 : Al S1 G5 := by rw [hG5]; exact al4.same s5
              have b5 : Box (c + (32 + cP (n' + 1)) * (i : Int) + 1 + cB n') G5 b := by rw [hG5]; exact b4.same s5
              have k5 : ∀ z o, H z = some o → z ≠ b → z ≠ a → G5 z = some o := fun z o e n1 n2 => by rw [hG5]; exact s5 _ _ (kp4 _ _ (k3 z o e n1 n2) n1)
              have a5 : G5 a = some (.frz od (.dK kvs)) := by rw [hG5]; exact s5 _ _ (kp4 _ _ a3 nabx)
              have dA5 : G5 dA = some (.dK as) := by rw [hG5]; exact s5 _ _ (kp4 _ _ dA3 nAb)
              rw [← hG5]
              have ut5 : Tr S1 G5 S1 (upd G5 dF (.dK (putK fs (.inr s) (.ref t5)))) := tr_upd (.inr (.inr (.inl rfl)))
              obtain ⟨fs3, hfs3⟩ : ∃ fs3, fs3 = putK fs (.inr s) (.ref t5) := ⟨_, rfl⟩
              have lf3 : fs3.length ≤ i + 1 := by
                rw [hfs3]
                have := length_putK fs (.inr s) (V.ref t5)
                omega
              rw [← hfs3] at ut5 ⊢
              have k6 : ∀ z o, H z = some o → z ≠ b → z ≠ a → (upd G5 dF (.dK fs3)) z = some o := fun z o e n1 n2 => by
                rw [upd_ne (ne_of_none e nF)]
                exact k5 z o e n1 n2
              have a6 : (upd G5 dF (.dK fs3)) a = some (.frz od (.dK kvs)) := by
                rw [upd_ne naF]
                exact a5
              have dA6 : (upd G5 dF (.dK fs3)) dA = some (.dK as) := by
                rw [upd_ne nAF]
                exact dA5
              have b6 : Box _ (upd G5 dF (.dK fs3)) b := b5.off nFb
              have al6 : Al S1 (upd G5 dF (.dK fs3)) := al5.upd
              have ks6 := ((ks3.mono tr4).mono tr5).mono ut5
              have kok6 := ((kok3.mono tr4).mono tr5).mono ut5
              have hk6 : ∀ kv ∈ fs3, ∃ s, kv.1 = .inr s ∧ Wd s := fun kv h => by
                rw [hfs3] at h
                rcases mem_put h with h | h
                · exact keys kv h
                · rw [h]
                  exact ⟨s, rfl, ws⟩
              have hf6 : ∀ kv ∈ fs3, Ent S1 (upd G5 dF (.dK fs3)) (n' + 1) kv.2 := fun kv h => by
                rw [hfs3] at h
                rcases mem_put h with h | h
                · exact (((hf3 kv h).mono tr4).mono tr5).mono ut5
                · rw [h]
                  exact .inr ⟨t5, d', rfl, ut5 _ _ at5, BD.mono (tr5.tr ut5) hbd⟩
              have dF6 : (upd G5 dF (.dK fs3)) dF = some (.dK fs3) := upd_same
              clear k3 a3 dF3 dA3 ks3 kok3 hf3 b3 al3
              have k3 := k6
              have a3 := a6
              have dF3 := dF6
              have dA3 := dA6
              have ks3 := ks6
              have kok3 := kok6
              have hf3 := hf6
              have hk3 := hk6
              have b3 := b6
              have al3 := al6
              obtain ⟨G3, hG3⟩ : ∃ G3, G3 = upd G5 dF (.dK fs3) := ⟨_, rfl⟩
              rw [← hG3] at k3 a3 dF3 dA3 ks3 kok3 hf3 b3 al3 ⊢
              rw [← hv0]
              -- ahead[field] = kind: heap G3 with found as fs3
              refine ⟨v0, rfl, .ref dA, rfl, .str s, rfl, dA, _, rfl, DPut.k (k := .inr s) dA3 (Nat.lt_of_le_of_lt (by omega : as.length ≤ 1000) (by decide)), ?_⟩
              have ut : Tr S1 G3 S1 (upd G3 dA (.dK (putK as (.inr s) v0))) := tr_upd (.inr (.inr (.inr rfl)))
              refine ⟨_, _, _, fs3, putK as (.inr s) v0, rfl, fun z o e nb na => ?_, (b3.off nAb).le (by rw [mulS]; omega), by rw [upd_ne naA]; exact a3, by rw [upd_ne nFA]; exact dF3, upd_same, al3.upd, fun kv h => ?_, ?_, ?_, hk3, fun kv h => (hf3 kv h).mono ut⟩
              · rw [upd_ne (ne_of_none e nAH)]
                exact k3 z o e nb na
              · rcases mem_put h with h | h
                · exact ⟨(ks3 kv h).1, (ks3 kv h).2.mono ut⟩
                · rw [h]
                  exact ⟨⟨s, rfl, ws⟩, kok3.mono ut⟩
              · have := length_putK as (.inr s) v0
                omega
              · omega
            · obtain ⟨fs3, hfs3⟩ : ∃ fs3, fs3 = fs := ⟨_, rfl⟩
              rw [← hfs3] at dF3 hf3
              have hk3 : ∀ kv ∈ fs3, ∃ s, kv.1 = .inr s ∧ Wd s := by rw [hfs3]; exact keys
              have lf3 : fs3.length ≤ i := by rw [hfs3]; exact lfs
              rw [← hv0]
              -- ahead[field] = kind: heap G3 with found as fs3
              refine ⟨v0, rfl, .ref dA, rfl, .str s, rfl, dA, _, rfl, DPut.k (k := .inr s) dA3 (Nat.lt_of_le_of_lt (by omega : as.length ≤ 1000) (by decide)), ?_⟩
              have ut : Tr S1 G3 S1 (upd G3 dA (.dK (putK as (.inr s) v0))) := tr_upd (.inr (.inr (.inr rfl)))
              refine ⟨_, _, _, fs3, putK as (.inr s) v0, rfl, fun z o e nb na => ?_, (b3.off nAb).le (by rw [mulS]; omega), by rw [upd_ne naA]; exact a3, by rw [upd_ne nFA]; exact dF3, upd_same, al3.upd, fun kv h => ?_, ?_, ?_, hk3, fun kv h => (hf3 kv h).mono ut⟩
              · rw [upd_ne (ne_of_none e nAH)]
                exact k3 z o e nb na
              · rcases mem_put h with h | h
                · exact ⟨(ks3 kv h).1, (ks3 kv h).2.mono ut⟩
                · rw [h]
                  exact ⟨⟨s, rfl, ws⟩, kok3.mono ut⟩
              · have := length_putK as (.inr s) v0
                omega
              · omega
          · obtain ⟨G3, hG3⟩ : ∃ G3, G3 = G2 := ⟨_, rfl⟩
            obtain ⟨fs3, hfs3⟩ : ∃ fs3, fs3 = fs := ⟨_, rfl⟩
            rw [← hG3, ← hfs3] at F2
            rw [← hG3] at k2 b2 a2 A2 al2 as2 ent2 kok2 ⊢
            rw [← hfs3] at ent2
            have k3 := k2
            have b3 := b2
            have a3 := a2
            have dF3 := F2
            have dA3 := A2
            have al3 := al2
            have ks3 := as2
            have hf3 := ent2
            have kok3 := kok2
            have hk3 : ∀ kv ∈ fs3, ∃ s, kv.1 = .inr s ∧ Wd s := by rw [hfs3]; exact keys
            have lf3 : fs3.length ≤ i := by rw [hfs3]; exact lfs
            rw [← hv0]
            -- ahead[field] = kind: heap G3 with found as fs3
            refine ⟨v0, rfl, .ref dA, rfl, .str s, rfl, dA, _, rfl, DPut.k (k := .inr s) dA3 (Nat.lt_of_le_of_lt (by omega : as.length ≤ 1000) (by decide)), ?_⟩
            have ut : Tr S1 G3 S1 (upd G3 dA (.dK (putK as (.inr s) v0))) := tr_upd (.inr (.inr (.inr rfl)))
            refine ⟨_, _, _, fs3, putK as (.inr s) v0, rfl, fun z o e nb na => ?_, (b3.off nAb).le (by rw [mulS]; omega), by rw [upd_ne naA]; exact a3, by rw [upd_ne nFA]; exact dF3, upd_same, al3.upd, fun kv h => ?_, ?_, ?_, hk3, fun kv h => (hf3 kv h).mono ut⟩
            · rw [upd_ne (ne_of_none e nAH)]
              exact k3 z o e nb na
            · rcases mem_put h with h | h
              · exact ⟨(ks3 kv h).1, (ks3 kv h).2.mono ut⟩
              · rw [h]
                exact ⟨⟨s, rfl, ws⟩, kok3.mono ut⟩
            · have := length_putK as (.inr s) v0
              omega
            · omega
    · rintro σ G ⟨o7, o8, o9, fs, as, rfl, kG, bG, aG, FG, AG, alG, asG, las, lfs, keys, ents⟩
      refine ⟨aG, .ref dF, rfl, ?_⟩
      have tF : Tr S1 G S (upd G a (.dK kvs)) := (tr_upd (.inr (.inl rfl))).tr (tr_less fun z h => .inl h)
      have nSF : ¬ S dF := al.new nF
      have mul4 : (32 + cP n) * (kvs.length : Int) ≤ (32 + cP n) * 4 := Int.mul_le_mul_of_nonneg_left (by omega) (by omega)
      refine q _ dF (fun z o e nb => ?_) ((bG.off nabx).le (by omega)) (BD.of ⟨nSF, by rw [upd_ne naF.symm]; exact FG⟩ (by omega) keys fun kv h => (ents kv h).mono tF) nF
      by_cases za : z = a
      · subst za
        rw [upd_same, ← aa.2]
        exact e
      · rw [upd_ne za]
        exact kG z o e nb za
end
end K2

set_option maxHeartbeats 2000000
/-! Drawn loops. -/
namespace K2
open PySem PySem.Spec PyProof.Rows L2

section
variable (S : Addr → Prop) (H : Hp)
/-- the fields of a list -/
def FieldsOk (fs : List (Key × V)) : Prop := 1 ≤ fs.length ∧ fs.length ≤ 2 ∧ ∀ kv ∈ fs, ∃ s k, kv = (Sum.inr s, V.str k) ∧ Wd s ∧ Kd k
/-- fields of one letter -/
def FldS (fs : List (Key × V)) : Prop := ∀ kv ∈ fs, ∀ s, kv.1 = .inr s → (cp s).length ≤ 1
/-- an item of a list -/
def RowOk (v : V) : Prop := ∃ d kvs, v = .ref d ∧ At S H d (.dK kvs) ∧ kvs.length ≤ 2 ∧ ∀ kv ∈ kvs, (∃ s, kv.1 = .inr s ∧ Wd s) ∧ Lit kv.2
def ListOk (v : V) : Prop := ∃ t f r fs rows, v = .ref t ∧ At S H t (.tup [.ref f, .ref r]) ∧ At S H f (.dK fs) ∧ FieldsOk fs ∧ At S H r (.lst rows) ∧ (∀ x ∈ rows, RowOk S H x) ∧ rows.length ≤ 3 ∧ FldS fs
def ListsOk (ll : List (Key × V)) : Prop := ll.length ≤ 2 ∧ ∀ kv ∈ ll, (∃ s, kv.1 = .inr s ∧ Wd s) ∧ ListOk S H kv.2
end
section
variable {S S' : Addr → Prop} {H H' : Hp}
theorem RowOk.mono {v : V} (x : RowOk S H v) (h : Tr S H S' H') : RowOk S' H' v := by
  obtain ⟨d, kvs, e, a, b, c⟩ := x
  exact ⟨d, kvs, e, h _ _ a, b, c⟩
theorem ListOk.mono {v : V} (x : ListOk S H v) (h : Tr S H S' H') : ListOk S' H' v := by
  obtain ⟨t, f, r, fs, rows, e, a, b, c, d, g, i⟩ := x
  exact ⟨t, f, r, fs, rows, e, h _ _ a, h _ _ b, c, h _ _ d, fun x q => (g x q).mono h, i⟩
theorem ListsOk.mono {ll : List (Key × V)} (x : ListsOk S H ll) (h : Tr S H S' H') : ListsOk S' H' ll := ⟨x.1, fun kv q => ⟨(x.2 kv q).1, (x.2 kv q).2.mono h⟩⟩
end

theorem valV_mem {kvs : List (Key × V)} {k : Key} {v : V} (h : (k, v) ∈ kvs) : ∃ v', valV kvs k = some v' ∧ (k, v') ∈ kvs := by
  induction kvs with
  | nil => exact (List.not_mem_nil h).elim
  | cons p r ih =>
    by_cases e : p.1 = k
    · exact ⟨p.2, valV_pos e, by rw [← e]; exact List.mem_cons_self⟩
    · rcases List.mem_cons.mp h with h | h
      · exact absurd (by rw [← h]) e
      · obtain ⟨v', a, b⟩ := ih h
        exact ⟨v', by rw [valV_neg e]; exact a, List.mem_cons_of_mem _ b⟩
/-- all keys are words -/
theorem keys_strs : ∀ {kvs : List (Key × V)}, (∀ kv ∈ kvs, ∃ s, kv.1 = Sum.inr s ∧ Wd s) → ∃ ks : List Str, kvs.map (·.1) = ks.map Sum.inr ∧ (∀ s ∈ ks, Wd s ∧ ∃ v, (Sum.inr s, v) ∈ kvs) ∧ ks.length = kvs.length
  | [], _ => ⟨[], rfl, fun s h => (List.not_mem_nil h).elim, rfl⟩
  | kv :: r, h => by
    obtain ⟨ks, a, b, l⟩ := keys_strs (kvs := r) fun x q => h x (List.mem_cons_of_mem _ q)
    obtain ⟨s, e, w⟩ := h kv List.mem_cons_self
    obtain ⟨k0, v0⟩ := kv
    cases e
    refine ⟨s :: ks, by rw [List.map_cons, List.map_cons, a], fun x q => ?_, by rw [List.length_cons, l, List.length_cons]⟩
    rcases List.mem_cons.mp q with rfl | q
    · exact ⟨w, v0, List.mem_cons_self⟩
    · obtain ⟨w', v, m⟩ := b x q
      exact ⟨w', v, List.mem_cons_of_mem _ m⟩

theorem scLoop : FnScope ["_law_box_here", "_law_book_here", "_law_name", "_law_some", "_law_source", "_law_fields", "_law_left", "_law_fit", "_law_where", "_law_items", "_law_path", "_law_kind", "_law_field"] ["_law_box_here", "_law_book_here", "_law_name", "_law_some"] (defScope sLoop) := ⟨rfl, rfl, rfl, by decide +kernel, rfl, by decide +kernel, by decide +kernel⟩

def spLoop (n : Nat) : Sp := fun vs H Q _ => ∃ (b bk Kn Ln so a : Addr) (name : Str) (S : Addr → Prop) (reg : Reg) (m : Nat) (xs : List V) (ll : List (Key × V)) (c : Int),
  vs = [.ref b, .ref bk, .str name, .ref so] ∧ Box c H b ∧ c + cB n ≤ 95000 ∧ S b ∧ Al S H ∧ BookK S H reg bk Kn ∧ Ranks reg bk Kn ∧ reg name = some (a, m) ∧ m ≤ n ∧ Wd name ∧ At S H so (.lst xs) ∧ (∀ x ∈ xs, Some S H x) ∧ xs.length ≤ 40 ∧
  (∃ kvb, H bk = some (.dK kvb) ∧ valV kvb (.inr "lists") = some (.ref Ln)) ∧ H Ln = some (.dK ll) ∧ ListsOk S H ll ∧ ll ≠ [] ∧
  ∀ H' v, Kept b H H' → Box (c + cB n + 10) H' b → NV S H' n v → Q v H'

theorem rawK {S : Addr → Prop} {G G' : Hp} {b : Addr} {c : Int} (k : Kept b G G') (bx : Box c G b) {z : Addr} {kv : List (Key × V)} (e : G z = some (.dK kv)) : G' z = some (.dK kv) := by
  refine k _ _ e ?_
  rintro rfl
  obtain ⟨o, m, j, e2, _⟩ := bx
  rw [e] at e2
  cases e2
/-- what the loop's def knows all the while -/
structure LK (b bk Kn Ln so : Addr) (S : Addr → Prop) (reg : Reg) (xs : List V) (ll kvb : List (Key × V)) (c : Int) (G : Hp) : Prop where
  bx : Box c G b
  al : Al S G
  bo : BookK S G reg bk Kn
  so : At S G so (.lst xs)
  xs : ∀ x ∈ xs, Some S G x
  hb : G bk = some (.dK kvb)
  hl : G Ln = some (.dK ll)
  ll : ListsOk S G ll
theorem LK.same {b bk Kn Ln so : Addr} {S : Addr → Prop} {reg : Reg} {xs : List V} {ll kvb : List (Key × V)} {c : Int} {G G' : Hp} (x : LK b bk Kn Ln so S reg xs ll kvb c G) (s : Same G G') : LK b bk Kn Ln so S reg xs ll kvb c G' :=
  ⟨x.bx.same s, x.al.same s, x.bo.same s, tr_same s _ _ x.so, fun y h => (x.xs y h).mono (tr_same s), s _ _ x.hb, s _ _ x.hl, x.ll.mono (tr_same s)⟩
theorem LK.kept {b bk Kn Ln so : Addr} {S : Addr → Prop} {reg : Reg} {xs : List V} {ll kvb : List (Key × V)} {c c' : Int} {G G' : Hp} (x : LK b bk Kn Ln so S reg xs ll kvb c G) (k : Kept b G G') (h : Box c' G' b) (Sb : S b) : LK b bk Kn Ln so S reg xs ll kvb c' G' :=
  ⟨h, x.al.kept k h.some, x.bo.kept k x.bx Sb, tr_kept k Sb _ _ x.so, fun y q => (x.xs y q).mono (tr_kept k Sb), rawK (S := S) k x.bx x.hb, rawK (S := S) k x.bx x.hl, x.ll.mono (tr_kept k Sb)⟩

section
variable {P : Program} {w : World} {K : PySem.W.Frag} {mg : Str → Option Value} {base : Heap}

theorem ok_loop (n : Nat) {f fO fT fP fB : Addr} {fd fdO fdT fdP fdB : FuncData} (F : Fun K "_law_loop" "_law_loop" sLoop f fd) (Z : Bare mg) (zs : mg "sorted" = none)
    (FO : Fun K "_law_of" "_law_of" sOf fO fdO) (bO : Binds K fdO ["_law_box_here", "_law_some"] []) (gO : mg "_law_of" = some (.ref fO))
    (GO : FnOk P w K mg base CX0 2 fO fdO ["_law_box_here", "_law_some"] spOf)
    (FT : Fun K "_law_take" "_law_take" sTake fT fdT) (bT : Binds K fdT ["_law_box_here", "_law_many"] []) (gT : mg "_law_take" = some (.ref fT))
    (GT : FnOk P w K mg base CX0 1 fT fdT ["_law_box_here", "_law_many"] spTake)
    (FP : Fun K "_law_plain" "_law_plain" sPlain fP fdP) (bP : Binds K fdP ["_law_box_here", "_law_kind"] []) (gP : mg "_law_plain" = some (.ref fP))
    (GP : FnOk P w K mg base CX0 3 fP fdP ["_law_box_here", "_law_kind"] spPlain)
    (FB : Fun K "_law_body" "_law_body" sBody fB fdB) (bB : Binds K fdB ["_law_box_here", "_law_book_here", "_law_name", "_law_some", "_law_is_own"] []) (gB : mg "_law_body" = some (.ref fB))
    (GB : FnOk P w K mg base CX0 (5 + n + 1) fB fdB ["_law_box_here", "_law_book_here", "_law_name", "_law_some", "_law_is_own"] (spBody n)) :
    FnOk P w K mg base CX0 (5 + n + 2) f fd ["_law_box_here", "_law_book_here", "_law_name", "_law_some"] (spLoop n) := by
  refine F.ok scLoop (fun vs H Q E h => ?_) (fun cdv A outer s H vs Q E hr h => ?_)
  · obtain ⟨b, bk, Kn, Ln, so, a, name, S, reg, m, xs, ll, c, rfl, _⟩ := h
    rfl
  · obtain ⟨b, bk, Kn, Ln, so, a, name, S, reg, m, xs, ll, c, rfl, hb, hc, Sb, al, hbk, rk, hreg, hmn, wn, aso, hxs, lxs, ⟨kvb, hb1, hb2⟩, hL, hll, nll, q⟩ := h
    have hr1 : Room 1 _ := hr.mono (by omega)
    have hr2 : Room 2 _ := hr.mono (by omega)
    have hr3 : Room 3 _ := hr.mono (by omega)
    refine ⟨_, pss_cons (ps_set (i := 4) scLoop.nd rfl (.inl rfl) (pe_call GO hr2 (by rfl) gO FO.kp bO .nil pass0 (pa_cons (pv 0) (pa_cons (pe_callB (call_sortedD rfl) (by rfl) zs (by decide +kernel) (pa_cons (pe_dget (hu_of hr) (pv 1) pe_str (fun _ _ => rfl)) pa_nil)) pa_nil))))
      (pss_cons (ps_set (i := 5) scLoop.nd rfl (.inr rfl) (pe_ix ix_tup (pe_dget (hu_of hr) (pe_dget (hu_of hr) (pv 1) pe_str (fun _ _ => rfl)) (pv 4) (fun _ _ => rfl)) pe_int (fun _ _ => rfl)))
      (pss_cons (ps_set (i := 6) scLoop.nd rfl (.inr rfl) (pe_call GO hr2 (by rfl) gO FO.kp bO .nil pass0 (pa_cons (pv 0) (pa_cons (pe_callB (call_sortedD rfl) (by rfl) zs (by decide +kernel) (pa_cons (pv 5) pa_nil)) pa_nil))))
      (pss_cons (ps_setLc (i := 7) (own := [("_law_path", 10), ("_law_kind", 11)]) (g := gTup K 2 (gCons (gName 10) (gCons (gName 11) gNil))) rfl scLoop.nd rfl rfl (sw_true rfl rfl rfl (by decide +kernel))
          (pi_list (pv 3))
          (blkOk_by (N := ["_law_box_here", "_law_book_here", "_law_name", "_law_some", "_law_source", "_law_fields", "_law_left", "_law_fit", "_law_where", "_law_items", "_law_path", "_law_kind", "_law_field"]) (sc := defScope sLoop) (by decide +kernel))
          (fun _ _ _ _ _ => pg_tup rfl (pgs_cons (pg_name (i := 10) scLoop.nd rfl (.inl rfl)) (pgs_cons (pg_name (i := 11) scLoop.nd rfl (.inl rfl)) pgs_nil)))
          (fun _ _ _ _ _ => pts_one (pt_cmpR op_eq (pv 11) (pe_dget (hu_of hr) (pv 5) (pv 6) (fun _ _ => rfl)) (nomark _)))
          (fun _ _ _ _ _ => pe_tup (pa_cons pe_str (pa_cons (pv 10) pa_nil))))
      (pss_cons (ps_set (i := 8) scLoop.nd rfl (.inl rfl) (pe_tup (pa_cons (pv 6) (pa_cons (pe_call GO hr2 (by rfl) gO FO.kp bO .nil pass0 (pa_cons (pv 0) (pa_cons (pe_op op_cat (pv 7) (pe_lst (pa_cons (pe_call GP hr3 (by rfl) gP FP.kp bP .nil pass0
          (pa_cons (pv 0) (pa_cons (pe_dget (hu_of hr) (pv 5) (pv 6) (fun _ _ => rfl)) pa_nil))) pa_nil))) pa_nil))) pa_nil))))
      (pss_cons (ps_set (i := 8) scLoop.nd rfl (.inl rfl) (pe_ifExp (pt_cmpR op_eq (pe_call GT hr1 (by rfl) gT FT.kp bT .nil pass0 (pa_cons (pv 0) (pa_cons pe_int pa_nil))) pe_int (nomark _)) pe_non (pv 8)))
      (pss_cons (ps_lock (ps_setLc (i := 9) (own := [("_law_field", 12), ("_law_kind", 11)]) (g := gTup K 2 (gCons (gName 12) (gCons (gName 11) gNil))) rfl scLoop.nd rfl rfl (sw_true rfl rfl rfl (by decide +kernel))
          (pi_items (pv 5))
          (blkOk_by (N := ["_law_box_here", "_law_book_here", "_law_name", "_law_some", "_law_source", "_law_fields", "_law_left", "_law_fit", "_law_where", "_law_items", "_law_path", "_law_kind", "_law_field"]) (sc := defScope sLoop) (by decide +kernel))
          (fun _ _ _ _ _ => pg_tup rfl (pgs_cons (pg_name (i := 12) scLoop.nd rfl (.inl rfl)) (pgs_cons (pg_name (i := 11) scLoop.nd rfl (.inl rfl)) pgs_nil)))
          (fun _ _ _ _ _ => pts_nil)
          (fun _ _ _ _ _ => pe_tup (pa_cons (pe_tup (pa_cons pe_str (pa_cons (pv 12) pa_nil))) (pa_cons (pv 11) pa_nil)))))
      (pss_one (ps_ret (pe_tup (pa_cons pe_str (pa_cons pe_str (pa_cons (pv 4) (pa_cons (pv 8) (pa_cons (pv 2) (pa_cons (pe_call GB hr (by rfl) gB FB.kp bB .nil pass0 (pa_cons (pv 0) (pa_cons (pv 1) (pa_cons (pv 2)
        (pa_cons (pe_op op_cat (pe_op op_cat (pv 3) (pv 9)) (pv 9)) (pa_cons pe_bl pa_nil)))))) pa_nil))))))))))))))), ?_⟩
    have cb0 := cB_pos n
    have lk0 : LK b bk Kn Ln so S reg xs ll kvb c H := ⟨hb, al, hbk, aso, hxs, hb1, hL, hll⟩
    obtain ⟨ks, ek, wk, lks⟩ := keys_strs fun kv q => (hll.2 kv q).1
    have l1 : 1 ≤ ll.length := List.length_pos_iff.mpr nll
    have ll2 := hll.1
    -- source
    refine ⟨.ref b, rfl, .ref bk, rfl, bk, .ref Ln, rfl, hb2 ▸ DGet.k (k := .inr "lists") hb1, Ln, ll, ks, rfl, Rd.of hL, ek, by omega, fun ys p perm _ np => ?_⟩
    obtain ⟨s1, f1, _⟩ := grow (o := .lst (ys.map V.str)) np
    have ly := perm.length_eq
    refine ⟨b, p, _, c, rfl, hb.same s1, f1, hb.ne np, by rw [List.length_map]; omega, by rw [List.length_map]; omega, by omega, fun G1 v kp1 b1 hm => ?_⟩
    obtain ⟨src, hsrc, rfl⟩ := texts_mem hm
    obtain ⟨wsrc, v', mv⟩ := wk src (perm.mem_iff.mp hsrc)
    obtain ⟨lv, hlv, mlv⟩ := valV_mem mv
    have lk1 := (lk0.same s1).kept kp1 b1 Sb
    have k01 : Kept b H G1 := (sKept s1).trans kp1
    obtain ⟨t, f', r, fs, rows, elv, at_, af, fok, ar, rok, lr⟩ := (lk1.ll.2 _ mlv).2
    have elv : lv = .ref t := elv
    subst elv
    -- fields
    refine ⟨.ref bk, rfl, bk, .ref Ln, rfl, hb2 ▸ DGet.k (k := .inr "lists") lk1.hb, .str src, rfl, Ln, .ref t, rfl, hlv ▸ DGet.k (k := .inr src) lk1.hl, t, _, 0, .ref f', rfl, rfl, SqT.of at_.2, atI_nat (j := 0) rfl, ?_⟩
    -- left
    obtain ⟨fl1, fl2, fel⟩ := fok
    obtain ⟨ks2, ek2, wk2, lks2⟩ := keys_strs (kvs := fs) fun kv q => by
      obtain ⟨s, k, e, w, _⟩ := fel kv q
      exact ⟨s, by rw [e], w⟩
    refine ⟨.ref b, rfl, .ref f', rfl, f', fs, ks2, rfl, Rd.of af.2, ek2, by omega, fun ys2 p2 perm2 _ np2 => ?_⟩
    obtain ⟨s2, f2, _⟩ := grow (o := .lst (ys2.map V.str)) np2
    have ly2 := perm2.length_eq
    refine ⟨b, p2, _, _, rfl, lk1.bx.same s2, f2, lk1.bx.ne np2, by rw [List.length_map]; omega, by rw [List.length_map]; omega, by omega, fun G2 v kp2 b2 hm => ?_⟩
    obtain ⟨left, hleft, rfl⟩ := texts_mem hm
    obtain ⟨wleft, v2', mv2⟩ := wk2 left (perm2.mem_iff.mp hleft)
    obtain ⟨fv, hfv, mfv⟩ := valV_mem mv2
    obtain ⟨_, k, efv, _, kk⟩ := fel _ mfv
    have efv : fv = .str k := congrArg Prod.snd efv
    subst efv
    have lk2 := (lk1.same s2).kept kp2 b2 Sb
    have k12 : Kept b G1 G2 := (sKept s2).trans kp2
    have k02 := k01.trans k12
    have af2 : At S G2 f' (.dK fs) := tr_kept k12 Sb _ _ af
    -- fit
    refine ⟨.ref so, rfl, so, rfl, ⟨_, SqL.of lk2.so.2⟩, fun D nD => ?_⟩
    refine lc_list (K := K) (a := so) (xs := xs) (fun i G => Same G2 G ∧ ∃ ys, G D = some (.lst ys) ∧ ys.length ≤ i ∧ ∀ y ∈ ys, ∃ t p, y = .ref t ∧ G t = some (.tup [.str "path", p]) ∧ G2 t = none ∧ t ≠ D ∧ Path S G2 p)
      ⟨same_upd nD, [], upd_same, Nat.le_refl _, fun y h => (List.not_mem_nil h).elim⟩ (fun i G _ z => SqL.of (z.1 _ _ lk2.so.2)) ?_ ?_
    · rintro i x G hx ⟨sG, zs, DG, lz, hz⟩
      obtain ⟨t2, p3, k', rfl, at2, hp, _⟩ := lk2.xs x (List.mem_of_getElem? hx)
      have li : i < xs.length := (List.getElem?_eq_some_iff.mp hx).1
      refine ⟨t2, _, rfl, SqT.of (sG _ _ at2.2), rfl, _, _, rfl, _, _, rfl, rfl, rfl, ?_⟩
      refine ⟨.str k', rfl, .ref f', rfl, .str left, rfl, f', .str k, rfl, hfv ▸ DGet.k (k := .inr left) (sG _ _ af2.2), rfl, _, rfl, ?_⟩
      refine ite2 (fun _ => ?_) (fun _ => ?_)
      · refine ⟨p3, rfl, by show 2 ≤ sizeLine; decide, fun t3 nt3 => ?_⟩
        obtain ⟨s3, f3, _⟩ := grow (o := .tup [.str "path", p3]) nt3
        have D3 := s3 _ _ DG
        have nt3D : t3 ≠ D := (ne_of_none DG nt3).symm
        refine ⟨zs, D3, small1000 (by omega), same_lst (sTr sG s3) nD, zs ++ [.ref t3], upd_same, by rw [List.length_append, List.length_singleton]; omega, fun y h => ?_⟩
        rcases List.mem_append.mp h with h | h
        · obtain ⟨t4, p4, e, u1, u2, u3, u4⟩ := hz y h
          exact ⟨t4, p4, e, by rw [upd_ne u3]; exact s3 _ _ u1, u2, u3, u4⟩
        · rw [List.mem_singleton.mp h]
          exact ⟨t3, p3, rfl, by rw [upd_ne nt3D]; exact f3, same_free sG nt3, nt3D, hp⟩
      · exact ⟨sG, zs, DG, by omega, hz⟩
    rintro G3 ⟨s3, zs, D3, lz, hz⟩
    have lk3 := lk2.same s3
    have k03 := k02.trans (sKept s3)
    have af3 := tr_same s3 _ _ af2
    have hz3 : ∀ y ∈ zs, Side S G3 y := fun y h => by
      obtain ⟨t4, p4, e, u1, u2, u3, u4⟩ := hz y h
      exact ⟨t4, p4, e, .inl ⟨⟨lk2.al.new u2, u1⟩, u4.mono (tr_same s3)⟩⟩
    have nDb : D ≠ b := lk2.bx.ne nD
    -- where
    refine ⟨.str left, rfl, .ref b, rfl, .ref D, rfl, .ref b, rfl, .ref f', rfl, .str left, rfl, f', .str k, rfl, hfv ▸ DGet.k (k := .inr left) af3.2, b, k, _, rfl, lk3.bx, by omega, fun G4 t4 v4 kp4 b4 nt4 ft4 hv4 => ?_⟩
    have lk4 := lk3.kept kp4 b4 Sb
    have k04 := k03.trans kp4
    have af4 := tr_kept kp4 Sb _ _ af3
    have hz4 : ∀ y ∈ zs, Side S G4 y := fun y h => (hz3 y h).mono (tr_kept kp4 Sb)
    have D4 := kp4 _ _ D3 nDb
    have sd4 : Side S G4 (.ref t4) := ⟨t4, v4, rfl, .inr ⟨⟨lk3.al.new nt4, ft4⟩, hv4⟩⟩
    refine ⟨by show 1 ≤ sizeLine; decide, fun l5 nl5 => ?_⟩
    obtain ⟨s5, f5, _⟩ := grow (o := .lst [.ref t4]) nl5
    refine ⟨D, l5, zs, [.ref t4], rfl, rfl, s5 _ _ D4, f5, by have := tiny (n := zs.length + 1) (by omega); exact this, fun l6 nl6 => ?_⟩
    obtain ⟨s6, f6, _⟩ := grow (o := .lst (zs ++ [.ref t4])) nl6
    have s56 := sTr s5 s6
    refine ⟨b, l6, zs ++ [.ref t4], _, rfl, lk4.bx.same s56, f6, (lk4.bx.same s5).ne nl6, by rw [List.length_append]; show 1 ≤ zs.length + 1; omega, by rw [List.length_append]; show zs.length + 1 ≤ 1000; omega, by omega, fun G7 v kp7 b7 hm => ?_⟩
    have lk7 := (lk4.same s56).kept kp7 b7 Sb
    have k47 : Kept b G4 G7 := (sKept s56).trans kp7
    have k07 := k04.trans k47
    have af7 := tr_kept k47 Sb _ _ af4
    have sd7 : Side S G7 v := by
      rcases List.mem_append.mp hm with h | h
      · exact (hz4 v h).mono (tr_kept k47 Sb)
      · rw [List.mem_singleton.mp h]
        exact sd4.mono (tr_kept k47 Sb)
    refine ⟨by show 2 ≤ sizeLine; decide, fun tw ntw => ?_⟩
    obtain ⟨s8, f8, _⟩ := grow (o := .tup [.str left, v]) ntw
    have lk8 := lk7.same s8
    have wh8 : Wh S (upd G7 tw (.tup [.str left, v])) (.ref tw) := .inr ⟨tw, left, v, rfl, ⟨lk7.al.new ntw, f8⟩, wleft, sd7.mono (tr_same s8)⟩
    have k08 := k07.trans (sKept s8)
    have af8 := tr_same s8 _ _ af7
    generalize upd G7 tw (.tup [.str left, v]) = G8 at lk8 wh8 k08 af8 ⊢
    refine ⟨.ref b, rfl, b, 2, _, rfl, lk8.bx, by decide, by decide, by omega, fun G9 r kp9 b9 r0 r1 => ⟨rfl, _, rfl, ?_⟩⟩
    have lk9 := lk8.kept kp9 b9 Sb
    have k09 := k08.trans kp9
    have af9 := tr_kept kp9 Sb _ _ af8
    have wh9 := wh8.mono (tr_kept kp9 Sb)
    refine ite2 (fun _ => ?_) (fun _ => ?_)
    · obtain ⟨wv, hwv⟩ : ∃ wv, wv = V.non := ⟨_, rfl⟩
      have whv : Wh S G9 wv := .inl hwv
      show tC V.non _ _ _
      rw [← hwv]
      -- items
      have nfb : f' ≠ b := by rintro rfl; exact af9.1 Sb
      refine ⟨f', .dK fs, af9.2, trivial, fun od => ?_⟩
      refine ⟨.ref f', rfl, f', od, fs, rfl, upd_same, fun D2 nD2 => ?_⟩
      have nD2f : D2 ≠ f' := by
        rintro rfl
        rw [upd_same] at nD2
        cases nD2
      have nD29 : G9 D2 = none := by
        rw [upd_ne nD2f] at nD2
        exact nD2
      refine lc_it (walk_items (d := f') (o := od) (kvs := fs)) (fun j G => (∀ z o, G9 z = some o → z ≠ f' → G z = some o) ∧ G f' = some (.frz od (.dK fs)) ∧ ∃ ys, G D2 = some (.lst ys) ∧ ys.length ≤ j ∧
        ∀ y ∈ ys, ∃ t1 t2 r k, y = .ref t1 ∧ G t1 = some (.tup [.ref t2, .str k]) ∧ G t2 = some (.tup [.str "it", .str r]) ∧ G9 t1 = none ∧ G9 t2 = none ∧ t1 ≠ D2 ∧ t2 ≠ D2 ∧ t1 ≠ f' ∧ t2 ≠ f' ∧ Wd r ∧ Kd k) ?_ (fun j G _ z => z.2.1) ?_ ?_
      · refine ⟨fun z o e n => ?_, ?_, [], upd_same, Nat.le_refl _, fun y h => (List.not_mem_nil h).elim⟩
        · rw [upd_ne (ne_of_none e nD29), upd_ne n]
          exact e
        · rw [upd_ne nD2f.symm, upd_same]
      · rintro j x2 G10 G11 hj ⟨k10, a10, ys, D10, lys, hys⟩ ⟨T2, x3, y3, rfl, nT2, rfl, e3, e4⟩
        obtain ⟨kv2, hkv2⟩ : ∃ kv, fs[j]? = some kv := ⟨_, List.getElem?_eq_getElem hj⟩
        replace e3 : (fs[j]?.map fun kv => kV kv.1) = some x3 := e3
        replace e4 : fs[j]?.map Prod.snd = some y3 := e4
        rw [hkv2] at e3 e4
        cases e3
        cases e4
        obtain ⟨r5, k5, e5, wr, hk5⟩ := fel kv2 (List.mem_of_getElem? hkv2)
        subst e5
        obtain ⟨sT2, fT2, _⟩ := grow (o := .tup [kV (.inr r5), .str k5]) nT2
        have k11 : ∀ z o, G9 z = some o → z ≠ f' → (upd G10 T2 (.tup [kV (.inr r5), .str k5])) z = some o := fun z o e n => sT2 _ _ (k10 z o e n)
        have a11 := sT2 _ _ a10
        have D11 := sT2 _ _ D10
        refine ⟨T2, _, rfl, SqT.of fT2, rfl, _, _, rfl, _, _, rfl, rfl, rfl, ?_⟩
        refine ⟨.str r5, rfl, by show 2 ≤ sizeLine; decide, fun t2 nt2 => ?_⟩
        obtain ⟨sa, fa, _⟩ := grow (o := .tup [.str "it", .str r5]) nt2
        refine ⟨.str k5, rfl, by show 2 ≤ sizeLine; decide, fun t1 nt1 => ?_⟩
        obtain ⟨sb, fb, _⟩ := grow (o := .tup [.ref t2, .str k5]) nt1
        have sab := sTr sa sb
        have D12 := sab _ _ D11
        have back : ∀ {z : Addr}, (upd G10 T2 (.tup [kV (.inr r5), .str k5])) z = none → G9 z = none ∧ z ≠ D2 ∧ z ≠ f' := by
          intro z hz
          have za : z ≠ f' := by
            rintro rfl
            rw [a11] at hz
            cases hz
          refine ⟨?_, (ne_of_none D11 hz).symm, za⟩
          cases e : G9 z with
          | none => rfl
          | some o =>
            rw [k11 _ _ e za] at hz
            cases hz
        obtain ⟨p2', p2D, p2a⟩ := back nt2
        obtain ⟨p1', p1D, p1a⟩ := back (same_free sa nt1)
        refine ⟨ys, D12, small1000 (by omega), ?_, ?_, ys ++ [.ref t1], upd_same, by rw [List.length_append, List.length_singleton]; omega, ?_⟩
        · intro z o e n
          rw [upd_ne (ne_of_none e nD29)]
          exact sab _ _ (k11 z o e n)
        · rw [upd_ne nD2f.symm]
          exact sab _ _ a11
        · intro y h
          rcases List.mem_append.mp h with h | h
          · obtain ⟨q1, q2, r', k', e, u1, u2, v1, v2, v3, v4, rest⟩ := hys y h
            exact ⟨q1, q2, r', k', e, by rw [upd_ne v3]; exact sab _ _ (sT2 _ _ u1), by rw [upd_ne v4]; exact sab _ _ (sT2 _ _ u2), v1, v2, v3, v4, rest⟩
          · rw [List.mem_singleton.mp h]
            exact ⟨t1, t2, r5, k5, rfl, by rw [upd_ne p1D]; exact fb, by rw [upd_ne p2D]; exact sb _ _ fa, p1', p2', p1D, p2D, p1a, p2a, wr, hk5⟩
      rintro G10 ⟨k10, a10, ys, D10, lys, hys⟩
      refine ⟨a10, ?_⟩
      have s9 : Same G9 (upd G10 f' (.dK fs)) := fun z o e => by
        by_cases zf : z = f'
        · subst zf
          rw [upd_same, ← af9.2]
          exact e
        · rw [upd_ne zf]
          exact k10 z o e zf
      have D11 : (upd G10 f' (.dK fs)) D2 = some (.lst ys) := by
        rw [upd_ne nD2f]
        exact D10
      have hy11 : ∀ y ∈ ys, Some S (upd G10 f' (.dK fs)) y := fun y h => by
        obtain ⟨t1, t2, r5, k5, rfl, u1, u2, v1, v2, v3, v4, v5, v6, wr, hk5⟩ := hys y h
        exact ⟨t1, .ref t2, k5, rfl, ⟨lk9.al.new v1, by rw [upd_ne v5]; exact u1⟩, .two t2 "it" r5 ⟨lk9.al.new v2, by rw [upd_ne v6]; exact u2⟩ (wd_of (by decide +kernel)) wr, hk5⟩
      have lk11 := lk9.same s9
      have k011 := k09.trans (sKept s9)
      have whv11 := whv.mono (tr_same (S := S) s9)
      generalize upd G10 f' (.dK fs) = G11 at s9 D11 hy11 lk11 k011 whv11 ⊢
      refine ⟨.str src, rfl, wv, rfl, .str name, rfl, .ref b, rfl, .ref bk, rfl, .str name, rfl, .ref so, rfl, .ref D2, rfl, so, D2, xs, ys, rfl, rfl, lk11.so.2, D11, by have := tiny (n := xs.length + ys.length) (by omega); exact this, fun l1 nl1 => ?_⟩
      obtain ⟨s12, f12, _⟩ := grow (o := .lst (xs ++ ys)) nl1
      refine ⟨.ref D2, rfl, l1, D2, xs ++ ys, ys, rfl, rfl, f12, s12 _ _ D11, by rw [List.length_append]; have := tiny (n := xs.length + ys.length + ys.length) (by omega); exact this, fun l2 nl2 => ?_⟩
      obtain ⟨s13, f13, _⟩ := grow (o := .lst (xs ++ ys ++ ys)) nl2
      have s1213 := sTr s12 s13
      have lk13 := lk11.same s1213
      have hy13 : ∀ y ∈ ys, Some S _ y := fun y h => (hy11 y h).mono (tr_same s1213)
      refine ⟨b, bk, Kn, l2, a, name, false, S, reg, m, xs ++ ys ++ ys, _, rfl, lk13.bx, by omega, Sb, lk13.al, lk13.bo, rk, hreg, hmn, ⟨(lk11.al.same s12).new nl2, f13⟩, ?_, by rw [List.length_append, List.length_append]; omega, fun G14 d kp14 b14 hbd nd => ?_⟩
      · intro x h
        rcases List.mem_append.mp h with h | h
        · rcases List.mem_append.mp h with h | h
          · exact lk13.xs x h
          · exact hy13 x h
        · exact hy13 x h
      refine ⟨by show 6 ≤ sizeLine; decide, fun t15 nt15 => ?_⟩
      obtain ⟨s15, f15, _⟩ := grow (o := .tup [.str "loop", .str "it", .str src, wv, .str name, .ref d]) nt15
      have al14 := (lk13.kept kp14 b14 Sb).al
      have k1114 : Kept b G11 G14 := (sKept s1213).trans kp14
      have tr : Tr S G11 S (upd G14 t15 (.tup [.str "loop", .str "it", .str src, wv, .str name, .ref d])) := (tr_kept k1114 Sb).tr (tr_same s15)
      exact q _ _ ((k011.trans k1114).trans (sKept s15)) ((b14.same s15).le (by omega)) (.loop n t15 d name src wv ⟨al14.new nt15, f15⟩ wn wsrc (whv11.mono tr) (BD.mono (tr_same s15) hbd))
    · refine ⟨.ref tw, rfl, ?_⟩
      obtain ⟨wv, hwv⟩ : ∃ wv, wv = V.ref tw := ⟨_, rfl⟩
      have whv : Wh S G9 wv := by rw [hwv]; exact wh9
      rw [← hwv]
      -- items
      have nfb : f' ≠ b := by rintro rfl; exact af9.1 Sb
      refine ⟨f', .dK fs, af9.2, trivial, fun od => ?_⟩
      refine ⟨.ref f', rfl, f', od, fs, rfl, upd_same, fun D2 nD2 => ?_⟩
      have nD2f : D2 ≠ f' := by
        rintro rfl
        rw [upd_same] at nD2
        cases nD2
      have nD29 : G9 D2 = none := by
        rw [upd_ne nD2f] at nD2
        exact nD2
      refine lc_it (walk_items (d := f') (o := od) (kvs := fs)) (fun j G => (∀ z o, G9 z = some o → z ≠ f' → G z = some o) ∧ G f' = some (.frz od (.dK fs)) ∧ ∃ ys, G D2 = some (.lst ys) ∧ ys.length ≤ j ∧
        ∀ y ∈ ys, ∃ t1 t2 r k, y = .ref t1 ∧ G t1 = some (.tup [.ref t2, .str k]) ∧ G t2 = some (.tup [.str "it", .str r]) ∧ G9 t1 = none ∧ G9 t2 = none ∧ t1 ≠ D2 ∧ t2 ≠ D2 ∧ t1 ≠ f' ∧ t2 ≠ f' ∧ Wd r ∧ Kd k) ?_ (fun j G _ z => z.2.1) ?_ ?_
      · refine ⟨fun z o e n => ?_, ?_, [], upd_same, Nat.le_refl _, fun y h => (List.not_mem_nil h).elim⟩
        · rw [upd_ne (ne_of_none e nD29), upd_ne n]
          exact e
        · rw [upd_ne nD2f.symm, upd_same]
      · rintro j x2 G10 G11 hj ⟨k10, a10, ys, D10, lys, hys⟩ ⟨T2, x3, y3, rfl, nT2, rfl, e3, e4⟩
        obtain ⟨kv2, hkv2⟩ : ∃ kv, fs[j]? = some kv := ⟨_, List.getElem?_eq_getElem hj⟩
        replace e3 : (fs[j]?.map fun kv => kV kv.1) = some x3 := e3
        replace e4 : fs[j]?.map Prod.snd = some y3 := e4
        rw [hkv2] at e3 e4
        cases e3
        cases e4
        obtain ⟨r5, k5, e5, wr, hk5⟩ := fel kv2 (List.mem_of_getElem? hkv2)
        subst e5
        obtain ⟨sT2, fT2, _⟩ := grow (o := .tup [kV (.inr r5), .str k5]) nT2
        have k11 : ∀ z o, G9 z = some o → z ≠ f' → (upd G10 T2 (.tup [kV (.inr r5), .str k5])) z = some o := fun z o e n => sT2 _ _ (k10 z o e n)
        have a11 := sT2 _ _ a10
        have D11 := sT2 _ _ D10
        refine ⟨T2, _, rfl, SqT.of fT2, rfl, _, _, rfl, _, _, rfl, rfl, rfl, ?_⟩
        refine ⟨.str r5, rfl, by show 2 ≤ sizeLine; decide, fun t2 nt2 => ?_⟩
        obtain ⟨sa, fa, _⟩ := grow (o := .tup [.str "it", .str r5]) nt2
        refine ⟨.str k5, rfl, by show 2 ≤ sizeLine; decide, fun t1 nt1 => ?_⟩
        obtain ⟨sb, fb, _⟩ := grow (o := .tup [.ref t2, .str k5]) nt1
        have sab := sTr sa sb
        have D12 := sab _ _ D11
        have back : ∀ {z : Addr}, (upd G10 T2 (.tup [kV (.inr r5), .str k5])) z = none → G9 z = none ∧ z ≠ D2 ∧ z ≠ f' := by
          intro z hz
          have za : z ≠ f' := by
            rintro rfl
            rw [a11] at hz
            cases hz
          refine ⟨?_, (ne_of_none D11 hz).symm, za⟩
          cases e : G9 z with
          | none => rfl
          | some o =>
            rw [k11 _ _ e za] at hz
            cases hz
        obtain ⟨p2', p2D, p2a⟩ := back nt2
        obtain ⟨p1', p1D, p1a⟩ := back (same_free sa nt1)
        refine ⟨ys, D12, small1000 (by omega), ?_, ?_, ys ++ [.ref t1], upd_same, by rw [List.length_append, List.length_singleton]; omega, ?_⟩
        · intro z o e n
          rw [upd_ne (ne_of_none e nD29)]
          exact sab _ _ (k11 z o e n)
        · rw [upd_ne nD2f.symm]
          exact sab _ _ a11
        · intro y h
          rcases List.mem_append.mp h with h | h
          · obtain ⟨q1, q2, r', k', e, u1, u2, v1, v2, v3, v4, rest⟩ := hys y h
            exact ⟨q1, q2, r', k', e, by rw [upd_ne v3]; exact sab _ _ (sT2 _ _ u1), by rw [upd_ne v4]; exact sab _ _ (sT2 _ _ u2), v1, v2, v3, v4, rest⟩
          · rw [List.mem_singleton.mp h]
            exact ⟨t1, t2, r5, k5, rfl, by rw [upd_ne p1D]; exact fb, by rw [upd_ne p2D]; exact sb _ _ fa, p1', p2', p1D, p2D, p1a, p2a, wr, hk5⟩
      rintro G10 ⟨k10, a10, ys, D10, lys, hys⟩
      refine ⟨a10, ?_⟩
      have s9 : Same G9 (upd G10 f' (.dK fs)) := fun z o e => by
        by_cases zf : z = f'
        · subst zf
          rw [upd_same, ← af9.2]
          exact e
        · rw [upd_ne zf]
          exact k10 z o e zf
      have D11 : (upd G10 f' (.dK fs)) D2 = some (.lst ys) := by
        rw [upd_ne nD2f]
        exact D10
      have hy11 : ∀ y ∈ ys, Some S (upd G10 f' (.dK fs)) y := fun y h => by
        obtain ⟨t1, t2, r5, k5, rfl, u1, u2, v1, v2, v3, v4, v5, v6, wr, hk5⟩ := hys y h
        exact ⟨t1, .ref t2, k5, rfl, ⟨lk9.al.new v1, by rw [upd_ne v5]; exact u1⟩, .two t2 "it" r5 ⟨lk9.al.new v2, by rw [upd_ne v6]; exact u2⟩ (wd_of (by decide +kernel)) wr, hk5⟩
      have lk11 := lk9.same s9
      have k011 := k09.trans (sKept s9)
      have whv11 := whv.mono (tr_same (S := S) s9)
      generalize upd G10 f' (.dK fs) = G11 at s9 D11 hy11 lk11 k011 whv11 ⊢
      refine ⟨.str src, rfl, wv, rfl, .str name, rfl, .ref b, rfl, .ref bk, rfl, .str name, rfl, .ref so, rfl, .ref D2, rfl, so, D2, xs, ys, rfl, rfl, lk11.so.2, D11, by have := tiny (n := xs.length + ys.length) (by omega); exact this, fun l1 nl1 => ?_⟩
      obtain ⟨s12, f12, _⟩ := grow (o := .lst (xs ++ ys)) nl1
      refine ⟨.ref D2, rfl, l1, D2, xs ++ ys, ys, rfl, rfl, f12, s12 _ _ D11, by rw [List.length_append]; have := tiny (n := xs.length + ys.length + ys.length) (by omega); exact this, fun l2 nl2 => ?_⟩
      obtain ⟨s13, f13, _⟩ := grow (o := .lst (xs ++ ys ++ ys)) nl2
      have s1213 := sTr s12 s13
      have lk13 := lk11.same s1213
      have hy13 : ∀ y ∈ ys, Some S _ y := fun y h => (hy11 y h).mono (tr_same s1213)
      refine ⟨b, bk, Kn, l2, a, name, false, S, reg, m, xs ++ ys ++ ys, _, rfl, lk13.bx, by omega, Sb, lk13.al, lk13.bo, rk, hreg, hmn, ⟨(lk11.al.same s12).new nl2, f13⟩, ?_, by rw [List.length_append, List.length_append]; omega, fun G14 d kp14 b14 hbd nd => ?_⟩
      · intro x h
        rcases List.mem_append.mp h with h | h
        · rcases List.mem_append.mp h with h | h
          · exact lk13.xs x h
          · exact hy13 x h
        · exact hy13 x h
      refine ⟨by show 6 ≤ sizeLine; decide, fun t15 nt15 => ?_⟩
      obtain ⟨s15, f15, _⟩ := grow (o := .tup [.str "loop", .str "it", .str src, wv, .str name, .ref d]) nt15
      have al14 := (lk13.kept kp14 b14 Sb).al
      have k1114 : Kept b G11 G14 := (sKept s1213).trans kp14
      have tr : Tr S G11 S (upd G14 t15 (.tup [.str "loop", .str "it", .str src, wv, .str name, .ref d])) := (tr_kept k1114 Sb).tr (tr_same s15)
      exact q _ _ ((k011.trans k1114).trans (sKept s15)) ((b14.same s15).le (by omega)) (.loop n t15 d name src wv ⟨al14.new nt15, f15⟩ wn wsrc (whv11.mono tr) (BD.mono (tr_same s15) hbd))
end
end K2

set_option maxHeartbeats 4000000
/-! Drawn entries of a declaring body. -/
namespace K2
open PySem PySem.Spec PyProof.Rows L2

theorem putK_new {kvs : List (Key × V)} {k : Key} {v : V} (h : ∀ kv ∈ kvs, kv.1 ≠ k) : putK kvs k v = kvs ++ [(k, v)] := by
  unfold putK
  rw [if_neg]
  rw [List.any_eq_true]
  rintro ⟨p, hp, e⟩
  exact h p hp (of_decide_eq_true e)
theorem lock_same {G G' : Hp} {d : Addr} {o : HO} (hd : G d = some o) (k : ∀ z u, G z = some u → z ≠ d → G' z = some u) : Same G (upd G' d o) := fun z u e => by
  by_cases zd : z = d
  · subst zd
    rw [upd_same, ← hd]
    exact e
  · rw [upd_ne zd]
    exact k z u e zd
/-- a kind that is no text -/
def isTx : V → Bool
  | .str _ => false
  | _ => true
def txs (ks : List (Key × V)) : List Bool := ks.map fun kv => isTx kv.2
def flds : List Str := ["a", "b", "c", "d", "e", "f", "g"]
theorem flds_wd {s : Str} (h : s ∈ flds) : Wd s := wd_of ((show ∀ s ∈ flds, wdB s = true by decide +kernel) s h)
theorem flds_new {i : Nat} {s : Str} (h : flds[i]? = some s) : s ∉ flds.take i := by
  have hi : i < 7 := (List.getElem?_eq_some_iff.mp h).1
  have := (show ∀ i < 7, flds.getD i "" ∉ flds.take i by decide +kernel) i hi
  rw [List.getD_eq_getElem?_getD, h] at this
  exact this
theorem keys_new {ks : List (Key × V)} {i : Nat} {s : Str} (e : ks.map Prod.fst = (flds.take i).map Sum.inr) (h : flds[i]? = some s) : ∀ kv ∈ ks, kv.1 ≠ Sum.inr s := by
  intro kv hm z
  have m : kv.1 ∈ ks.map Prod.fst := List.mem_map_of_mem hm
  rw [e, z] at m
  obtain ⟨x, hx, ex⟩ := List.mem_map.mp m
  cases ex
  exact flds_new h hx
theorem keys_len {ks : List (Key × V)} {i : Nat} (e : ks.map Prod.fst = (flds.take i).map Sum.inr) : ks.length ≤ i ∧ ks.length ≤ 7 := by
  have := congrArg List.length e
  rw [List.length_map, List.length_map, List.length_take] at this
  have : flds.length = 7 := rfl
  omega
theorem keys_step {ks : List (Key × V)} {i : Nat} {s : Str} {v : V} (e : ks.map Prod.fst = (flds.take i).map Sum.inr) (h : flds[i]? = some s) : (ks ++ [((Sum.inr s : Key), v)]).map Prod.fst = (flds.take (i + 1)).map Sum.inr := by
  rw [List.map_append, e, List.take_add_one, h, List.map_append]
  rfl

/-- what the def knows all the while -/
structure EK (b bk Kn Tn Ln : Addr) (S : Addr → Prop) (reg : Reg) (tt ll kvb : List (Key × V)) (c : Int) (G : Hp) : Prop where
  bx : Box c G b
  al : Al S G
  bo : BookK S G reg bk Kn
  hb : G bk = some (.dK kvb)
  ht : G Tn = some (.dK tt)
  hl : G Ln = some (.dK ll)
  ll : ListsOk S G ll
section
variable {b bk Kn Tn Ln : Addr} {S : Addr → Prop} {reg : Reg} {tt ll kvb : List (Key × V)} {c c' : Int} {G G' : Hp}
theorem EK.same (x : EK b bk Kn Tn Ln S reg tt ll kvb c G) (s : Same G G') : EK b bk Kn Tn Ln S reg tt ll kvb c G' :=
  ⟨x.bx.same s, x.al.same s, x.bo.same s, s _ _ x.hb, s _ _ x.ht, s _ _ x.hl, x.ll.mono (tr_same s)⟩
theorem EK.kept (x : EK b bk Kn Tn Ln S reg tt ll kvb c G) (k : Kept b G G') (h : Box c' G' b) (Sb : S b) : EK b bk Kn Tn Ln S reg tt ll kvb c' G' :=
  ⟨h, x.al.kept k h.some, x.bo.kept k x.bx Sb, rawK (S := S) k x.bx x.hb, rawK (S := S) k x.bx x.ht, rawK (S := S) k x.bx x.hl, x.ll.mono (tr_kept k Sb)⟩
theorem EK.put {m : Addr} {o : HO} (x : EK b bk Kn Tn Ln S reg tt ll kvb c G) (Sm : S m) (n1 : b ≠ m) (n2 : bk ≠ m) (n3 : Kn ≠ m) (n4 : Tn ≠ m) (n5 : Ln ≠ m) : EK b bk Kn Tn Ln S reg tt ll kvb c (upd G m o) :=
  ⟨x.bx.off n1.symm, x.al.upd, x.bo.mono (tr_upd Sm) (upd_ne n2) (upd_ne n3), by rw [upd_ne n2]; exact x.hb, by rw [upd_ne n4]; exact x.ht, by rw [upd_ne n5]; exact x.hl, x.ll.mono (tr_upd Sm)⟩
theorem EK.le (x : EK b bk Kn Tn Ln S reg tt ll kvb c G) (h : c ≤ c') : EK b bk Kn Tn Ln S reg tt ll kvb c' G := ⟨x.bx.le h, x.al, x.bo, x.hb, x.ht, x.hl, x.ll⟩
end

/-- what is found so far -/
structure FK (S : Addr → Prop) (reg : Reg) (n r k : Nat) (dF dK : Addr) (fs ks : List (Key × V)) (i : Nat) (G : Hp) : Prop where
  hF : G dF = some (.dK fs)
  hK : G dK = some (.dK ks)
  fk : fs.map Prod.fst = (flds.take i).map Sum.inr
  kk : ks.map Prod.fst = (flds.take i).map Sum.inr
  ok : KindsOk S G reg r ks
  ct : (txs ks).count true ≤ k
  en : ∀ (j : Nat) kv x, fs[j]? = some kv → (txs ks)[j]? = some x → ∃ t o y, kv.2 = .ref t ∧ At S G t (.tup [.bl o, y]) ∧ NV S G n y ∧ (x = false → VV S G y)
section
variable {S : Addr → Prop} {reg : Reg} {n r k : Nat} {dF dK b : Addr} {fs ks : List (Key × V)} {i : Nat} {G G' : Hp}
theorem FK.mono (x : FK S reg n r k dF dK fs ks i G) (h : Tr S G S G') (h1 : G' dF = G dF) (h2 : G' dK = G dK) : FK S reg n r k dF dK fs ks i G' :=
  ⟨h1.trans x.hF, h2.trans x.hK, x.fk, x.kk, x.ok.mono h, x.ct, fun j kv z e1 e2 => by
    obtain ⟨t, o, y, a1, a2, a3, a4⟩ := x.en j kv z e1 e2
    exact ⟨t, o, y, a1, h _ _ a2, a3.mono h, fun q => (a4 q).mono h⟩⟩
theorem FK.same (x : FK S reg n r k dF dK fs ks i G) (s : Same G G') : FK S reg n r k dF dK fs ks i G' :=
  x.mono (tr_same s) ((s _ _ x.hF).trans x.hF.symm) ((s _ _ x.hK).trans x.hK.symm)
theorem FK.kept (x : FK S reg n r k dF dK fs ks i G) (kp : Kept b G G') (Sb : S b) (nF : dF ≠ b) (nK : dK ≠ b) : FK S reg n r k dF dK fs ks i G' :=
  x.mono (tr_kept kp Sb) ((kp _ _ x.hF nF).trans x.hF.symm) ((kp _ _ x.hK nK).trans x.hK.symm)
theorem FK.put {s : Str} {v y : V} {t : Addr} {o : Bool} (x : FK S reg n r k dF dK fs ks i G) (hi : flds[i]? = some s) (SF : S dF) (SK : S dK) (ne : dF ≠ dK) (kd : KindOk S G reg r v) (at_ : At S G t (.tup [.bl o, y])) (nv : NV S G n y)
    (vv : isTx v = false → VV S G y) (ct : (txs ks).count true + (if isTx v = true then 1 else 0) ≤ k) :
    FK S reg n r k dF dK (putK fs (.inr s) (.ref t)) (putK ks (.inr s) v) (i + 1) (upd (upd G dK (.dK (putK ks (.inr s) v))) dF (.dK (putK fs (.inr s) (.ref t)))) := by
  have tr : Tr S G S (upd (upd G dK (.dK (putK ks (.inr s) v))) dF (.dK (putK fs (.inr s) (.ref t)))) := (tr_upd SK).tr (tr_upd SF)
  have eF := putK_new (v := .ref t) (keys_new x.fk hi)
  have eK := putK_new (v := v) (keys_new x.kk hi)
  have lens : fs.length = ks.length := by
    have h1 := congrArg List.length x.fk
    have h2 := congrArg List.length x.kk
    rw [List.length_map] at h1 h2
    omega
  refine ⟨upd_same, by rw [upd_ne ne.symm, upd_same], by rw [eF]; exact keys_step x.fk hi, by rw [eK]; exact keys_step x.kk hi, fun kv h => ?_, ?_, fun j kv z e1 e2 => ?_⟩
  · rw [eK] at h
    rcases List.mem_append.mp h with h | h
    · exact ⟨(x.ok kv h).1, (x.ok kv h).2.mono tr⟩
    · rw [List.mem_singleton.mp h]
      exact ⟨⟨s, rfl, flds_wd (List.mem_of_getElem? hi)⟩, kd.mono tr⟩
  · rw [eK]
    unfold txs at ct ⊢
    rw [List.map_append, List.count_append]
    show _ + List.count true [isTx v] ≤ k
    cases hv : isTx v with
    | true =>
      rw [hv, if_pos rfl] at ct
      exact ct
    | false =>
      rw [hv, if_neg (by decide)] at ct
      exact ct
  · rw [eF] at e1
    have tl : (txs ks).length = fs.length := by unfold txs; rw [List.length_map, lens]
    have e2' : (txs ks ++ [isTx v])[j]? = some z := by
      rw [eK] at e2
      unfold txs at e2 ⊢
      rw [List.map_append] at e2
      exact e2
    by_cases c : j < fs.length
    · rw [List.getElem?_append_left c] at e1
      rw [List.getElem?_append_left (by omega)] at e2'
      obtain ⟨t', o', y', a1, a2, a3, a4⟩ := x.en j kv z e1 e2'
      exact ⟨t', o', y', a1, tr _ _ a2, a3.mono tr, fun q => (a4 q).mono tr⟩
    · have lj := (List.getElem?_eq_some_iff.mp e1).1
      rw [List.length_append, List.length_singleton] at lj
      have ej : j = fs.length := by omega
      subst ej
      rw [List.getElem?_append_right (Nat.le_refl _), Nat.sub_self] at e1
      rw [List.getElem?_append_right (by omega), tl, Nat.sub_self] at e2'
      have e1 : kv = (Sum.inr s, V.ref t) := (Option.some.inj e1).symm
      have e2' : z = isTx v := (Option.some.inj e2').symm
      subst e1
      exact ⟨t, o, y, rfl, tr _ _ at_, nv.mono tr, fun q => (vv (by rw [← e2']; exact q)).mono tr⟩
end

def cE (n : Nat) : Int := 2 + 6 * (cB n + 60)
/-- the templates that are known -/
def TplK (reg : Reg) (n r : Nat) (tt : List (Key × V)) : Prop := tt.length ≤ 4 ∧ ∀ kv ∈ tt, ∃ s, kv.1 = .inr s ∧ (s = "" ∨ (Wd s ∧ ∃ a m, reg s = some (a, m) ∧ m < r ∧ m ≤ n))

theorem scEntries : FnScope ["_law_box_here", "_law_book_here", "_law_most", "_law_found", "_law_kinds", "_law_field", "_law_some", "_law_sort", "_law_is_out", "_law_name", "_law_names", "_law_kind", "_law_inner", "_law_body_here"] ["_law_box_here", "_law_book_here", "_law_most"] (defScope sEntries) := ⟨rfl, rfl, rfl, by decide +kernel, rfl, by decide +kernel, by decide +kernel⟩

def spEntries (n : Nat) : Sp := fun vs H Q _ => ∃ (b bk Kn Tn Ln : Addr) (S : Addr → Prop) (reg : Reg) (r : Nat) (most : Int) (k : Nat) (tt ll kvb : List (Key × V)) (c : Int),
  vs = [.ref b, .ref bk, .int most] ∧ EK b bk Kn Tn Ln S reg tt ll kvb c H ∧ c + cE n ≤ 90000 ∧ S b ∧ Ranks reg bk Kn ∧ 1 ≤ most ∧ most ≤ 6 ∧ (k : Int) = (1 + if 4 < most then 1 else 0) ∧
  valV kvb (.inr "lists") = some (.ref Ln) ∧ valV kvb (.inr "templates") = some (.ref Tn) ∧ bk ≠ Tn ∧ TplK reg n r tt ∧
  ∀ H' t d e ks, Kept b H H' → Box (c + cE n) H' b → H t = none → H d = none → H e = none → H' t = some (.tup [.ref d, .ref e]) → DB S H' n k d → H' e = some (.dK ks) → (ks.length : Int) ≤ most → KindsOk S H' reg r ks → Q (.ref t) H'

theorem strs_dp {K : PySem.W.Frag} {H : Hp} : ∀ {zs : List Str}, (∀ y ∈ zs, Wd y) → ∃ ds, DpAll K H (zs.map V.str) ds ∧ ds.length = zs.length ∧ PyData.canLayAll0 ds = true ∧ PyData.depthAll ds ≤ 1
  | [], _ => ⟨[], .nil, rfl, rfl, Nat.zero_le _⟩
  | x :: r, h => by
    obtain ⟨ds, a', l', b', c'⟩ := strs_dp (K := K) (H := H) (zs := r) fun y q => h y (List.mem_cons_of_mem _ q)
    have ok : PyData.strOk x = true := by
      have w := h x List.mem_cons_self
      obtain ⟨⟨l⟩⟩ := x
      exact str_ok (l := l) (fun c q => let_lt' (w.2.1 c q))
    refine ⟨.str x :: ds, .cons (.str _) a', by rw [List.length_cons, l', List.length_cons], ?_, ?_⟩
    · rw [PyData.canLayAll0, b']
      simp [PyData.canLay0, ok]
    · simp only [PyData.depthAll, PyData.depth]
      omega
theorem shaped_strs {ds : List PyData} (h : PyData.canLayAll0 ds = true) (d : PyData.depthAll ds ≤ 1) : SeqAt.shaped (.list ds) = true := by
  unfold SeqAt.shaped
  rw [PyData.canLay0, h, Bool.true_and]
  exact decide_eq_true (by simp only [PyData.depth]; omega)
theorem ifS_el {tt : TT} {ta tb : TS} {D : Ends} {σ : L2.St} {G : Hp} (I : Hp → Prop) (hE : ∀ G5, I G5 → tb D σ G5) (h : (∀ G5, I G5 → tb D σ G5) → tt σ G (fun b H1 => if b = true then ta D σ H1 else tb D σ H1)) : tIfS tt ta tb D σ G := h hE
theorem ifS_th {tt : TT} {ta tb : TS} {D : Ends} {σ : L2.St} {G : Hp} (I : Hp → Prop) (hE : ∀ G5, I G5 → ta D σ G5) (h : (∀ G5, I G5 → ta D σ G5) → tt σ G (fun b H1 => if b = true then ta D σ H1 else tb D σ H1)) : tIfS tt ta tb D σ G := h hE

/-- between two turns -/
def EPv (b bk Kn Tn Ln dF dK p : Addr) (S1 : Addr → Prop) (reg : Reg) (n r k : Nat) (most : Int) (tt ll kvb : List (Key × V)) (c : Int) (H : Hp) (xs : List V) : Nat → L2.St → Hp → Prop := fun i σ G =>
  ∃ (o5 o6 o7 o8 o9 o10 o11 o12 o13 : Option V) (fs ks : List (Key × V)), σ = [some (.ref b), some (.ref bk), some (.int most), some (.ref dF), some (.ref dK), o5, o6, o7, o8, o9, o10, o11, o12, o13] ∧ Kept b H G ∧ G p = some (.lst xs) ∧
    EK b bk Kn Tn Ln S1 reg tt ll kvb (c + 1 + (cB n + 60) * (i : Int)) G ∧ FK S1 reg n r k dF dK fs ks i G
structure Ne5 (b bk Kn Tn Ln m : Addr) : Prop where
  n1 : b ≠ m
  n2 : bk ≠ m
  n3 : Kn ≠ m
  n4 : Tn ≠ m
  n5 : Ln ≠ m
theorem EPv.put {b bk Kn Tn Ln dF dK p : Addr} {S1 : Addr → Prop} {reg : Reg} {n r k : Nat} {most : Int} {tt ll kvb : List (Key × V)} {c c' : Int} {H G : Hp} {xs : List V} {i : Nat} {fs ks : List (Key × V)} {s : Str} {v y : V} {t : Addr} {o : Bool}
    (kp : Kept b H G) (hp : G p = some (.lst xs)) (pF : p ≠ dF) (pK : p ≠ dK) (nF : H dF = none) (nK : H dK = none) (NF : Ne5 b bk Kn Tn Ln dF) (NK : Ne5 b bk Kn Tn Ln dK) (E : EK b bk Kn Tn Ln S1 reg tt ll kvb c' G) (hc : c' ≤ c + 1 + (cB n + 60) * (i : Int) + (cB n + 60)) (x : FK S1 reg n r k dF dK fs ks i G)
    (hi : flds[i]? = some s) (SF : S1 dF) (SK : S1 dK) (ne : dF ≠ dK) (kd : KindOk S1 G reg r v) (at_ : At S1 G t (.tup [.bl o, y])) (nv : NV S1 G n y)
    (vv : isTx v = false → VV S1 G y) (ct : (txs ks).count true + (if isTx v = true then 1 else 0) ≤ k) (o5 o6 o7 o8 o9 o10 o11 o12 o13 : Option V) :
    EPv b bk Kn Tn Ln dF dK p S1 reg n r k most tt ll kvb c H xs (i + 1) [some (.ref b), some (.ref bk), some (.int most), some (.ref dF), some (.ref dK), o5, o6, o7, o8, o9, o10, o11, o12, o13]
      (upd (upd G dK (.dK (putK ks (.inr s) v))) dF (.dK (putK fs (.inr s) (.ref t)))) := by
  refine ⟨o5, o6, o7, o8, o9, o10, o11, o12, o13, _, _, rfl, fun a u e nb => ?_, ?_, ?_, x.put hi SF SK ne kd at_ nv vv ct⟩
  · rw [upd_ne (ne_of_none e nF), upd_ne (ne_of_none e nK)]
    exact kp a u e nb
  · rw [upd_ne pF, upd_ne pK]
    exact hp
  · refine ((E.put SK NK.n1 NK.n2 NK.n3 NK.n4 NK.n5).put SF NF.n1 NF.n2 NF.n3 NF.n4 NF.n5).le ?_
    rw [Int.natCast_add, Int.mul_add]
    show _ ≤ c + 1 + (_ + (cB n + 60) * 1)
    omega

section
variable {P : Program} {w : World} {K : PySem.W.Frag} {mg : Str → Option Value} {base : Heap}

theorem ok_entries (n : Nat) {f fO fT fP fV fB fL : Addr} {fd fdO fdT fdP fdV fdB fdL : FuncData} (F : Fun K "_law_entries" "_law_entries" sEntries f fd) (Z : Bare mg) (zs : mg "sorted" = none) (zt : mg "tuple" = none)
    (FO : Fun K "_law_of" "_law_of" sOf fO fdO) (bO : Binds K fdO ["_law_box_here", "_law_some"] []) (gO : mg "_law_of" = some (.ref fO))
    (GO : FnOk P w K mg base CX0 2 fO fdO ["_law_box_here", "_law_some"] spOf)
    (FT : Fun K "_law_take" "_law_take" sTake fT fdT) (bT : Binds K fdT ["_law_box_here", "_law_many"] []) (gT : mg "_law_take" = some (.ref fT))
    (GT : FnOk P w K mg base CX0 1 fT fdT ["_law_box_here", "_law_many"] spTake)
    (FP : Fun K "_law_paths" "_law_paths" sPaths fP fdP) (bP : Binds K fdP ["_law_book_here", "_law_kinds"] []) (gP : mg "_law_paths" = some (.ref fP))
    (FV : Fun K "_law_value" "_law_value" sValue fV fdV) (bV : Binds K fdV ["_law_box_here", "_law_some", "_law_kind"] []) (gV : mg "_law_value" = some (.ref fV))
    (GV : FnOk P w K mg base CX0 5 fV fdV ["_law_box_here", "_law_some", "_law_kind"] spValue)
    (FB : Fun K "_law_body" "_law_body" sBody fB fdB) (bB : Binds K fdB ["_law_box_here", "_law_book_here", "_law_name", "_law_some", "_law_is_own"] []) (gB : mg "_law_body" = some (.ref fB))
    (GB : FnOk P w K mg base CX0 (5 + n + 1) fB fdB ["_law_box_here", "_law_book_here", "_law_name", "_law_some", "_law_is_own"] (spBody n))
    (FL : Fun K "_law_loop" "_law_loop" sLoop fL fdL) (bL : Binds K fdL ["_law_box_here", "_law_book_here", "_law_name", "_law_some"] []) (gL : mg "_law_loop" = some (.ref fL))
    (GL : FnOk P w K mg base CX0 (5 + n + 2) fL fdL ["_law_box_here", "_law_book_here", "_law_name", "_law_some"] (spLoop n)) :
    FnOk P w K mg base CX0 (5 + n + 3) f fd ["_law_box_here", "_law_book_here", "_law_most"] (spEntries n) := by
  have GP : FnOk P w K mg base CX0 1 fP fdP ["_law_book_here", "_law_kinds"] spPaths := ok_paths FP Z
  refine F.ok scEntries (fun vs H Q E h => ?_) (fun cdv A outer s H vs Q E hr h => ?_)
  · obtain ⟨b, bk, Kn, Tn, Ln, S, reg, r, most, k, tt, ll, kvb, c, rfl, _⟩ := h
    rfl
  · obtain ⟨b, bk, Kn, Tn, Ln, S, reg, r, most, k, tt, ll, kvb, c, rfl, ek, hc, Sb, rk, hm1, hm6, hk, hvl, hvt, nbT, tk, q⟩ := h
    have hr1 : Room 1 _ := hr.mono (by omega)
    have hr2 : Room 2 _ := hr.mono (by omega)
    have hr5 : Room 5 _ := hr.mono (by omega)
    have hrB : Room (5 + n + 1) _ := hr.mono (by omega)
    have hrL : Room (5 + n + 2) _ := hr.mono (by omega)
    refine ⟨_, pss_cons (ps_par (by rfl) scEntries.nd (i := 3) (j := 4) rfl rfl (by decide) rfl rfl (pa_cons pe_dnewK (pa_cons pe_dnewK pa_nil)) (by rfl))
      (pss_cons (ps_for PassesOwn.never rfl (pi_list (pe_slice sl_list (pe_lst (pa_cons pe_str (pa_cons pe_str (pa_cons pe_str (pa_cons pe_str (pa_cons pe_str (pa_cons pe_str (pa_cons pe_str pa_nil)))))))) po_none
            (po_some (pe_op op_add pe_int (pe_call GT hr1 (by rfl) gT FT.kp bT .nil pass0 (pa_cons (pv 0) (pa_cons (pv 2) pa_nil)))))))
          (pg_name (i := 5) scEntries.nd rfl (.inl rfl))
        (pss_cons (ps_par3 (by rfl) scEntries.nd (i := 6) (j := 7) (l := 8) rfl rfl rfl (by decide) (by decide) (by decide) rfl rfl rfl (pa_cons (pe_call GP hr1 (by rfl) gP FP.kp bP .nil pass0 (pa_cons (pv 1) (pa_cons (pv 4) pa_nil)))
              (pa_cons (pe_call GT hr1 (by rfl) gT FT.kp bT .nil pass0 (pa_cons (pv 0) (pa_cons pe_int pa_nil)))
              (pa_cons (pe_cmpR op_eq (pe_call GT hr1 (by rfl) gT FT.kp bT .nil pass0 (pa_cons (pv 0) (pa_cons pe_int pa_nil))) pe_int (nomark _)) pa_nil))) (by rfl))
        (pss_cons (ps_set (i := 10) scEntries.nd rfl (.inl rfl) (pe_callB cr_sortedS (by rfl) zs (by decide +kernel) (pa_cons (pe_lock
            (pe_lc (own := [("_law_name", 9)]) (g := gName 9) rfl scEntries.nd (pi_keys (pe_dget (hu_of hr) (pv 1) pe_str (fun _ _ => rfl)))
              (blkOk_by (N := ["_law_box_here", "_law_book_here", "_law_most", "_law_found", "_law_kinds", "_law_field", "_law_some", "_law_sort", "_law_is_out", "_law_name", "_law_names", "_law_kind", "_law_inner", "_law_body_here"]) (sc := defScope sEntries) (by decide +kernel))
              (fun _ _ _ _ _ => pg_name (i := 9) scEntries.nd rfl (Or.inl rfl))
              (fun _ _ _ _ _ => pts_one (pt_cmpR op_ne (pv 9) pe_str (nomark _)))
              (fun _ _ _ _ _ => pv 9))) pa_nil)))
        (pss_cons (ps_lock (ps_setLc (i := 12) (own := [("_law_kind", 11)]) (g := gName 11) rfl scEntries.nd rfl rfl (sw_true rfl rfl rfl (by decide +kernel))
            (pi_values (pv 4))
            (blkOk_by (N := ["_law_box_here", "_law_book_here", "_law_most", "_law_found", "_law_kinds", "_law_field", "_law_some", "_law_sort", "_law_is_out", "_law_name", "_law_names", "_law_kind", "_law_inner", "_law_body_here"]) (sc := defScope sEntries) (by decide +kernel))
            (fun _ _ _ _ _ => pg_name (i := 11) scEntries.nd rfl (Or.inl rfl))
            (fun _ _ _ _ _ => pts_one (pt_val (pe_callB (id := "isinstance") (r := rIsi K) call_isi (by rfl) Z.isin (by decide +kernel) (pa_cons (pv 11) (pa_cons (pe_bltn (v := .ty "tuple") (by rfl) zt (by decide +kernel) rfl) pa_nil)))))
            (fun _ _ _ _ _ => pv 11)))
        (pss_one (ps_if (PW.pt (pw_and (pt_cmpR op_gt (pv 7) pe_int (nomark _)) (pw_and (pt_cmpR (op_neD hr.units) (pv 10) (pe_lst pa_nil) (nomark _))
              (pw_and1 (pt_cmpR op_lt (pe_callB call_len_seq (by rfl) Z.len PySem.boot_len (pa_cons (pv 12) pa_nil)) (pe_op op_add pe_int (pe_callTy call_int1 (by rfl) Z.int (by decide +kernel) (pa_cons (pe_cmpR op_gt (pv 2) pe_int (nomark _)) pa_nil))) (nomark _))))))
          (pss_cons (ps_set (i := 9) scEntries.nd rfl (.inl rfl) (pe_call GO hr2 (by rfl) gO FO.kp bO .nil pass0 (pa_cons (pv 0) (pa_cons (pv 10) pa_nil))))
          (pss_one (ps_if (PW.pt (pw_or (pt_cmpR op_eq (pv 7) pe_int (nomark _)) (pw_or1 (pt_cmpR (op_eq0 (Nat.lt_of_le_of_lt (Nat.le_add_right _ 64) hr.units)) (pe_dget (hu_of hr) (pv 1) pe_str (fun _ _ => rfl)) pe_dnewK (nomark _)))))
            (pss_cons (ps_set (i := 13) scEntries.nd rfl (.inl rfl) (pe_call GB hrB (by rfl) gB FB.kp bB .nil pass0 (pa_cons (pv 0) (pa_cons (pv 1) (pa_cons (pv 9) (pa_cons (pv 6) (pa_cons pe_bl pa_nil)))))))
            (pss_one (ps_asg (pe_tup (pa_cons (pe_tup (pa_cons pe_str (pa_cons (pv 9) pa_nil))) (pa_cons (pe_tup (pa_cons (pv 8) (pa_cons (pe_tup (pa_cons pe_str (pa_cons (pv 9) (pa_cons (pv 13) pa_nil)))) pa_nil))) pa_nil)))
              (pg_tup rfl (pgs_cons (pg_sub (pv 4) (pv 5) (set_dict (hu_of hr))) (pgs_cons (pg_sub (pv 3) (pv 5) (set_dict (hu_of hr))) pgs_nil))))))
            (pss_one (ps_asg (pe_tup (pa_cons (pe_tup (pa_cons pe_str (pa_cons (pv 9) pa_nil))) (pa_cons (pe_tup (pa_cons pe_bl (pa_cons (pe_call GL hrL (by rfl) gL FL.kp bL .nil pass0 (pa_cons (pv 0) (pa_cons (pv 1) (pa_cons (pv 9) (pa_cons (pv 6) pa_nil))))) pa_nil))) pa_nil)))
              (pg_tup rfl (pgs_cons (pg_sub (pv 4) (pv 5) (set_dict (hu_of hr))) (pgs_cons (pg_sub (pv 3) (pv 5) (set_dict (hu_of hr))) pgs_nil))))))))
          (pss_cons (ps_set (i := 11) scEntries.nd rfl (.inl rfl) (pe_ifExp (pt_cmpR op_eq (pv 7) pe_int (nomark _)) pe_str pe_str))
          (pss_one (ps_asg (pe_tup (pa_cons (pv 11) (pa_cons (pe_tup (pa_cons (pv 8) (pa_cons (pe_call GV hr5 (by rfl) gV FV.kp bV .nil pass0 (pa_cons (pv 0) (pa_cons (pv 6) (pa_cons (pv 11) pa_nil)))) pa_nil))) pa_nil)))
              (pg_tup rfl (pgs_cons (pg_sub (pv 4) (pv 5) (set_dict (hu_of hr))) (pgs_cons (pg_sub (pv 3) (pv 5) (set_dict (hu_of hr))) pgs_nil))))))))))))
      (pss_one (ps_ret (pe_tup (pa_cons (pv 3) (pa_cons (pv 4) pa_nil)))))), ?_⟩
    have cb0 := cB_pos n
    have cEn : cE n = 2 + 6 * (cB n + 60) := rfl
    intro dF nF dK nK
    have nKF : dK ≠ dF := (ne_of_none upd_same nK).symm
    have nKH : H dK = none := by
      rw [upd_ne nKF] at nK
      exact nK
    refine ⟨_, _, rfl, ?_⟩
    have s0 : Same H (upd (upd H dF (.dK [])) dK (.dK [])) := fun z o e => by
      rw [upd_ne (ne_of_none e nKH), upd_ne (ne_of_none e nF)]
      exact e
    have eF : upd (upd H dF (.dK [])) dK (.dK []) dF = some (.dK []) := by rw [upd_ne nKF.symm, upd_same]
    have eK : upd (upd H dF (.dK [])) dK (.dK []) dK = some (.dK []) := upd_same
    generalize upd (upd H dF (.dK [])) dK (.dK []) = H1 at s0 eF eK ⊢
    let S1 : Addr → Prop := fun z => S z ∨ z = dF ∨ z = dK
    have S1b : S1 b := .inl Sb
    have SF : S1 dF := .inr (.inl rfl)
    have SK : S1 dK := .inr (.inr rfl)
    have trS : Tr S H S1 H1 := fun a o h => ⟨fun w => w.elim h.1 (fun w => w.elim (ne_of_none h.2 nF) (ne_of_none h.2 nKH)), s0 _ _ h.2⟩
    obtain ⟨kk, hkk, hkk2⟩ := ek.bo.kn
    have NF : Ne5 b bk Kn Tn Ln dF := ⟨(ek.bx.ne nF).symm, ne_of_none ek.hb nF, ne_of_none hkk nF, ne_of_none ek.ht nF, ne_of_none ek.hl nF⟩
    have NK : Ne5 b bk Kn Tn Ln dK := ⟨(ek.bx.ne nKH).symm, ne_of_none ek.hb nKH, ne_of_none hkk nKH, ne_of_none ek.ht nKH, ne_of_none ek.hl nKH⟩
    have E1 : EK b bk Kn Tn Ln S1 reg tt ll kvb c H1 := by
      refine ⟨ek.bx.same s0, fun z hz e => ?_, ek.bo.mono trS ((s0 _ _ ek.hb).trans ek.hb.symm) ((s0 _ _ hkk).trans hkk.symm), s0 _ _ ek.hb, s0 _ _ ek.ht, s0 _ _ ek.hl, ek.ll.mono trS⟩
      rcases hz with hz | rfl | rfl
      · exact ek.al z hz (same_free s0 e)
      · rw [eF] at e; cases e
      · rw [eK] at e; cases e
    have F1 : FK S1 reg n r k dF dK [] [] 0 H1 := ⟨eF, eK, rfl, rfl, fun kv h => (List.not_mem_nil h).elim, Nat.zero_le _, fun j kv x e => by simp at e⟩
    -- the fields
    refine ⟨by show 7 ≤ sizeLine; decide, fun D0 nD0 => ?_⟩
    obtain ⟨s2, f2, _⟩ := grow (o := .lst (flds.map V.str)) nD0
    refine ⟨.ref b, rfl, .int most, rfl, b, most, c, rfl, (E1.same s2).bx, by omega, by omega, by omega, fun G3 rr kp3 b3 r0 r1 => ?_⟩
    have nD0b : D0 ≠ b := E1.bx.ne nD0
    obtain ⟨rn, rfl⟩ : ∃ rn : Nat, rr = (rn : Int) := ⟨rr.toNat, by omega⟩
    refine ⟨1, rn, rfl, rfl, 1 + rn, rfl, D0, flds.map V.str, rfl, SqL.of (kp3 _ _ f2 nD0b), fun p np => ?_⟩
    have ecut : cutV (flds.map V.str) none (some (1 + (rn : Int))) = (flds.take (1 + rn)).map V.str := by
      have := cut_take (flds.map V.str) (1 + rn) (by rw [List.length_map]; show 1 + rn ≤ 7; omega)
      rw [Int.natCast_add] at this
      rw [show ((1 : Int) + (rn : Int)) = ((1 : Nat) : Int) + (rn : Int) from rfl, this, List.map_take]
    rw [ecut]
    obtain ⟨s4, f4, _⟩ := grow (o := .lst ((flds.take (1 + rn)).map V.str)) np
    have E4 := ((E1.same s2).kept kp3 b3 S1b).same s4
    have F4 := ((F1.same s2).kept kp3 S1b NF.n1.symm NK.n1.symm).same s4
    have k04 : Kept b H (upd G3 p (.lst ((flds.take (1 + rn)).map V.str))) := (((sKept s0).trans (sKept s2)).trans kp3).trans (sKept s4)
    have pF : p ≠ dF := (ne_of_none ((F1.same s2).kept kp3 S1b NF.n1.symm NK.n1.symm).hF np).symm
    have pK : p ≠ dK := (ne_of_none ((F1.same s2).kept kp3 S1b NF.n1.symm NK.n1.symm).hK np).symm
    have pb : p ≠ b := ((E1.same s2).kept kp3 b3 S1b).bx.ne np
    generalize upd G3 p (.lst ((flds.take (1 + rn)).map V.str)) = G4 at E4 F4 k04 f4 ⊢
    refine ⟨p, rfl, ⟨_, SqL.of f4⟩, for_list (xs := (flds.take (1 + rn)).map V.str) (EPv b bk Kn Tn Ln dF dK p S1 reg n r k most tt ll kvb c H ((flds.take (1 + rn)).map V.str)) ?_ ?_ ?_ ?_⟩
    · exact ⟨none, none, none, none, none, none, none, none, none, [], [], rfl, k04, f4, E4.le (by rw [Int.natCast_zero, Int.mul_zero]; omega), F4⟩
    · rintro i σ G _ ⟨_, _, _, _, _, _, _, _, _, _, _, _, _, z, _⟩
      exact SqL.of z
    · rintro i x σ G hx ⟨o5, o6, o7, o8, o9, o10, o11, o12, o13, fs, ks, rfl, kG, pG, EG, FG⟩
      rw [List.getElem?_map] at hx
      obtain ⟨s, hs, rfl⟩ := Option.map_eq_some_iff.mp hx
      have hi : i < 1 + rn := by
        have := (List.getElem?_eq_some_iff.mp hs).1
        rw [List.length_take] at this
        omega
      have hfl : flds[i]? = some s := by
        rw [List.getElem?_take_of_lt hi] at hs
        exact hs
      have i6 : i < 6 := by omega
      have lf := keys_len FG.fk
      have lk := keys_len FG.kk
      have mul1 : (cB n + 60) * (i : Int) ≤ (cB n + 60) * 5 := Int.mul_le_mul_of_nonneg_left (by omega) (by omega)
      have nkk : Kn ≠ dK := NK.n3
      -- some, sort, is_out
      refine ⟨.ref bk, rfl, .ref dK, rfl, bk, Kn, dK, S1, reg, r, ks, rfl, EG.bo, NK.n2, nkk, SK, EG.al, FG.hK, by omega, FG.ok, fun G1 so xs s1 nso hso hxs lx => ?_⟩
      have EG1 := EG.same s1
      have FG1 := FG.same s1
      refine ⟨.ref b, rfl, b, 8, _, rfl, EG1.bx, by decide, by decide, by omega, fun G2 sort kp2 b2 so0 so8 => ?_⟩
      have EG2 := EG1.kept kp2 b2 S1b
      refine ⟨.ref b, rfl, b, 4, _, rfl, EG2.bx, by decide, by decide, by omega, fun G3 r4 kp3 b3 _ _ => ?_⟩
      have EG3 := EG2.kept kp3 b3 S1b
      have k13 := kp2.trans kp3
      have FG3 := FG1.kept k13 S1b NF.n1.symm NK.n1.symm
      have kG3 := (kG.trans (sKept s1)).trans k13
      have pG3 : G3 p = some (.lst ((flds.take (1 + rn)).map V.str)) := k13 _ _ (s1 _ _ pG) pb
      have aso3 : At S1 G3 so (.lst xs) := tr_kept k13 S1b _ _ ⟨EG.al.new nso, hso⟩
      have hxs3 : ∀ x ∈ xs, Some S1 G3 x := fun x h => (hxs x h).mono (tr_kept k13 S1b)
      refine ⟨rfl, _, _, _, rfl, ?_⟩
      obtain ⟨isO, hisO⟩ : ∃ isO : Bool, decide (V.int r4 = V.int 0) = isO := ⟨_, rfl⟩
      -- the names
      refine ⟨Tn, .dK tt, EG3.ht, trivial, fun od => ?_⟩
      refine ⟨.ref bk, rfl, bk, .ref Tn, rfl, hvt ▸ DGet.k (k := .inr "templates") (by rw [upd_ne nbT]; exact EG3.hb), Tn, od, rfl, .inl ⟨tt, upd_same, fun D nD => ?_⟩⟩
      have nDT : D ≠ Tn := by
        rintro rfl
        rw [upd_same] at nD
        cases nD
      have nD3 : G3 D = none := by
        rw [upd_ne nDT] at nD
        exact nD
      refine lc_it (walk_keys (d := Tn) (o := od) (kvs := tt)) (fun j G => (∀ z u, G3 z = some u → z ≠ Tn → G z = some u) ∧ G Tn = some (.frz od (.dK tt)) ∧ ∃ ys : List Str, G D = some (.lst (ys.map V.str)) ∧ ys.length ≤ j ∧ ∀ y ∈ ys, Wd y ∧ ∃ a m, reg y = some (a, m) ∧ m < r ∧ m ≤ n)
        ⟨fun z u e nz => by rw [upd_ne (ne_of_none e nD3), upd_ne nz]; exact e, by rw [upd_ne nDT.symm, upd_same], [], upd_same, Nat.le_refl _, fun y h => (List.not_mem_nil h).elim⟩ (fun j G _ z => z.2.1) ?_ ?_
      · rintro j x G5 G6 hj ⟨k5, a5, ys, D5, ly, hy⟩ ⟨rfl, kk', vv', hkv, rfl⟩
        obtain ⟨s', es, hs'⟩ := tk.2 _ (List.mem_of_getElem? hkv)
        have es : kk' = .inr s' := es
        subst es
        have tl := tk.1
        refine ⟨rfl, ?_⟩
        refine ⟨.str s', rfl, rfl, _, rfl, ?_⟩
        refine ite2 (fun e => ?_) (fun e => ?_)
        · have ns : s' ≠ "" := by
            rintro rfl
            exact absurd e (by decide)
          have hs2 := hs'.resolve_left ns
          refine ⟨.str s', rfl, ys.map V.str, D5, by rw [List.length_map]; exact small1000 (by omega), fun z u e nz => ?_, ?_, ys ++ [s'], by rw [upd_same, List.map_append]; rfl, by rw [List.length_append, List.length_singleton]; omega, fun y h => ?_⟩
          · rw [upd_ne (ne_of_none e nD3)]
            exact k5 z u e nz
          · rw [upd_ne nDT.symm]
            exact a5
          · rcases List.mem_append.mp h with h | h
            · exact hy y h
            · rw [List.mem_singleton.mp h]
              exact hs2
        · exact ⟨k5, a5, ys, D5, by omega, hy⟩
      rintro G5 ⟨k5, a5, ys, D5, ly, hy⟩
      refine ⟨a5, ?_⟩
      have s35 : Same G3 (upd G5 Tn (.dK tt)) := lock_same EG3.ht k5
      have D6 : (upd G5 Tn (.dK tt)) D = some (.lst (ys.map V.str)) := by rw [upd_ne nDT]; exact D5
      generalize upd G5 Tn (.dK tt) = G6 at s35 D6 ⊢
      have tl := tk.1
      refine ⟨D, ys, rfl, SqL.of D6, by omega, fun zs P perm _ nP => ?_⟩
      obtain ⟨s67, P7, _⟩ := grow (o := .lst (zs.map V.str)) nP
      have nPb : P ≠ b := (EG3.same s35).bx.ne nP
      have hz : ∀ y ∈ zs, Wd y ∧ ∃ a m, reg y = some (a, m) ∧ m < r ∧ m ≤ n := fun y h => hy y (perm.mem_iff.mp h)
      have lz : zs.length ≤ 4 := by have := perm.length_eq; omega
      have s37 := sTr s35 s67
      have EG7 := EG3.same s37
      have FG7 := FG3.same s37
      have kG7 := kG3.trans (sKept s37)
      have pG7 := s37 _ _ pG3
      have aso7 := tr_same (S := S1) s37 _ _ aso3
      have hxs7 : ∀ x ∈ xs, Some S1 _ x := fun x h => (hxs3 x h).mono (tr_same s37)
      generalize upd G6 P (.lst (zs.map V.str)) = G7 at P7 EG7 FG7 kG7 pG7 aso7 hxs7 ⊢
      -- the inner ones
      refine ⟨dK, .dK ks, FG7.hK, trivial, fun od2 => ?_⟩
      refine ⟨.ref dK, rfl, dK, od2, ks, rfl, upd_same, fun D2 nD2 => ?_⟩
      have nD2K : D2 ≠ dK := by
        rintro rfl
        rw [upd_same] at nD2
        cases nD2
      have nD27 : G7 D2 = none := by
        rw [upd_ne nD2K] at nD2
        exact nD2
      refine lc_it (walk_values (d := dK) (o := od2) (kvs := ks)) (fun j G => (∀ z u, G7 z = some u → z ≠ dK → G z = some u) ∧ G dK = some (.frz od2 (.dK ks)) ∧ ∃ ys : List V, G D2 = some (.lst ys) ∧ ys.length = ((txs ks).take j).count true)
        ⟨fun z u e nz => by rw [upd_ne (ne_of_none e nD27), upd_ne nz]; exact e, by rw [upd_ne nD2K.symm, upd_same], [], upd_same, rfl⟩ (fun j G _ z => z.2.1) ?_ ?_
      · rintro j x G8 G9 hj ⟨k8, a8, ys, D8, ly⟩ ⟨rfl, kk', hkv⟩
        have tj : (txs ks)[j]? = some (isTx x) := by
          unfold txs
          rw [List.getElem?_map, hkv]
          rfl
        have tstep : ((txs ks).take (j + 1)).count true = ((txs ks).take j).count true + (if isTx x = true then 1 else 0) := by
          rw [List.take_add_one, tj, List.count_append]
          cases isTx x <;> rfl
        refine ⟨rfl, ?_⟩
        have lys : ys.length ≤ 7 := by
          have h1 : ((txs ks).take j).count true ≤ ((txs ks).take j).length := List.count_le_length
          rw [List.length_take] at h1
          have : (txs ks).length = ks.length := by unfold txs; rw [List.length_map]
          omega
        rcases (FG7.ok _ (List.mem_of_getElem? hkv)).2 with ⟨k', ek', hk'⟩ | ⟨t, w', name, a, m, et, at_, hw, wn, hr', hlt⟩
        · have ek' : x = .str k' := ek'
          subst ek'
          refine ⟨.str k', rfl, .str k', .ty "tuple", .type "str", .type "tuple", false, rfl, .ty "tuple", .base (.str k'), kit_ty (by decide +kernel), _, rfl, iteF ?_⟩
          exact ⟨k8, a8, ys, D8, by rw [tstep, ly]; rfl⟩
        · have et : x = .ref t := et
          subst et
          have at8 : G9 t = some (.tup [.str w', .str name]) := k8 _ _ at_.2 (by
            rintro rfl
            exact at_.1 SK)
          refine ⟨.ref t, rfl, .ref t, .ty "tuple", .type "tuple", .type "tuple", true, rfl, .ty "tuple", .base (.tup at8), kit_ty (by decide +kernel), _, rfl, iteT ?_⟩
          refine ⟨.ref t, rfl, ys, D8, small1000 (by omega), fun z u e nz => ?_, ?_, ys ++ [.ref t], upd_same, ?_⟩
          · rw [upd_ne (ne_of_none e nD27)]
            exact k8 z u e nz
          · rw [upd_ne nD2K.symm]
            exact a8
          · rw [tstep, List.length_append, ly]
            rfl
      rintro G8 ⟨k8, a8, inn, D8, ly2⟩
      refine ⟨a8, ?_⟩
      have s78 : Same G7 (upd G8 dK (.dK ks)) := lock_same FG7.hK k8
      have D9 : (upd G8 dK (.dK ks)) D2 = some (.lst inn) := by rw [upd_ne nD2K]; exact D8
      have linn : inn.length = (txs ks).count true := by
        rw [ly2, List.take_of_length_le]
        unfold txs
        rw [List.length_map]
        exact Nat.le_refl _
      have EG9 := EG7.same s78
      have FG9 := FG7.same s78
      have kG9 := kG7.trans (sKept s78)
      have pG9 := s78 _ _ pG7
      have P9 := s78 _ _ P7
      have aso9 := tr_same (S := S1) s78 _ _ aso7
      have hxs9 : ∀ x ∈ xs, Some S1 _ x := fun x h => (hxs7 x h).mono (tr_same s78)
      generalize upd G8 dK (.dK ks) = G9 at D9 EG9 FG9 kG9 pG9 P9 aso9 hxs9 ⊢
      obtain ⟨c9, hc9⟩ : ∃ c9, c9 = c + 1 + (cB n + 60) * (i : Int) + 1 + 1 := ⟨_, rfl⟩
      rw [← hc9] at EG9
      -- no record, no rows
      dsimp only
      refine ifS_el (fun G => EK b bk Kn Tn Ln S1 reg tt ll kvb c9 G ∧ FK S1 reg n r k dF dK fs ks i G ∧ Kept b H G ∧ G p = some (.lst ((flds.take (1 + rn)).map V.str)) ∧ At S1 G so (.lst xs) ∧ ∀ x ∈ xs, Some S1 G x) ?_ (fun els => ?_)
      · rintro G ⟨EG, FG, kG, pG, aso, hxs⟩
        have neF : dF ≠ dK := nKF.symm
        refine ⟨.int sort, rfl, rfl, _, rfl, ?_⟩
        refine ite2 (fun _ => ?_) (fun _ => ?_)
        all_goals
          refine ⟨.str _, rfl, .bl isO, by rw [← hisO]; rfl, .ref b, rfl, .ref so, rfl, .str _, rfl, b, so, _, S1, xs, c9, rfl, EG.bx, by omega, S1b, EG.al, aso, hxs, by omega, fun G10 v kp10 b10 hv => ?_⟩
          have EG10 := EG.kept kp10 b10 S1b
          have FG10 := FG.kept kp10 S1b NF.n1.symm NK.n1.symm
          refine ⟨by show 2 ≤ sizeLine; decide, fun t nt => ?_⟩
          obtain ⟨s11, f11, _⟩ := grow (o := .tup [.bl isO, v]) nt
          refine ⟨by show 2 ≤ sizeLine; decide, fun T nT => ?_⟩
          obtain ⟨s12, f12, _⟩ := grow (o := .tup [.str _, .ref t]) nT
          have s1012 := sTr s11 s12
          have EG12 := EG10.same s1012
          have FG12 := FG10.same s1012
          refine ⟨T, _, rfl, SqT.of f12, rfl, _, _, rfl, .ref dK, rfl, .str s, rfl, dK, _, rfl, DPut.k (k := .inr s) FG12.hK (Nat.lt_of_le_of_lt (by omega : ks.length ≤ 1000) (by decide)), _, _, rfl, .ref dF, rfl, .str s, rfl, dF, _, rfl,
            DPut.k (k := .inr s) (by rw [upd_ne neF]; exact FG12.hF) (Nat.lt_of_le_of_lt (by omega : fs.length ≤ 1000) (by decide)), rfl, ?_⟩
          exact EPv.put ((kG.trans kp10).trans (sKept s1012)) (s1012 _ _ (kp10 _ _ pG pb)) pF pK nF nKH NF NK EG12 (by omega) FG12 hfl SF SK neF (.inl ⟨_, rfl, by first | exact .inl rfl | exact .inr rfl⟩)
            (o := isO) (y := v) ⟨EG10.al.new nt, s12 _ _ f11⟩ (.vv n v (hv.mono (tr_same s1012))) (fun _ => hv.mono (tr_same s1012)) FG12.ct _ _ _ _ _ _ _ _ _
      refine ⟨.int sort, rfl, sort, 5, rfl, rfl, _, rfl, ?_⟩
      refine ite2 (fun _ => ?_) (fun _ => els _ ⟨EG9, FG9, kG9, pG9, aso9, hxs9⟩)
      refine ⟨.ref P, rfl, Nat.zero_le _, fun l2 nl2 => ?_⟩
      obtain ⟨s910, f10, _⟩ := grow (o := .lst []) nl2
      have EG10 := EG9.same s910
      have FG10 := FG9.same s910
      have kG10 := kG9.trans (sKept s910)
      have pG10 := s910 _ _ pG9
      have P10 := s910 _ _ P9
      have D10 := s910 _ _ D9
      have aso10 := tr_same (S := S1) s910 _ _ aso9
      have hxs10 : ∀ x ∈ xs, Some S1 _ x := fun x h => (hxs9 x h).mono (tr_same s910)
      generalize upd G9 l2 (.lst []) = G10 at f10 EG10 FG10 kG10 pG10 P10 D10 aso10 hxs10 ⊢
      obtain ⟨ds, dp, dl, dc, dd⟩ := strs_dp (K := K) (H := G10) fun y h => (hz y h).1
      refine ⟨.list ds, .list [], .lst (SqL.of P10) dp, .lst (SqL.of f10) .nil, shaped_strs dc dd, shaped_nil, _, rfl, ?_⟩
      rw [eqv_nil]
      refine ite2 (fun ez => ?_) (fun _ => els _ ⟨EG10, FG10, kG10, pG10, aso10, hxs10⟩)
      refine ⟨.ref D2, rfl, D2, inn, rfl, .inl (SqL.of D10), .int most, rfl, most, 4, rfl, rfl, .inr ⟨_, rfl, 1, _, rfl, rfl, _, _, rfl, rfl, _, rfl, ?_⟩⟩
      refine ite2 (fun el => ?_) (fun _ => els _ ⟨EG10, FG10, kG10, pG10, aso10, hxs10⟩)
      have lz1 : 1 ≤ zs.length := by
        rcases Nat.eq_zero_or_pos zs.length with z | z
        · rw [z] at dl
          rw [List.length_eq_zero_iff.mp dl] at ez
          exact absurd ez (by decide)
        · exact z
      have more : (txs ks).count true + 1 ≤ k := by
        have el := of_decide_eq_true el
        simp only [decide_eq_true_eq] at el
        rw [linn] at el
        omega
      -- the name
      refine ⟨.ref b, rfl, .ref P, rfl, b, P, zs.map V.str, c9, rfl, EG10.bx, P10, nPb, by rw [List.length_map]; omega, by rw [List.length_map]; omega, by omega, fun G11 v kp11 b11 hm => ?_⟩
      obtain ⟨nm, hnm, rfl⟩ := texts_mem hm
      obtain ⟨wn, a, m, hreg, hmr, hmn⟩ := hz nm hnm
      have EG11 := EG10.kept kp11 b11 S1b
      have FG11 := FG10.kept kp11 S1b NF.n1.symm NK.n1.symm
      have kG11 := kG10.trans kp11
      have pG11 := kp11 _ _ pG10 pb
      have aso11 := tr_kept kp11 S1b _ _ aso10
      have hxs11 : ∀ x ∈ xs, Some S1 _ x := fun x h => (hxs10 x h).mono (tr_kept kp11 S1b)
      have neF : dF ≠ dK := nKF.symm
      clear els
      dsimp only
      refine ifS_th (fun G => EK b bk Kn Tn Ln S1 reg tt ll kvb (c9 + 1) G ∧ FK S1 reg n r k dF dK fs ks i G ∧ Kept b H G ∧ G p = some (.lst ((flds.take (1 + rn)).map V.str)) ∧ At S1 G so (.lst xs) ∧ ∀ x ∈ xs, Some S1 G x) ?_ (fun ths => ?_)
      · rintro G ⟨EG, FG, kG, pG, aso, hxs⟩
        refine ⟨.ref b, rfl, .ref bk, rfl, .str nm, rfl, .ref so, rfl, b, bk, Kn, so, a, nm, false, S1, reg, m, xs, c9 + 1, rfl, EG.bx, by omega, S1b, EG.al, EG.bo, rk, hreg, hmn, aso, hxs, by omega, fun G12 d kp12 b12 hbd nd => ?_⟩
        have EG12 := EG.kept kp12 b12 S1b
        have FG12 := FG.kept kp12 S1b NF.n1.symm NK.n1.symm
        refine ⟨.str nm, rfl, by show 2 ≤ sizeLine; decide, fun t1 nt1 => ?_⟩
        obtain ⟨s13, f13, _⟩ := grow (o := .tup [.str "record", .str nm]) nt1
        refine ⟨.bl isO, by rw [← hisO]; rfl, .str nm, rfl, .ref d, rfl, by show 3 ≤ sizeLine; decide, fun t2 nt2 => ?_⟩
        obtain ⟨s14, f14, _⟩ := grow (o := .tup [.str "new", .str nm, .ref d]) nt2
        refine ⟨by show 2 ≤ sizeLine; decide, fun t3 nt3 => ?_⟩
        obtain ⟨s15, f15, _⟩ := grow (o := .tup [.bl isO, .ref t2]) nt3
        refine ⟨by show 2 ≤ sizeLine; decide, fun T nT => ?_⟩
        obtain ⟨s16, f16, _⟩ := grow (o := .tup [.ref t1, .ref t3]) nT
        have s1316 := sTr (sTr (sTr s13 s14) s15) s16
        have EG16 := EG12.same s1316
        have FG16 := FG12.same s1316
        refine ⟨T, _, rfl, SqT.of f16, rfl, _, _, rfl, .ref dK, rfl, .str s, rfl, dK, _, rfl, DPut.k (k := .inr s) FG16.hK (Nat.lt_of_le_of_lt (by omega : ks.length ≤ 1000) (by decide)), _, _, rfl, .ref dF, rfl, .str s, rfl, dF, _, rfl,
          DPut.k (k := .inr s) (by rw [upd_ne neF]; exact FG16.hF) (Nat.lt_of_le_of_lt (by omega : fs.length ≤ 1000) (by decide)), rfl, ?_⟩
        exact EPv.put ((kG.trans kp12).trans (sKept s1316)) (s1316 _ _ (kp12 _ _ pG pb)) pF pK nF nKH NF NK EG16 (by omega) FG16 hfl SF SK neF
          (.inr ⟨t1, "record", nm, a, m, rfl, ⟨EG12.al.new nt1, s16 _ _ (s15 _ _ (s14 _ _ f13))⟩, .inl rfl, wn, hreg, hmr⟩)
          (o := isO) (y := .ref t2) ⟨((EG12.same s13).same s14).al.new nt3, s16 _ _ f15⟩ (.new n t2 d nm ⟨(EG12.same s13).al.new nt2, s16 _ _ (s15 _ _ f14)⟩ wn (BD.mono (tr_same s1316) hbd)) (fun z => nomatch z) more _ _ _ _ _ _ _ _ _
      refine ⟨.int sort, rfl, rfl, _, rfl, ?_⟩
      refine ite2 (fun _ => ths _ ⟨EG11, FG11, kG11, pG11, aso11, hxs11⟩) (fun _ => ?_)
      refine ⟨.ref bk, rfl, bk, .ref Ln, rfl, hvl ▸ DGet.k (k := .inr "lists") EG11.hb, fun d2 nd2 => ?_⟩
      obtain ⟨s12, f12, _⟩ := grow (o := .dK []) nd2
      have EG12 := EG11.same s12
      have FG12 := FG11.same s12
      have kG12 := kG11.trans (sKept s12)
      have pG12 := s12 _ _ pG11
      have aso12 := tr_same (S := S1) s12 _ _ aso11
      have hxs12 : ∀ x ∈ xs, Some S1 _ x := fun x h => (hxs11 x h).mono (tr_same s12)
      refine ⟨Ln, d2, ll, rfl, rfl, EG12.hl, f12, _, rfl, ?_⟩
      generalize upd G11 d2 (.dK []) = G12 at f12 EG12 FG12 kG12 pG12 aso12 hxs12 ⊢
      refine ite2 (fun _ => ths _ ⟨EG12, FG12, kG12, pG12, aso12, hxs12⟩) (fun el2 => ?_)
      have nll : ll ≠ [] := by
        rintro rfl
        exact el2 rfl
      refine ⟨.str nm, rfl, by show 2 ≤ sizeLine; decide, fun t1 nt1 => ?_⟩
      obtain ⟨s13, f13, _⟩ := grow (o := .tup [.str "rows", .str nm]) nt1
      have EG13 := EG12.same s13
      have FG13 := FG12.same s13
      have aso13 := tr_same (S := S1) s13 _ _ aso12
      have hxs13 : ∀ x ∈ xs, Some S1 _ x := fun x h => (hxs12 x h).mono (tr_same s13)
      have at13 : At S1 (upd G12 t1 (.tup [.str "rows", .str nm])) t1 (.tup [.str "rows", .str nm]) := ⟨EG12.al.new nt1, f13⟩
      refine ⟨.ref b, rfl, .ref bk, rfl, .str nm, rfl, .ref so, rfl, b, bk, Kn, Ln, so, a, nm, S1, reg, m, xs, ll, c9 + 1, rfl, EG13.bx, by omega, S1b, EG13.al, EG13.bo, rk, hreg, hmn, wn, aso13, hxs13, by omega, ⟨kvb, EG13.hb, hvl⟩, EG13.hl, EG13.ll, nll, fun G14 v kp14 b14 hv => ?_⟩
      have EG14 := EG13.kept kp14 b14 S1b
      have FG14 := FG13.kept kp14 S1b NF.n1.symm NK.n1.symm
      have at14 := tr_kept kp14 S1b _ _ at13
      refine ⟨by show 2 ≤ sizeLine; decide, fun t3 nt3 => ?_⟩
      obtain ⟨s15, f15, _⟩ := grow (o := .tup [.bl false, v]) nt3
      refine ⟨by show 2 ≤ sizeLine; decide, fun T nT => ?_⟩
      obtain ⟨s16, f16, _⟩ := grow (o := .tup [.ref t1, .ref t3]) nT
      have s1416 := sTr s15 s16
      have EG16 := EG14.same s1416
      have FG16 := FG14.same s1416
      refine ⟨T, _, rfl, SqT.of f16, rfl, _, _, rfl, .ref dK, rfl, .str s, rfl, dK, _, rfl, DPut.k (k := .inr s) FG16.hK (Nat.lt_of_le_of_lt (by omega : ks.length ≤ 1000) (by decide)), _, _, rfl, .ref dF, rfl, .str s, rfl, dF, _, rfl,
        DPut.k (k := .inr s) (by rw [upd_ne neF]; exact FG16.hF) (Nat.lt_of_le_of_lt (by omega : fs.length ≤ 1000) (by decide)), rfl, ?_⟩
      exact EPv.put (((kG12.trans (sKept s13)).trans kp14).trans (sKept s1416)) (s1416 _ _ (kp14 _ _ (s13 _ _ pG12) pb)) pF pK nF nKH NF NK EG16 (by omega) FG16 hfl SF SK neF
        (.inr ⟨t1, "rows", nm, a, m, rfl, tr_same s1416 _ _ at14, .inr rfl, wn, hreg, hmr⟩)
        (o := false) (y := v) ⟨EG14.al.new nt3, s16 _ _ f15⟩ (hv.mono (tr_same s1416)) (fun z => nomatch z) more _ _ _ _ _ _ _ _ _
    · rintro σ G ⟨o5, o6, o7, o8, o9, o10, o11, o12, o13, fs, ks, rfl, kG, pG, EG, FG⟩
      refine ⟨.ref dF, rfl, .ref dK, rfl, by show 2 ≤ sizeLine; decide, fun t nt => ?_⟩
      obtain ⟨st, ft, _⟩ := grow (o := .tup [.ref dF, .ref dK]) nt
      have EGt := EG.same st
      have FGt := FG.same st
      have trE : Tr S1 (upd G t (.tup [.ref dF, .ref dK])) S (upd G t (.tup [.ref dF, .ref dK])) := tr_less fun a h => .inl h
      have mulL : (cB n + 60) * (((flds.take (1 + rn)).map V.str).length : Int) ≤ (cB n + 60) * 6 := Int.mul_le_mul_of_nonneg_left (by
        rw [List.length_map, List.length_take]
        omega) (by omega)
      have lk := keys_len FG.kk
      have lf := keys_len FG.fk
      rw [List.length_map, List.length_take] at lk lf
      have lens : fs.length = ks.length := by
        have h1 := congrArg List.length FG.fk
        have h2 := congrArg List.length FG.kk
        rw [List.length_map] at h1 h2
        omega
      have nSt : H t = none := by
        cases e : H t with
        | none => rfl
        | some o =>
          by_cases tb : t = b
          · subst tb
            exact absurd nt (EG.bx.some)
          · rw [kG _ _ e tb] at nt
            cases nt
      refine q _ t dF dK ks (kG.trans (sKept st)) (EGt.bx.le (by omega)) nSt nF nKH ft ⟨fs, txs ks, ⟨ek.al.new nF, FGt.hF⟩, by omega, by unfold txs; rw [List.length_map, lens], FGt.ct, ?_, fun j kv x e1 e2 => ?_⟩ FGt.hK (by omega) (FGt.ok.mono trE)
      · intro kv h
        have m : kv.1 ∈ fs.map Prod.fst := List.mem_map_of_mem h
        rw [FG.fk] at m
        obtain ⟨s', hs', e⟩ := List.mem_map.mp m
        exact ⟨s', e.symm, flds_wd (List.mem_of_mem_take hs')⟩
      · obtain ⟨t', o', y', a1, a2, a3, a4⟩ := FGt.en j kv x e1 e2
        exact ⟨t', o', y', a1, trE _ _ a2, a3.mono trE, fun z => (a4 z).mono trE⟩
end
end K2

set_option maxHeartbeats 4000000
/-! Drawn projects. -/
namespace K2
open PySem PySem.Spec PyProof.Rows L2

/-- all but what is written stands as before -/
def KS (S : Addr → Prop) (H H' : Hp) : Prop := ∀ a o, H a = some o → ¬ S a → H' a = some o
section
variable {S : Addr → Prop} {H H' H'' : Hp} {b m : Addr} {o : HO}
theorem KS.rf : KS S H H := fun _ _ e _ => e
theorem KS.tr (x : KS S H H') (y : KS S H' H'') : KS S H H'' := fun a o e n => y a o (x a o e n) n
theorem KS.of (s : Same H H') : KS S H H' := fun a o e _ => s a o e
theorem KS.kept (k : Kept b H H') (Sb : S b) : KS S H H' := fun a o e n => k a o e (by rintro rfl; exact n Sb)
theorem KS.upd (Sm : S m) : KS S H (upd H m o) := fun a u e n => by
  rw [upd_ne (by rintro rfl; exact n Sm)]
  exact e
theorem KS.sub {S' : Addr → Prop} (x : KS S' H H') (h : ∀ a, S' a → S a) : KS S H H' := fun a o e n => x a o e fun z => n (h a z)
theorem KS.trans' (x : KS S H H') : Tr S H S H' := fun a o h => ⟨h.1, x a o h.2 h.1⟩
end

/-- a template in the book: its base, its body -/
def TplOk (S : Addr → Prop) (H : Hp) (v : V) : Prop := ∃ t p d, v = .ref t ∧ At S H t (.tup [p, .ref d]) ∧ (p = .non ∨ ∃ s, p = .str s ∧ Wd s) ∧ (BD S H 1 d ∨ DB S H 1 1 d)
def DocOk (S : Addr → Prop) (H : Hp) (v : V) : Prop := ∃ t d, v = .ref t ∧ At S H t (.tup [.non, .ref d]) ∧ DB S H 2 2 d
theorem TplOk.mono {S S' : Addr → Prop} {H H' : Hp} {v : V} (x : TplOk S H v) (h : Tr S H S' H') : TplOk S' H' v := by
  obtain ⟨t, p, d, e, a, b, c⟩ := x
  exact ⟨t, p, d, e, h _ _ a, b, c.imp (fun z => BD.mono h z) fun z => z.mono h⟩
theorem DocOk.mono {S S' : Addr → Prop} {H H' : Hp} {v : V} (x : DocOk S H v) (h : Tr S H S' H') : DocOk S' H' v := by
  obtain ⟨t, d, e, a, c⟩ := x
  exact ⟨t, d, e, h _ _ a, c.mono h⟩
/-- the whole book -/
structure BookT (S : Addr → Prop) (H : Hp) (bk Tn Ln : Addr) (kvb tt ll : List (Key × V)) (v : V) : Prop where
  hb : H bk = some (.dK kvb)
  tn : valV kvb (.inr "templates") = some (.ref Tn)
  ln : valV kvb (.inr "lists") = some (.ref Ln)
  ht : H Tn = some (.dK (tt ++ [(.inr "", v)]))
  len : tt.length ≤ 3
  tt : ∀ kv ∈ tt, (∃ s, kv.1 = .inr s ∧ Wd s) ∧ TplOk S H kv.2
  doc : DocOk S H v
  hl : H Ln = some (.dK ll)
  ll : ListsOk S H ll
  sT : S Tn
  sL : S Ln
  nTL : Tn ≠ Ln
  nbT : bk ≠ Tn
  nbL : bk ≠ Ln

theorem mem_merge : ∀ {more acc : List (Key × V)} {kv : Key × V}, kv ∈ mergeK acc more → kv ∈ acc ∨ kv ∈ more
  | [], acc, kv, h => .inl h
  | p :: r, acc, kv, h => by
    rcases mem_merge (more := r) (acc := putK acc p.1 p.2) h with h | h
    · rcases mem_put h with h | h
      · exact .inl h
      · exact .inr (by rw [h]; exact List.mem_cons_self)
    · exact .inr (List.mem_cons_of_mem _ h)
theorem paired_imp {α β : Type} {R R' : α → β → Prop} {xs : List α} {ys : List β} (x : Paired R xs ys) (h : ∀ a b, R a b → R' a b) : Paired R' xs ys := by
  induction x with
  | nil => exact .nil
  | cons a _ ih => exact .cons (h _ _ a) ih
theorem paired_snoc {α β : Type} {R : α → β → Prop} {xs : List α} {ys : List β} {a : α} {b : β} (x : Paired R xs ys) (h : R a b) : Paired R (xs ++ [a]) (ys ++ [b]) := by
  induction x with
  | nil => exact .cons h .nil
  | cons r _ ih => exact .cons r ih
section
variable {b bk Kn Tn Ln m : Addr} {S : Addr → Prop} {reg : Reg} {tt ll kvb : List (Key × V)} {c c' : Int} {G G' : Hp}
theorem EK.new {o : HO} (x : EK b bk Kn Tn Ln S reg tt ll kvb c G) (n : G m = none) : EK b bk Kn Tn Ln (Pl S m) reg tt ll kvb c (upd G m o) := by
  have s : Same G (upd G m o) := same_upd n
  obtain ⟨kk, hkk, _⟩ := x.bo.kn
  refine ⟨x.bx.same s, fun a h e => ?_, x.bo.mono (tr_new n) ((s _ _ x.hb).trans x.hb.symm) ((s _ _ hkk).trans hkk.symm), s _ _ x.hb, s _ _ x.ht, s _ _ x.hl, x.ll.mono (tr_new n)⟩
  rcases h with h | rfl
  · exact (x.al.same s) a h e
  · rw [upd_same] at e
    cases e
theorem EK.less (x : EK b bk Kn Tn Ln (Pl S m) reg tt ll kvb c G) : EK b bk Kn Tn Ln S reg tt ll kvb c G :=
  ⟨x.bx, fun a h => x.al a (.inl h), x.bo.mono (tr_less fun a h => .inl h) rfl rfl, x.hb, x.ht, x.hl, x.ll.mono (tr_less fun a h => .inl h)⟩
theorem EK.putL {ll' : List (Key × V)} (x : EK b bk Kn Tn Ln S reg tt ll kvb c G) (Sm : S Ln) (n1 : b ≠ Ln) (n2 : bk ≠ Ln) (n3 : Kn ≠ Ln) (n4 : Tn ≠ Ln) (h : ListsOk S G ll') : EK b bk Kn Tn Ln S reg tt ll' kvb c (upd G Ln (.dK ll')) :=
  ⟨x.bx.off n1.symm, x.al.upd, x.bo.mono (tr_upd Sm) (upd_ne n2) (upd_ne n3), by rw [upd_ne n2]; exact x.hb, by rw [upd_ne n4]; exact x.ht, upd_same, h.mono (tr_upd Sm)⟩
end
def lnames : List Str := ["goods", "people"]
def tnames : List Str := ["box", "line", "wide"]
theorem lnames_wd {s : Str} (h : s ∈ lnames) : Wd s := wd_of ((show ∀ s ∈ lnames, wdB s = true by decide +kernel) s h)
theorem tnames_wd {s : Str} (h : s ∈ tnames) : Wd s := wd_of ((show ∀ s ∈ tnames, wdB s = true by decide +kernel) s h)
def LPv (b bk Kn Tn Ln : Addr) (S S' : Addr → Prop) (kvb : List (Key × V)) (c : Int) (G0 : Hp) : Nat → L2.St → Hp → Prop := fun i σ G =>
  ∃ (o3 o4 o5 o6 o7 o8 o9 o10 o11 o12 o13 : Option V) (ll : List (Key × V)), σ = [some (.ref b), some (.int 6), some (.ref bk), o3, o4, o5, o6, o7, o8, o9, o10, o11, o12, o13] ∧ KS S' G0 G ∧
    EK b bk Kn Tn Ln S (fun _ => none) [] ll kvb (c + 8 * (i : Int)) G ∧ ll.length ≤ i

/-- the fields of a drawn list -/
theorem two_fields {K : PySem.W.Frag} {G : Hp} {t1 t2 : Addr} (h1 : G t1 = some (.tup [.str "p", .str "number"])) (h2 : G t2 = some (.tup [.str "t", .str "text"])) {rn : Nat} (hr : rn < 2) :
    ∃ (ps : List Addr) (kvs : List (Key × V)), ([.ref t1, .ref t2] : List V).take (1 + rn) = ps.map V.ref ∧ Paired (fun p kv => SqT K G p [kV kv.1, kv.2]) ps kvs ∧ FieldsOk (mergeK [] kvs) ∧ FldS (mergeK [] kvs) := by
  have wp : Wd "p" := wd_of (by decide +kernel)
  have wt : Wd "t" := wd_of (by decide +kernel)
  have lp : (cp (Str.ofString "p")).length ≤ 1 := by decide +kernel
  have lt : (cp (Str.ofString "t")).length ≤ 1 := by decide +kernel
  have c : rn = 0 ∨ rn = 1 := by omega
  rcases c with rfl | rfl
  · refine ⟨[t1], [(.inr "p", .str "number")], rfl, .cons (SqT.of h1) .nil, ⟨by show 1 ≤ 1; decide, by show 1 ≤ 2; decide, fun kv h => ?_⟩, fun kv h s e => ?_⟩
    · rcases mem_merge h with h | h
      · exact (List.not_mem_nil h).elim
      · rw [List.mem_singleton.mp h]
        exact ⟨"p", "number", rfl, wp, .inr rfl⟩
    · rcases mem_merge h with h | h
      · exact (List.not_mem_nil h).elim
      · rw [List.mem_singleton.mp h] at e
        cases e
        exact lp
  · refine ⟨[t1, t2], [(.inr "p", .str "number"), (.inr "t", .str "text")], rfl, .cons (SqT.of h1) (.cons (SqT.of h2) .nil), ?_⟩
    have e : mergeK [] ([(.inr "p", .str "number"), (.inr "t", .str "text")] : List (Key × V)) = [(.inr "p", .str "number"), (.inr "t", .str "text")] := by
      show putK ([(.inr "p", .str "number")] : List (Key × V)) (.inr "t") (.str "text") = _
      rw [K2.putK_new fun kv h => ?_]
      · rfl
      · rw [List.mem_singleton.mp h]
        decide
    rw [e]
    refine ⟨⟨by show 1 ≤ 2; decide, by show 2 ≤ 2; decide, fun kv h => ?_⟩, fun kv h s e => ?_⟩
    · simp only [List.mem_cons, List.not_mem_nil, or_false] at h
      rcases h with rfl | rfl
      · exact ⟨"p", "number", rfl, wp, .inr rfl⟩
      · exact ⟨"t", "text", rfl, wt, .inl rfl⟩
    · simp only [List.mem_cons, List.not_mem_nil, or_false] at h
      rcases h with rfl | rfl
      · cases e
        exact lp
      · cases e
        exact lt
theorem kept_lock {b d : Addr} {G G' : Hp} {o : HO} (hd : G d = some o) (k : ∀ z u, G z = some u → z ≠ d → z ≠ b → G' z = some u) : Kept b G (upd G' d o) := fun z u e nb => by
  by_cases zd : z = d
  · subst zd
    rw [upd_same, ← hd]
    exact e
  · rw [upd_ne zd]
    exact k z u e zd nb

/-- one template more is known -/
def regUp (reg : Reg) (nm : Str) (x : Addr × Nat) : Reg := fun s => if s = nm then some x else reg s
section
variable {S : Addr → Prop} {H : Hp} {reg reg' : Reg}
theorem KindOk.regs {n : Nat} {v : V} (x : KindOk S H reg n v) (h : ∀ s x, reg s = some x → reg' s = some x) : KindOk S H reg' n v := by
  rcases x with x | ⟨t, w, name, a, m, e, a1, b, c, d, f⟩
  · exact .inl x
  · exact .inr ⟨t, w, name, a, m, e, a1, b, c, h _ _ d, f⟩
theorem KD.regs {n : Nat} {d : Addr} (x : KD S H reg n d) (h : ∀ s x, reg s = some x → reg' s = some x) : KD S H reg' n d := by
  obtain ⟨kvs, a, b, c⟩ := x
  exact ⟨kvs, a, b, fun kv q => ⟨(c kv q).1, (c kv q).2.regs h⟩⟩
theorem regUp_keep {nm : Str} {y : Addr × Nat} (fresh : reg nm = none) : ∀ s x, reg s = some x → regUp reg nm y s = some x := by
  intro s x h
  unfold regUp
  rw [if_neg]
  · exact h
  · rintro rfl
    rw [fresh] at h
    cases h
theorem regUp_cases {nm s : Str} {y x : Addr × Nat} (h : regUp reg nm y s = some x) : (s = nm ∧ y = x) ∨ (s ≠ nm ∧ reg s = some x) := by
  unfold regUp at h
  by_cases e : s = nm
  · rw [if_pos e] at h
    exact .inl ⟨e, Option.some.inj h⟩
  · rw [if_neg e] at h
    exact .inr ⟨e, h⟩
end
/-- what is known of the templates after i of them -/
structure RK (S : Addr → Prop) (reg : Reg) (bk Kn : Addr) (i : Nat) (tt : List (Key × V)) (G : Hp) : Prop where
  rk : Ranks reg bk Kn
  nm : ∀ s x, reg s = some x → s ∈ tnames.take i
  lt : ∀ s a m, reg s = some (a, m) → m < i
  tl : tt.length ≤ i
  tk : ∀ kv ∈ tt, ∃ s, kv.1 = .inr s ∧ s ∈ tnames.take i ∧ ∃ a m, reg s = some (a, m)
  tp : ∀ kv ∈ tt, TplOk S G kv.2
  kl : ∃ kk, G Kn = some (.dK kk) ∧ kk.length ≤ i
section
variable {b bk Kn Tn Ln : Addr} {S : Addr → Prop} {reg : Reg} {tt ll kvb kk : List (Key × V)} {c : Int} {G G' : Hp} {i : Nat}
theorem RK.mono (x : RK S reg bk Kn i tt G) (h : Tr S G S G') (h1 : G' Kn = G Kn) : RK S reg bk Kn i tt G' :=
  ⟨x.rk, x.nm, x.lt, x.tl, x.tk, fun kv q => (x.tp kv q).mono h, by rw [h1]; exact x.kl⟩
theorem RK.same (x : RK S reg bk Kn i tt G) (s : Same G G') : RK S reg bk Kn i tt G' := by
  obtain ⟨kk, h, _⟩ := x.kl
  exact x.mono (tr_same s) ((s _ _ h).trans h.symm)
theorem RK.kept (x : RK S reg bk Kn i tt G) (k : Kept b G G') (Sb : S b) (n : Kn ≠ b) : RK S reg bk Kn i tt G' := by
  obtain ⟨kk, h, _⟩ := x.kl
  exact x.mono (tr_kept k Sb) ((k _ _ h n).trans h.symm)
theorem tn_new {s : Str} (h : tnames[i]? = some s) : s ∉ tnames.take i := by
  have hi : i < 3 := (List.getElem?_eq_some_iff.mp h).1
  have := (show ∀ i < 3, tnames.getD i "" ∉ tnames.take i by decide +kernel) i hi
  rw [List.getD_eq_getElem?_getD, h] at this
  exact this
theorem tn_up {s : Str} (h : s ∈ tnames.take i) : s ∈ tnames.take (i + 1) := by
  rw [List.take_add_one]
  exact List.mem_append_left _ h
theorem EK.putT {nm : Str} {v : V} {a' : Addr} {m' : Nat} (x : EK b bk Kn Tn Ln S reg tt ll kvb c G) (r : RK S reg bk Kn i tt G) (hkk : G Kn = some (.dK kk)) (lk : kk.length ≤ i) (hi : tnames[i]? = some nm) (kd : KD S G reg m' a') (lm : m' < i + 1)
    (one : ∀ s m, reg s = some (a', m) → m = m') (tpl : TplOk S G v) (Sb : S b) (Sk : S bk) (ST : S Tn) (SK : S Kn) (SL : S Ln) (n1 : b ≠ Tn) (n2 : b ≠ Kn) (n3 : bk ≠ Tn) (n4 : bk ≠ Kn) (n5 : Ln ≠ Tn) (n6 : Ln ≠ Kn) (n7 : Kn ≠ Tn) :
    EK b bk Kn Tn Ln S (regUp reg nm (a', m')) (putK tt (.inr nm) v) ll kvb c (upd (upd G Tn (.dK (putK tt (.inr nm) v))) Kn (.dK (putK kk (.inr nm) (.ref a')))) ∧
    RK S (regUp reg nm (a', m')) bk Kn (i + 1) (putK tt (.inr nm) v) (upd (upd G Tn (.dK (putK tt (.inr nm) v))) Kn (.dK (putK kk (.inr nm) (.ref a')))) := by
  have tr : Tr S G S (upd (upd G Tn (.dK (putK tt (.inr nm) v))) Kn (.dK (putK kk (.inr nm) (.ref a')))) := (tr_upd ST).tr (tr_upd SK)
  have fresh : reg nm = none := by
    cases e : reg nm with
    | none => rfl
    | some x => exact absurd (r.nm _ _ e) (tn_new hi)
  have keep := regUp_keep (y := (a', m')) fresh
  have inn : nm ∈ tnames.take (i + 1) := by
    rw [List.take_add_one, hi]
    exact List.mem_append_right _ (List.mem_singleton.mpr rfl)
  obtain ⟨kvb', hb1, hb2⟩ := x.bo.bk
  obtain ⟨kk', hk1, hk2⟩ := x.bo.kn
  have ek : kk' = kk := HO.dK.inj (Option.some.inj (hk1.symm.trans hkk))
  subst ek
  have nS : ∀ {s : Str} {m : Nat} {a : Addr}, KD S G reg m a → a ≠ bk ∧ a ≠ Kn := fun {s m a} h => by
    obtain ⟨kvs, at_, _⟩ := h
    exact ⟨fun e => at_.1 (e ▸ Sk), fun e => at_.1 (e ▸ SK)⟩
  refine ⟨⟨(x.bx.off n1.symm).off n2.symm, x.al.upd.upd, ⟨⟨kvb', by rw [upd_ne n4, upd_ne n3]; exact hb1, hb2⟩, ⟨_, upd_same, fun name a m e => ?_⟩⟩, by rw [upd_ne n4, upd_ne n3]; exact x.hb, by rw [upd_ne n7.symm]; exact upd_same, by rw [upd_ne n6, upd_ne n5]; exact x.hl, x.ll.mono tr⟩,
    ⟨⟨fun s s' a m m2 h h' => ?_, fun s a m h => ?_⟩, fun s y h => ?_, fun s a m h => ?_, ?_, fun kv h => ?_, fun kv h => ?_, ⟨_, upd_same, ?_⟩⟩⟩
  · rw [valV_put]
    rcases regUp_cases e with ⟨rfl, e2⟩ | ⟨ne, e2⟩
    · cases e2
      rw [if_pos rfl]
      exact ⟨rfl, (kd.mono tr).regs keep⟩
    · rw [if_neg (fun z => ne (Sum.inr.inj z))]
      exact ⟨(hk2 _ _ _ e2).1, ((hk2 _ _ _ e2).2.mono tr).regs keep⟩
  · rcases regUp_cases h with ⟨_, e⟩ | ⟨_, e⟩ <;> rcases regUp_cases h' with ⟨_, e'⟩ | ⟨_, e'⟩
    · cases e
      cases e'
      rfl
    · cases e
      exact (one _ _ e').symm
    · cases e'
      exact one _ _ e
    · exact r.rk.one _ _ _ _ _ e e'
  · rcases regUp_cases h with ⟨_, e⟩ | ⟨_, e⟩
    · cases e
      exact nS (s := nm) kd
    · exact r.rk.ne _ _ _ e
  · rcases regUp_cases h with ⟨e, _⟩ | ⟨_, e⟩
    · rw [e]
      exact inn
    · exact tn_up (r.nm _ _ e)
  · rcases regUp_cases h with ⟨_, e⟩ | ⟨_, e⟩
    · cases e
      exact lm
    · have := r.lt _ _ _ e
      omega
  · have := length_putK tt (.inr nm) v
    have := r.tl
    omega
  · rcases mem_put h with h | h
    · obtain ⟨s, e, h1, a, m, h2⟩ := r.tk kv h
      exact ⟨s, e, tn_up h1, a, m, keep _ _ h2⟩
    · rw [h]
      exact ⟨nm, rfl, inn, a', m', by unfold regUp; rw [if_pos rfl]⟩
  · rcases mem_put h with h | h
    · exact (r.tp kv h).mono tr
    · rw [h]
      exact tpl.mono tr
  · have := length_putK kk' (.inr nm) (.ref a')
    omega
theorem RK.tpls {n : Nat} (r : RK S reg bk Kn i tt G) (h3 : i ≤ 3) (hn : i ≤ n + 1) : TplK reg n i tt := by
  refine ⟨by have := r.tl; omega, fun kv h => ?_⟩
  obtain ⟨s, e, h1, a, m, h2⟩ := r.tk kv h
  have := r.lt _ _ _ h2
  exact ⟨s, e, .inr ⟨tnames_wd (List.mem_of_mem_take h1), a, m, h2, this, by omega⟩⟩
end
def TPv (b bk Kn Tn Ln : Addr) (S : Addr → Prop) (ll kvb : List (Key × V)) (c : Int) (G0 : Hp) : Nat → L2.St → Hp → Prop := fun i σ G =>
  ∃ (o3 o4 o5 o6 o7 o8 o9 o10 o11 o12 o13 : Option V) (reg : Reg) (tt : List (Key × V)), σ = [some (.ref b), some (.int 6), some (.ref bk), o3, o4, o5, o6, o7, o8, o9, o10, o11, o12, o13] ∧ KS S G0 G ∧
    EK b bk Kn Tn Ln S reg tt ll kvb (c + 4570 * (i : Int)) G ∧ RK S reg bk Kn i tt G

theorem scBook : FnScope ["_law_box_here", "_law_most", "_law_book_here", "_law_name", "_law_fields", "_law_rows", "_law_turn", "_law_others", "_law_base", "_law_body_here", "_law_entries_here", "_law_kinds", "_law_field", "_law_kind"] ["_law_box_here", "_law_most"] (defScope sBook) := ⟨rfl, rfl, rfl, by decide +kernel, rfl, by decide +kernel, by decide +kernel⟩
def spBook : Sp := fun vs H Q _ => ∃ (b : Addr) (c : Int), vs = [.ref b, .int 6] ∧ Box c H b ∧ c ≤ 37000 ∧
  ∀ H' bk Tn Ln S kvb tt ll v, Kept b H H' → Box (c + 32000) H' b → S b → BookT S H' bk Tn Ln kvb tt ll v → Q (.ref bk) H'

section
variable {P : Program} {w : World} {K : PySem.W.Frag} {mg : Str → Option Value} {base : Heap}
theorem ok_book {f fO fT fP fB fE : Addr} {fd fdO fdT fdP fdB fdE : FuncData} (F : Fun K "_law_book" "_law_book" sBook f fd) (Z : Bare mg) (zs : mg "sorted" = none) (zd : mg "dict" = none)
    (FO : Fun K "_law_of" "_law_of" sOf fO fdO) (bO : Binds K fdO ["_law_box_here", "_law_some"] []) (gO : mg "_law_of" = some (.ref fO))
    (GO : FnOk P w K mg base CX0 2 fO fdO ["_law_box_here", "_law_some"] spOf)
    (FT : Fun K "_law_take" "_law_take" sTake fT fdT) (bT : Binds K fdT ["_law_box_here", "_law_many"] []) (gT : mg "_law_take" = some (.ref fT))
    (GT : FnOk P w K mg base CX0 1 fT fdT ["_law_box_here", "_law_many"] spTake)
    (FP : Fun K "_law_plain" "_law_plain" sPlain fP fdP) (bP : Binds K fdP ["_law_box_here", "_law_kind"] []) (gP : mg "_law_plain" = some (.ref fP))
    (GP : FnOk P w K mg base CX0 3 fP fdP ["_law_box_here", "_law_kind"] spPlain)
    (FB : Fun K "_law_body" "_law_body" sBody fB fdB) (bB : Binds K fdB ["_law_box_here", "_law_book_here", "_law_name", "_law_some", "_law_is_own"] []) (gB : mg "_law_body" = some (.ref fB))
    (GB : FnOk P w K mg base CX0 7 fB fdB ["_law_box_here", "_law_book_here", "_law_name", "_law_some", "_law_is_own"] (spBody 1))
    (FE : Fun K "_law_entries" "_law_entries" sEntries fE fdE) (bE : Binds K fdE ["_law_box_here", "_law_book_here", "_law_most"] []) (gE : mg "_law_entries" = some (.ref fE))
    (GE1 : FnOk P w K mg base CX0 9 fE fdE ["_law_box_here", "_law_book_here", "_law_most"] (spEntries 1))
    (GE2 : FnOk P w K mg base CX0 10 fE fdE ["_law_box_here", "_law_book_here", "_law_most"] (spEntries 2)) :
    FnOk P w K mg base CX0 11 f fd ["_law_box_here", "_law_most"] spBook := by
  refine F.ok scBook (fun vs H Q E h => ?_) (fun cdv A outer s H vs Q E hr h => ?_)
  · obtain ⟨b, c, rfl, _⟩ := h
    rfl
  · obtain ⟨b, c, rfl, hb, hc, q⟩ := h
    have hr1 : Room 1 _ := hr.mono (by decide)
    have hr2 : Room 2 _ := hr.mono (by decide)
    have hr3 : Room 3 _ := hr.mono (by decide)
    have hr7 : Room 7 _ := hr.mono (by decide)
    have hr9 : Room 9 _ := hr.mono (by decide)
    refine ⟨_, pss_cons (ps_set (i := 2) scBook.nd rfl (.inl rfl) (pe_disp (pps_cons pe_str pe_dnewK (pps_cons pe_str pe_dnewK (pps_cons pe_str pe_dnewK pps_nil))) rfl rfl (by decide) (by decide)))
      (pss_cons (ps_for PassesOwn.never rfl (pi_list (pe_slice sl_list (pe_lst (pa_cons pe_str (pa_cons pe_str pa_nil))) po_none
            (po_some (pe_call GT hr1 (by rfl) gT FT.kp bT .nil pass0 (pa_cons (pv 0) (pa_cons pe_int pa_nil))))))
          (pg_name (i := 3) scBook.nd rfl (.inl rfl))
        (pss_cons (ps_set (i := 4) scBook.nd rfl (.inl rfl) (pe_callTy (call_dictP rfl) (by rfl) zd (by decide +kernel) (pa_cons (pe_slice sl_list
            (pe_lst (pa_cons (pe_tup (pa_cons pe_str (pa_cons pe_str pa_nil))) (pa_cons (pe_tup (pa_cons pe_str (pa_cons pe_str pa_nil))) pa_nil))) po_none
            (po_some (pe_op op_add pe_int (pe_call GT hr1 (by rfl) gT FT.kp bT .nil pass0 (pa_cons (pv 0) (pa_cons pe_int pa_nil)))))) pa_nil)))
        (pss_cons (ps_set (i := 5) scBook.nd rfl (.inl rfl) (pe_lst pa_nil))
        (pss_cons (ps_for PassesOwn.never rfl (pi_range1 (by rfl) Z.range (pa_cons (pe_call GT hr1 (by rfl) gT FT.kp bT .nil pass0 (pa_cons (pv 0) (pa_cons pe_int pa_nil))) pa_nil))
            (pg_name (i := 6) scBook.nd rfl (.inl rfl))
          (pss_one (ps_expr (pe_bm PySem.F.plainAttrs_list PySem.F.slot_list_append PySem.F.type_list_append mt_append (pv 5)
            (pa_cons (pe_callTy (call_dictP rfl) (by rfl) zd (by decide +kernel) (pa_cons (pe_lock
              (pe_lc (own := [("_law_field", 12), ("_law_kind", 13)]) (g := gTup K 2 (gCons (gName 12) (gCons (gName 13) gNil))) (tt := tYes) rfl scBook.nd (pi_items (pv 4))
                (blkOk_by (N := ["_law_box_here", "_law_most", "_law_book_here", "_law_name", "_law_fields", "_law_rows", "_law_turn", "_law_others", "_law_base", "_law_body_here", "_law_entries_here", "_law_kinds", "_law_field", "_law_kind"]) (sc := defScope sBook) (by decide +kernel))
                (fun _ _ _ _ _ => pg_tup rfl (pgs_cons (pg_name (i := 12) scBook.nd rfl (.inl rfl)) (pgs_cons (pg_name (i := 13) scBook.nd rfl (.inl rfl)) pgs_nil)))
                (fun _ _ _ _ _ => pts_nil)
                (fun _ _ _ _ _ => pe_tup (pa_cons (pv 12) (pa_cons (pe_ix (r := rIxT K) ix_tup (pe_call GP hr3 (by rfl) gP FP.kp bP .nil pass0 (pa_cons (pv 0) (pa_cons (pv 13) pa_nil))) pe_int (fun _ _ => rfl)) pa_nil))))) pa_nil)) pa_nil)))))
        (pss_one (ps_dput (hu_of hr) (pe_dget (hu_of hr) (pv 2) pe_str (fun _ _ => rfl)) (pv 3) (pe_tup (pa_cons (pv 4) (pa_cons (pv 5) pa_nil))) rfl))))))
      (pss_cons (ps_for PassesOwn.never rfl (pi_list (pe_slice sl_list (pe_lst (pa_cons pe_str (pa_cons pe_str (pa_cons pe_str pa_nil)))) po_none
            (po_some (pe_call GT hr1 (by rfl) gT FT.kp bT .nil pass0 (pa_cons (pv 0) (pa_cons pe_int pa_nil))))))
          (pg_name (i := 3) scBook.nd rfl (.inl rfl))
        (pss_cons (ps_set (i := 7) scBook.nd rfl (.inl rfl) (pe_callB (call_sortedD rfl) (by rfl) zs (by decide +kernel) (pa_cons (pe_dget (hu_of hr) (pv 2) pe_str (fun _ _ => rfl)) pa_nil)))
        (pss_one (ps_if (PW.pt (pw_and (pt_cmpR (op_neD hr.units) (pv 7) (pe_lst pa_nil) (nomark _)) (pw_and1 (pt_cmpR op_eq (pe_call GT hr1 (by rfl) gT FT.kp bT .nil pass0 (pa_cons (pv 0) (pa_cons pe_int pa_nil))) pe_int (nomark _)))))
          (pss_cons (ps_set (i := 8) scBook.nd rfl (.inl rfl) (pe_call GO hr2 (by rfl) gO FO.kp bO .nil pass0 (pa_cons (pv 0) (pa_cons (pv 7) pa_nil))))
          (pss_cons (ps_set (i := 9) scBook.nd rfl (.inl rfl) (pe_call GB hr7 (by rfl) gB FB.kp bB .nil pass0 (pa_cons (pv 0) (pa_cons (pv 2) (pa_cons (pv 8) (pa_cons (pe_lst pa_nil) (pa_cons pe_bl pa_nil)))))))
          (pss_one (ps_asg (pe_tup (pa_cons (pe_tup (pa_cons (pv 8) (pa_cons (pv 9) pa_nil))) (pa_cons (pe_dget (hu_of hr) (pe_dget (hu_of hr) (pv 2) pe_str (fun _ _ => rfl)) (pv 8) (fun _ _ => rfl)) pa_nil)))
            (pg_tup rfl (pgs_cons (pg_sub (pe_dget (hu_of hr) (pv 2) pe_str (fun _ _ => rfl)) (pv 3) (set_dict (hu_of hr))) (pgs_cons (pg_sub (pe_dget (hu_of hr) (pv 2) pe_str (fun _ _ => rfl)) (pv 3) (set_dict (hu_of hr))) pgs_nil)))))))
          (pss_cons (ps_asg (pe_call GE1 hr9 (by rfl) gE FE.kp bE .nil pass0 (pa_cons (pv 0) (pa_cons (pv 2) (pa_cons pe_int pa_nil)))) (pg_tup rfl (pgs_cons (pg_name (i := 10) scBook.nd rfl (.inl rfl)) (pgs_cons (pg_name (i := 11) scBook.nd rfl (.inl rfl)) pgs_nil))))
          (pss_one (ps_asg (pe_tup (pa_cons (pe_tup (pa_cons pe_non (pa_cons (pv 10) pa_nil))) (pa_cons (pv 11) pa_nil)))
            (pg_tup rfl (pgs_cons (pg_sub (pe_dget (hu_of hr) (pv 2) pe_str (fun _ _ => rfl)) (pv 3) (set_dict (hu_of hr))) (pgs_cons (pg_sub (pe_dget (hu_of hr) (pv 2) pe_str (fun _ _ => rfl)) (pv 3) (set_dict (hu_of hr))) pgs_nil))))))))))
      (pss_cons (ps_asg (pe_call GE2 hr (by rfl) gE FE.kp bE .nil pass0 (pa_cons (pv 0) (pa_cons (pv 2) (pa_cons (pv 1) pa_nil)))) (pg_tup rfl (pgs_cons (pg_name (i := 10) scBook.nd rfl (.inl rfl)) (pgs_cons (pg_name (i := 11) scBook.nd rfl (.inl rfl)) pgs_nil))))
      (pss_cons (ps_asg (pe_tup (pa_cons (pe_tup (pa_cons pe_non (pa_cons (pv 10) pa_nil))) (pa_cons (pv 11) pa_nil)))
            (pg_tup rfl (pgs_cons (pg_sub (pe_dget (hu_of hr) (pv 2) pe_str (fun _ _ => rfl)) pe_str (set_dict (hu_of hr))) (pgs_cons (pg_sub (pe_dget (hu_of hr) (pv 2) pe_str (fun _ _ => rfl)) pe_str (set_dict (hu_of hr))) pgs_nil))))
      (pss_one (ps_ret (pv 2))))))), ?_⟩
    have cE1 : cE 1 = 4562 := by decide
    have cE2 : cE 2 = 18002 := by decide
    have cB1 : cB 1 = 700 := by decide
    -- the book
    intro bk nbk Ln nL Tn nT Kn nK
    have h1 := same_upd (o := .dK []) nbk
    have h2 := same_upd (o := .dK []) nL
    have h3 := same_upd (o := .dK []) nT
    have h4 := same_upd (o := .dK []) nK
    have n_Lb : Ln ≠ bk := (ne_of_none (upd_same) nL).symm
    have n_TL : Tn ≠ Ln := (ne_of_none upd_same nT).symm
    have n_Tb : Tn ≠ bk := (ne_of_none (h2 _ _ upd_same) nT).symm
    have n_KT : Kn ≠ Tn := (ne_of_none upd_same nK).symm
    have n_KL : Kn ≠ Ln := (ne_of_none (h3 _ _ upd_same) nK).symm
    have n_Kb : Kn ≠ bk := (ne_of_none (h3 _ _ (h2 _ _ upd_same)) nK).symm
    have s14 : Same H (upd (upd (upd (upd H bk (.dK [])) Ln (.dK [])) Tn (.dK [])) Kn (.dK [])) := sTr (sTr (sTr h1 h2) h3) h4
    have nLH : H Ln = none := same_free h1 nL
    have nTH : H Tn = none := same_free (sTr h1 h2) nT
    have nKH : H Kn = none := same_free (sTr (sTr h1 h2) h3) nK
    refine ⟨h4 _ _ (h3 _ _ (h2 _ _ upd_same)), [(.inr "lists", .ref Ln), (.inr "templates", .ref Tn), (.inr "kinds", .ref Kn)], rfl, by show 3 ≤ 15; decide, ?_⟩
    obtain ⟨kvb, hkvb⟩ : ∃ kvb, kvb = mergeK [] ([(.inr "lists", .ref Ln), (.inr "templates", .ref Tn), (.inr "kinds", .ref Kn)] : List (Key × V)) := ⟨_, rfl⟩
    have hm3 : kvb = putK (putK (putK ([] : List (Key × V)) (.inr "lists") (.ref Ln)) (.inr "templates") (.ref Tn)) (.inr "kinds") (.ref Kn) := hkvb
    have hvl : valV kvb (.inr "lists") = some (.ref Ln) := by rw [hm3, valV_put, if_neg (by decide), valV_put, if_neg (by decide), valV_put, if_pos rfl]
    have hvt : valV kvb (.inr "templates") = some (.ref Tn) := by rw [hm3, valV_put, if_neg (by decide), valV_put, if_pos rfl]
    have hvk : valV kvb (.inr "kinds") = some (.ref Kn) := by rw [hm3, valV_put, if_pos rfl]
    rw [← hkvb]
    let S : Addr → Prop := fun z => z = b ∨ z = bk ∨ z = Ln ∨ z = Tn ∨ z = Kn
    have Sb : S b := .inl rfl
    have Sbk : S bk := .inr (.inl rfl)
    have SL : S Ln := .inr (.inr (.inl rfl))
    have ST : S Tn := .inr (.inr (.inr (.inl rfl)))
    have SK : S Kn := .inr (.inr (.inr (.inr rfl)))
    have nbk_b : bk ≠ b := hb.ne nbk
    have nLb : Ln ≠ b := hb.ne nLH
    have nTb : Tn ≠ b := hb.ne nTH
    have nKb : Kn ≠ b := hb.ne nKH
    have sH : Same H (upd (upd (upd (upd (upd H bk (.dK [])) Ln (.dK [])) Tn (.dK [])) Kn (.dK [])) bk (.dK kvb)) := fun z o e => by
      rw [upd_ne (ne_of_none e nbk)]
      exact s14 _ _ e
    have E0 : EK b bk Kn Tn Ln S (fun _ => none) [] [] kvb c (upd (upd (upd (upd (upd H bk (.dK [])) Ln (.dK [])) Tn (.dK [])) Kn (.dK [])) bk (.dK kvb)) := by
      have gL : (upd (upd (upd (upd (upd H bk (.dK [])) Ln (.dK [])) Tn (.dK [])) Kn (.dK [])) bk (.dK kvb)) Ln = some (.dK []) := by rw [upd_ne n_Lb]; exact h4 _ _ (h3 _ _ upd_same)
      have gT : (upd (upd (upd (upd (upd H bk (.dK [])) Ln (.dK [])) Tn (.dK [])) Kn (.dK [])) bk (.dK kvb)) Tn = some (.dK []) := by rw [upd_ne n_Tb]; exact h4 _ _ upd_same
      have gK : (upd (upd (upd (upd (upd H bk (.dK [])) Ln (.dK [])) Tn (.dK [])) Kn (.dK [])) bk (.dK kvb)) Kn = some (.dK []) := by rw [upd_ne n_Kb]; exact upd_same
      refine ⟨hb.same sH, fun z hz e => ?_, ⟨⟨kvb, upd_same, hvk⟩, ⟨[], gK, fun name a m e => nomatch e⟩⟩, upd_same, gT, gL, ⟨Nat.zero_le _, fun kv h => (List.not_mem_nil h).elim⟩⟩
      rcases hz with rfl | rfl | rfl | rfl | rfl
      · exact (hb.same sH).some e
      · rw [upd_same] at e; cases e
      · rw [gL] at e; cases e
      · rw [gT] at e; cases e
      · rw [gK] at e; cases e
    have hK0 : (upd (upd (upd (upd (upd H bk (.dK [])) Ln (.dK [])) Tn (.dK [])) Kn (.dK [])) bk (.dK kvb)) Kn = some (.dK []) := by rw [upd_ne n_Kb]; exact upd_same
    generalize upd (upd (upd (upd (upd H bk (.dK [])) Ln (.dK [])) Tn (.dK [])) Kn (.dK [])) bk (.dK kvb) = G0 at sH E0 hK0 ⊢
    let S' : Addr → Prop := fun z => z = b ∨ z = Ln
    have Sb' : S' b := .inl rfl
    have SL' : S' Ln := .inr rfl
    have sub : ∀ a, S' a → S a := fun a z => z.elim .inl fun z => .inr (.inr (.inl z))
    -- the lists
    refine ⟨by show 2 ≤ sizeLine; decide, fun D0 nD0 => ?_⟩
    obtain ⟨s1, f1, _⟩ := grow (o := .lst (lnames.map V.str)) nD0
    refine ⟨.ref b, rfl, b, 3, c, rfl, (E0.same s1).bx, by decide, by decide, by omega, fun G1 rr kp1 b1 r0 r1 => ?_⟩
    obtain ⟨rn, rfl⟩ : ∃ rn : Nat, rr = (rn : Int) := ⟨rr.toNat, by omega⟩
    refine ⟨rn, rfl, D0, lnames.map V.str, rfl, SqL.of (kp1 _ _ f1 (E0.bx.ne nD0)), fun p np => ?_⟩
    rw [cut_take (lnames.map V.str) rn (by rw [List.length_map]; show rn ≤ 2; omega), ← List.map_take]
    obtain ⟨s2, f2, _⟩ := grow (o := .lst ((lnames.take rn).map V.str)) np
    have E2 := ((E0.same s1).kept kp1 b1 Sb).same s2
    have k02 : KS S H (upd G1 p (.lst ((lnames.take rn).map V.str))) := ((KS.of (sTr sH s1)).tr (KS.kept kp1 Sb)).tr (KS.of s2)
    have hK2 : (upd G1 p (.lst ((lnames.take rn).map V.str))) Kn = some (.dK []) := s2 _ _ (kp1 _ _ (s1 _ _ hK0) nKb)
    have nSp : ¬ S p := ((E0.same s1).kept kp1 b1 Sb).al.new np
    generalize upd G1 p (.lst ((lnames.take rn).map V.str)) = G2 at E2 k02 f2 hK2 ⊢
    refine ⟨p, rfl, ⟨_, SqL.of f2⟩, for_list (xs := (lnames.take rn).map V.str) (LPv b bk Kn Tn Ln S S' kvb (c + 1) G2) ?_ ?_ ?_ ?_⟩
    · exact ⟨none, none, none, none, none, none, none, none, none, none, none, [], rfl, KS.rf, E2.le (by rw [Int.natCast_zero, Int.mul_zero]; omega), Nat.le_refl _⟩
    · rintro i σ G _ ⟨_, _, _, _, _, _, _, _, _, _, _, _, _, z, _⟩
      exact SqL.of (z _ _ f2 fun w => nSp (sub _ w))
    · rintro i x σ G hx ⟨o3, o4, o5, o6, o7, o8, o9, o10, o11, o12, o13, ll, rfl, kG, EG, lll⟩
      rw [List.getElem?_map] at hx
      obtain ⟨nm, hs, rfl⟩ := Option.map_eq_some_iff.mp hx
      have hnm : Wd nm := lnames_wd (List.mem_of_mem_take (List.mem_of_getElem? hs))
      have hi : i < 2 := by
        have := (List.getElem?_eq_some_iff.mp hs).1
        rw [List.length_take] at this
        have : lnames.length = 2 := rfl
        omega
      -- fields
      refine ⟨by show 2 ≤ sizeLine; decide, fun t1 nt1 => ?_⟩
      obtain ⟨s3, f3, _⟩ := grow (o := .tup [.str "p", .str "number"]) nt1
      refine ⟨by show 2 ≤ sizeLine; decide, fun t2 nt2 => ?_⟩
      obtain ⟨s4, f4, _⟩ := grow (o := .tup [.str "t", .str "text"]) nt2
      refine ⟨by show 2 ≤ sizeLine; decide, fun D1 nD1 => ?_⟩
      obtain ⟨s5, f5, _⟩ := grow (o := .lst [.ref t1, .ref t2]) nD1
      have E5 := ((EG.same s3).same s4).same s5
      refine ⟨.ref b, rfl, b, 2, _, rfl, E5.bx, by decide, by decide, by omega, fun G6 r2 kp6 b6 r20 r22 => ?_⟩
      obtain ⟨m2, rfl⟩ : ∃ m2 : Nat, r2 = (m2 : Int) := ⟨r2.toNat, by omega⟩
      have nD1b : D1 ≠ b := ((EG.same s3).same s4).bx.ne nD1
      have nt1b : t1 ≠ b := EG.bx.ne nt1
      have nt2b : t2 ≠ b := (EG.same s3).bx.ne nt2
      refine ⟨1, m2, rfl, rfl, 1 + m2, rfl, D1, _, rfl, SqL.of (kp6 _ _ f5 nD1b), fun p2 np2 => ?_⟩
      have ecut : cutV ([.ref t1, .ref t2] : List V) none (some (1 + (m2 : Int))) = ([.ref t1, .ref t2] : List V).take (1 + m2) := by
        have := cut_take ([.ref t1, .ref t2] : List V) (1 + m2) (by show 1 + m2 ≤ 2; omega)
        rw [Int.natCast_add] at this
        exact this
      rw [ecut]
      have E6 := E5.kept kp6 b6 Sb
      obtain ⟨s7, f7, _⟩ := grow (o := .lst (([.ref t1, .ref t2] : List V).take (1 + m2))) np2
      obtain ⟨ps, kvs, eps, pps, fok, fsh⟩ := two_fields (K := K) (s7 _ _ (kp6 _ _ (s5 _ _ (s4 _ _ f3)) nt1b)) (s7 _ _ (kp6 _ _ (s5 _ _ f4) nt2b)) (rn := m2) (by omega)
      rw [eps] at f7 s7 pps ⊢
      refine ⟨p2, ps, kvs, rfl, SqL.of f7, pps, fun fA nfA => ?_⟩
      obtain ⟨fs, hfs⟩ : ∃ fs, fs = mergeK [] kvs := ⟨_, rfl⟩
      rw [← hfs] at fok fsh ⊢
      obtain ⟨s8, f8, _⟩ := grow (o := .dK fs) nfA
      have E7 := E6.same s7
      have E8 := E7.same s8
      have kG8 : KS S' G2 (upd (upd G6 p2 (.lst (ps.map V.ref))) fA (.dK fs)) := ((((kG.tr (KS.of s3)).tr (KS.of s4)).tr (KS.of s5)).tr (KS.kept kp6 Sb')).tr ((KS.of s7).tr (KS.of s8))
      have nSfA : ¬ S fA := E7.al.new nfA
      generalize upd (upd G6 p2 (.lst (ps.map V.ref))) fA (.dK fs) = G8 at E8 kG8 f8 ⊢
      -- rows
      refine ⟨Nat.zero_le _, fun rA nrA => ?_⟩
      have E9 := E8.new (o := .lst []) nrA
      have f9 : (upd G8 rA (.lst [])) fA = some (.dK fs) := same_upd nrA _ _ f8
      have nAr : fA ≠ rA := ne_of_none f8 nrA
      have nSrA : ¬ S rA := E8.al.new nrA
      have nrb : rA ≠ b := E8.bx.ne nrA
      have SbP : Pl S rA b := .inl Sb
      have SbP' : Pl S' rA b := .inl Sb'
      refine ⟨.ref b, rfl, b, 4, _, rfl, E9.bx, by decide, by decide, by omega, fun G10 r4 kp10 b10 r40 r44 => ?_⟩
      have E10 := E9.kept kp10 b10 SbP
      have k810 : KS (Pl S' rA) G8 G10 := (KS.of (same_upd nrA)).tr (KS.kept kp10 SbP')
      have f10 : G10 fA = some (.dK fs) := kp10 _ _ f9 (by rintro rfl; exact nSfA Sb)
      have r10 : G10 rA = some (.lst []) := kp10 _ _ upd_same nrb
      refine ⟨r4, rfl, by omega, by omega, for_range (lo := 0) (n := r4.toNat) (fun j σ G => ∃ (o6 o12 o13 : Option V) (rows : List V), σ = [some (.ref b), some (.int 6), some (.ref bk), some (.str nm), some (.ref fA), some (.ref rA), o6, o7, o8, o9, o10, o11, o12, o13] ∧
        KS (Pl S' rA) G8 G ∧ EK b bk Kn Tn Ln (Pl S rA) (fun _ => none) [] ll kvb (c + 1 + 8 * (i : Int) + 2 + 2 * (j : Int)) G ∧ G rA = some (.lst rows) ∧ (∀ x ∈ rows, RowOk (Pl S rA) G x) ∧ rows.length ≤ j) ?_ ?_ ?_⟩
      · exact ⟨o6, o12, o13, [], rfl, k810, E10.le (by rw [Int.natCast_zero, Int.mul_zero]; omega), r10, fun x h => (List.not_mem_nil h).elim, Nat.le_refl _⟩
      · rintro j σ G hj ⟨o6', o12', o13', rows, rfl, kGj, EGj, rGj, hrows, lrows⟩
        have hj3 : j < 3 := by omega
        have nPfA : ¬ Pl S' rA fA := fun z => z.elim (fun w => nSfA (sub _ w)) nAr
        have fGj : G fA = some (.dK fs) := kGj _ _ f8 nPfA
        obtain ⟨fl1, fl2, fel⟩ := fok
        refine ⟨.ref rA, rfl, .inl ⟨rfl, _, SqL.of rGj⟩, ?_⟩
        refine ⟨fA, .dK fs, fGj, trivial, fun od => ?_⟩
        refine ⟨.ref fA, rfl, fA, od, fs, rfl, upd_same, fun D nD => ?_⟩
        have nDf : D ≠ fA := by
          rintro rfl
          rw [upd_same] at nD
          cases nD
        have nDG : G D = none := by
          rw [upd_ne nDf] at nD
          exact nD
        have nfb : fA ≠ b := by rintro rfl; exact nSfA Sb
        have nDb : D ≠ b := EGj.bx.ne nDG
        refine lc_it (walk_items (d := fA) (o := od) (kvs := fs)) (fun a G' => (∀ z u, G z = some u → z ≠ fA → z ≠ b → G' z = some u) ∧ G' fA = some (.frz od (.dK fs)) ∧ Box (c + 1 + 8 * (i : Int) + 2 + 2 * (j : Int) + (a : Int)) G' b ∧
          ∃ (ps : List Addr) (kvs : List (Key × V)), G' D = some (.lst (ps.map V.ref)) ∧ ps.length ≤ a ∧ kvs.length ≤ a ∧ Paired (fun p kv => G' p = some (.tup [kV kv.1, kv.2]) ∧ p ≠ D ∧ p ≠ fA ∧ p ≠ b) ps kvs ∧ ∀ kv ∈ kvs, (∃ s, kv.1 = .inr s ∧ Wd s) ∧ Lit kv.2)
          ⟨fun z u e n1 _ => by rw [upd_ne (ne_of_none e nDG), upd_ne n1]; exact e, by rw [upd_ne nDf.symm, upd_same], ?_, [], [], upd_same, Nat.le_refl _, Nat.le_refl _, .nil, fun kv h => (List.not_mem_nil h).elim⟩ (fun a G' _ z => z.2.1) ?_ ?_
        · rw [Int.natCast_zero, Int.add_zero]
          exact (EGj.bx.off nfb).off nDb
        · rintro a x G' G'' ha ⟨kA, fA', bA, ps, kvs, DA, lps, lkvs, pA, litA⟩ ⟨T2, x', y', rfl, nT2, rfl, e1, e2⟩
          obtain ⟨kv, hkv⟩ : ∃ kv, fs[a]? = some kv := ⟨_, List.getElem?_eq_getElem ha⟩
          replace e1 : (fs[a]?.map fun kv => kV kv.1) = some x' := e1
          replace e2 : fs[a]?.map Prod.snd = some y' := e2
          rw [hkv] at e1 e2
          cases e1
          cases e2
          obtain ⟨fn, fk, efk, wfn, hkd⟩ := fel kv (List.mem_of_getElem? hkv)
          subst efk
          have a2 : a < 2 := by omega
          obtain ⟨sT, fT, _⟩ := grow (o := .tup [kV (.inr fn), .str fk]) nT2
          refine ⟨T2, _, rfl, SqT.of fT, rfl, _, _, rfl, _, _, rfl, rfl, rfl, ?_⟩
          refine ⟨.str fn, rfl, .ref b, rfl, .str fk, rfl, b, fk, _, rfl, bA.same sT, by omega, fun G4 t4 v4 kp4 b4 nt4 ft4 hv4 => ?_⟩
          refine ⟨t4, _, 1, v4, rfl, rfl, SqT.of ft4, atI_nat (j := 1) rfl, ?_⟩
          refine ⟨by show 2 ≤ sizeLine; decide, fun t5 nt5 => ?_⟩
          obtain ⟨s5', f5', _⟩ := grow (o := .tup [.str fn, v4]) nt5
          have D4 := s5' _ _ (kp4 _ _ (sT _ _ DA) nDb)
          have nt5D : t5 ≠ D := (ne_of_none (kp4 _ _ (sT _ _ DA) nDb) nt5).symm
          have nt5f : t5 ≠ fA := (ne_of_none (kp4 _ _ (sT _ _ fA') nfb) nt5).symm
          have nt5b : t5 ≠ b := b4.ne nt5
          refine ⟨ps.map V.ref, D4, by rw [List.length_map]; exact small1000 (by omega), fun z u e n1 n2 => ?_, ?_, ?_, ps ++ [t5], kvs ++ [(.inr fn, v4)], by rw [upd_same, List.map_append]; rfl, by rw [List.length_append, List.length_singleton]; omega, by rw [List.length_append, List.length_singleton]; omega, ?_, fun kv h => ?_⟩
          · rw [upd_ne (ne_of_none e nDG)]
            exact s5' _ _ (kp4 _ _ (sT _ _ (kA z u e n1 n2)) n2)
          · rw [upd_ne nDf.symm]
            exact s5' _ _ (kp4 _ _ (sT _ _ fA') nfb)
          · exact ((b4.same s5').off nDb).le (by rw [Int.natCast_add]; omega)
          · refine paired_snoc (paired_imp pA fun p kv h => ⟨?_, h.2⟩) ⟨?_, nt5D, nt5f, nt5b⟩
            · rw [upd_ne h.2.1]
              exact s5' _ _ (kp4 _ _ (sT _ _ h.1) h.2.2.2)
            · rw [upd_ne nt5D]
              exact f5'
          · rcases List.mem_append.mp h with h | h
            · exact litA kv h
            · rw [List.mem_singleton.mp h]
              exact ⟨⟨fn, rfl, wfn⟩, hv4⟩
        · rintro G' ⟨kA, fA', bA, ps, kvs, DA, lps, lkvs, pA, litA⟩
          refine ⟨fA', ?_⟩
          have kpL : Kept b G (upd G' fA (.dK fs)) := kept_lock fGj kA
          have bL : Box _ (upd G' fA (.dK fs)) b := bA.off nfb
          have EL := EGj.kept kpL bL SbP
          have DL : (upd G' fA (.dK fs)) D = some (.lst (ps.map V.ref)) := by rw [upd_ne nDf]; exact DA
          have pL : Paired (fun p kv => SqT K (upd G' fA (.dK fs)) p [kV kv.1, kv.2]) ps kvs := paired_imp pA fun p kv h => SqT.of (by rw [upd_ne h.2.2.1]; exact h.1)
          have rL : (upd G' fA (.dK fs)) rA = some (.lst rows) := kpL _ _ rGj nrb
          generalize upd G' fA (.dK fs) = GL at kpL bL EL DL pL rL ⊢
          refine ⟨D, ps, kvs, rfl, SqL.of DL, pL, fun d nd => ?_⟩
          obtain ⟨sd, fd', _⟩ := grow (o := .dK (mergeK [] kvs)) nd
          have rM := sd _ _ rL
          have EM := EL.same sd
          have atd : At (Pl S rA) (upd GL d (.dK (mergeK [] kvs))) d (.dK (mergeK [] kvs)) := ⟨EL.al.new nd, fd'⟩
          have lm := length_mergeK kvs []
          rw [List.length_nil] at lm
          have fsl := fl2
          have rowd : RowOk (Pl S rA) (upd GL d (.dK (mergeK [] kvs))) (.ref d) := ⟨d, _, rfl, atd, by omega, fun kv h => by
            rcases mem_merge h with h | h
            · exact (List.not_mem_nil h).elim
            · exact litA kv h⟩
          have trj : Tr (Pl S rA) G (Pl S rA) (upd GL d (.dK (mergeK [] kvs))) := (tr_kept kpL SbP).tr (tr_same sd)
          generalize upd GL d (.dK (mergeK [] kvs)) = GM at sd rM EM rowd trj ⊢
          refine ⟨rA, rows, _, rfl, rfl, rM, small1000 (by omega), ?_⟩
          have ut : Tr (Pl S rA) GM (Pl S rA) (upd GM rA (.lst (rows ++ [.ref d]))) := tr_upd (.inr rfl)
          refine ⟨_, _, _, rows ++ [.ref d], rfl, (kGj.tr ((KS.kept kpL SbP').tr (KS.of sd))).tr (KS.upd (.inr rfl)), ?_, upd_same, fun x h => ?_, by rw [List.length_append, List.length_singleton]; omega⟩
          · exact (EM.put (.inr rfl) nrb.symm (fun e => nSrA (e ▸ Sbk)) (fun e => nSrA (e ▸ SK)) (fun e => nSrA (e ▸ ST)) (fun e => nSrA (e ▸ SL))).le (by rw [Int.natCast_add]; omega)
          · rcases List.mem_append.mp h with h | h
            · exact ((hrows x h).mono trj).mono ut
            · rw [List.mem_singleton.mp h]
              exact rowd.mono ut
      · rintro σ G ⟨o6', o12', o13', rows, rfl, kGj, EGj, rGj, hrows, lrows⟩
        have nPfA : ¬ Pl S' rA fA := fun z => z.elim (fun w => nSfA (sub _ w)) nAr
        have fGj : G fA = some (.dK fs) := kGj _ _ f8 nPfA
        have EGs := EGj.less
        have trL : Tr (Pl S rA) G S G := tr_less fun a h => .inl h
        refine ⟨.ref fA, rfl, .ref rA, rfl, by show 2 ≤ sizeLine; decide, fun t nt => ?_⟩
        obtain ⟨st, ft, _⟩ := grow (o := .tup [.ref fA, .ref rA]) nt
        have Et := EGs.same st
        have lok : ListOk S (upd G t (.tup [.ref fA, .ref rA])) (.ref t) := ⟨t, fA, rA, fs, rows, rfl, ⟨EGs.al.new nt, ft⟩, ⟨nSfA, st _ _ fGj⟩, fok, ⟨nSrA, st _ _ rGj⟩, fun x h => ((hrows x h).mono trL).mono (tr_same st), by omega, fsh⟩
        have kGt : KS S' G2 (upd G t (.tup [.ref fA, .ref rA])) := by
          refine kG8.tr (fun a o e n => ?_)
          refine st _ _ (kGj a o e fun z => z.elim n fun z => ?_)
          rw [z, nrA] at e
          cases e
        generalize upd G t (.tup [.ref fA, .ref rA]) = Gt at Et lok kGt ⊢
        refine ⟨.ref bk, rfl, bk, .ref Ln, rfl, hvl ▸ DGet.k (k := .inr "lists") Et.hb, .str nm, rfl, Ln, _, rfl, DPut.k (k := .inr nm) Et.hl (Nat.lt_of_le_of_lt (by omega : ll.length ≤ 1000) (by decide)), ?_⟩
        have lp := length_putK ll (.inr nm) (.ref t)
        refine ⟨_, _, _, _, _, _, _, _, _, _, _, putK ll (.inr nm) (.ref t), rfl, kGt.tr (KS.upd SL'), ?_, by omega⟩
        refine (Et.putL SL nLb.symm (Ne.symm n_Lb) n_KL n_TL ⟨by omega, fun kv h => ?_⟩).le (by rw [Int.natCast_add]; omega)
        rcases mem_put h with h | h
        · exact Et.ll.2 kv h
        · rw [h]
          exact ⟨⟨nm, rfl, hnm⟩, lok⟩
    · rintro σ G ⟨o3, o4, o5, o6, o7, o8, o9, o10, o11, o12, o13, ll, rfl, kG, EG, lll⟩
      have ll2 : (((lnames.take rn).map V.str).length : Int) ≤ 2 := by
        rw [List.length_map, List.length_take]
        have : lnames.length = 2 := rfl
        omega
      have EG := EG.le (show _ ≤ c + 17 by omega)
      have k0G := k02.tr (kG.sub sub)
      have hKG : G Kn = some (.dK []) := kG _ _ hK2 fun z => z.elim nKb n_KL
      clear kG lll ll2
      -- the templates
      refine ⟨by show 3 ≤ sizeLine; decide, fun D0 nD0 => ?_⟩
      obtain ⟨s1, f1, _⟩ := grow (o := .lst (tnames.map V.str)) nD0
      refine ⟨.ref b, rfl, b, 4, _, rfl, (EG.same s1).bx, by decide, by decide, by omega, fun G1 rr kp1 b1 r0 r1 => ?_⟩
      obtain ⟨rn, rfl⟩ : ∃ rn : Nat, rr = (rn : Int) := ⟨rr.toNat, by omega⟩
      refine ⟨rn, rfl, D0, tnames.map V.str, rfl, SqL.of (kp1 _ _ f1 (EG.bx.ne nD0)), fun p np => ?_⟩
      rw [cut_take (tnames.map V.str) rn (by rw [List.length_map]; show rn ≤ 3; omega), ← List.map_take]
      obtain ⟨s2, f2, _⟩ := grow (o := .lst ((tnames.take rn).map V.str)) np
      have E3 := ((EG.same s1).kept kp1 b1 Sb).same s2
      have hK3 : (upd G1 p (.lst ((tnames.take rn).map V.str))) Kn = some (.dK []) := s2 _ _ (kp1 _ _ (s1 _ _ hKG) nKb)
      have k03 : KS S H (upd G1 p (.lst ((tnames.take rn).map V.str))) := ((k0G.tr (KS.of s1)).tr (KS.kept kp1 Sb)).tr (KS.of s2)
      have nSp : ¬ S p := ((EG.same s1).kept kp1 b1 Sb).al.new np
      generalize upd G1 p (.lst ((tnames.take rn).map V.str)) = G3 at E3 k03 f2 hK3 ⊢
      have len3 : ((tnames.take rn).map V.str).length ≤ 3 := by
        rw [List.length_map, List.length_take]
        have : tnames.length = 3 := rfl
        omega
      refine ⟨p, rfl, ⟨_, SqL.of f2⟩, for_list (xs := (tnames.take rn).map V.str) (TPv b bk Kn Tn Ln S ll kvb (c + 18) G3) ?_ ?_ ?_ ?_⟩
      · refine ⟨o3, o4, o5, o6, o7, o8, o9, o10, o11, o12, o13, _, [], rfl, KS.rf, E3.le (by rw [Int.natCast_zero, Int.mul_zero]; omega), ?_⟩
        exact ⟨⟨(fun _ _ _ _ _ h => nomatch h), (fun _ _ _ h => nomatch h)⟩, (fun _ _ h => nomatch h), (fun _ _ _ h => nomatch h), Nat.le_refl _, (fun kv h => (List.not_mem_nil h).elim), (fun kv h => (List.not_mem_nil h).elim), ⟨[], hK3, Nat.le_refl _⟩⟩
      · rintro i σ G _ ⟨_, _, _, _, _, _, _, _, _, _, _, _, _, _, z, _⟩
        exact SqL.of (z _ _ f2 nSp)
      · rintro i x σ G hx ⟨o3, o4, o5, o6, o7, o8, o9, o10, o11, o12, o13, reg, tt, rfl, kG, EG, RG⟩
        rw [List.getElem?_map] at hx
        obtain ⟨nm, hs, rfl⟩ := Option.map_eq_some_iff.mp hx
        have hi : i < 3 := by
          have := (List.getElem?_eq_some_iff.mp hs).1
          rw [List.length_take] at this
          have : tnames.length = 3 := rfl
          omega
        have htn : tnames[i]? = some nm := by
          rw [List.getElem?_take] at hs
          split at hs
          · exact hs
          · cases hs
        have hnm : Wd nm := tnames_wd (List.mem_of_getElem? htn)
        have mul1 : 4570 * (i : Int) ≤ 4570 * 2 := by omega
        have wdk : ∀ kv ∈ tt, ∃ s, kv.1 = .inr s ∧ Wd s := fun kv h => by
          obtain ⟨s, e, h1, _⟩ := RG.tk kv h
          exact ⟨s, e, tnames_wd (List.mem_of_mem_take h1)⟩
        have ltt := RG.tl
        obtain ⟨ksr, ekr, wkr, lkr⟩ := keys_strs wdk
        -- others
        refine ⟨.ref bk, rfl, bk, .ref Tn, rfl, hvt ▸ DGet.k (k := .inr "templates") EG.hb, Tn, tt, ksr, rfl, Rd.of EG.ht, ekr, by omega, fun ys P perm _ nP => ?_⟩
        obtain ⟨s4, f4, _⟩ := grow (o := .lst (ys.map V.str)) nP
        have nPb : P ≠ b := EG.bx.ne nP
        have ly := perm.length_eq
        have E4 := EG.same s4
        have R4 := RG.same s4
        have k4 := kG.tr (KS.of s4)
        generalize upd G P (.lst (ys.map V.str)) = G4 at f4 E4 R4 k4 ⊢
        obtain ⟨c4, hc4⟩ : ∃ c4, c4 = c + 18 + 4570 * (i : Int) := ⟨_, rfl⟩
        rw [← hc4] at E4
        dsimp only
        refine ifS_el (fun G => EK b bk Kn Tn Ln S reg tt ll kvb (c4 + 1) G ∧ RK S reg bk Kn i tt G ∧ KS S G3 G) ?_ (fun els => ?_)
        · rintro G ⟨EG, RG, kG⟩
          refine ⟨.ref b, rfl, .ref bk, rfl, b, bk, Kn, Tn, Ln, S, reg, i, 4, 1, tt, ll, kvb, _, rfl, EG, by omega, Sb, RG.rk, by decide, by decide, by decide, hvl, hvt, n_Tb.symm, RG.tpls (by omega) (by omega), fun G5 t d e ks kp5 b5 nt nd ne ft hdb he lks kok => ?_⟩
          have E5 := EG.kept kp5 b5 Sb
          have R5 := RG.kept kp5 Sb nKb
          have ate : At S G5 e (.dK ks) := ⟨EG.al.new ne, he⟩
          refine ⟨t, _, rfl, SqT.of ft, rfl, _, _, rfl, _, _, rfl, rfl, ?_⟩
          refine ⟨.ref d, rfl, by show 2 ≤ sizeLine; decide, fun t2 nt2 => ?_⟩
          obtain ⟨s6, f6, _⟩ := grow (o := .tup [.non, .ref d]) nt2
          refine ⟨.ref e, rfl, by show 2 ≤ sizeLine; decide, fun T nT => ?_⟩
          obtain ⟨s7, f7, _⟩ := grow (o := .tup [.ref t2, .ref e]) nT
          have s57 := sTr s6 s7
          have E7 := E5.same s57
          have R7 := R5.same s57
          have ate7 := tr_same (S := S) s57 _ _ ate
          have tpl7 : TplOk S (upd (upd G5 t2 (.tup [.non, .ref d])) T (.tup [.ref t2, .ref e])) (.ref t2) := ⟨t2, .non, d, rfl, ⟨E5.al.new nt2, s7 _ _ f6⟩, .inl rfl, .inr (hdb.mono (tr_same s57))⟩
          have kd7 : KD S (upd (upd G5 t2 (.tup [.non, .ref d])) T (.tup [.ref t2, .ref e])) reg i e := ⟨ks, ate7, by omega, kok.mono (tr_same s57)⟩
          have k7 := ((kG.tr (KS.kept kp5 Sb)).tr (KS.of s57))
          generalize upd (upd G5 t2 (.tup [.non, .ref d])) T (.tup [.ref t2, .ref e]) = G7 at f7 E7 R7 tpl7 kd7 k7 ⊢
          obtain ⟨kk, hkk, lkk⟩ := R7.kl
          have ltt := R7.tl
          have one : ∀ s m, reg s = some (e, m) → m = i := fun s m h => by
            obtain ⟨kk', hk1, hk2⟩ := EG.bo.kn
            obtain ⟨kvs', at', _⟩ := (hk2 _ _ _ h).2
            rw [at'.2] at ne
            cases ne
          refine ⟨T, _, rfl, SqT.of f7, rfl, _, _, rfl, .ref bk, rfl, bk, .ref Tn, rfl, hvt ▸ DGet.k (k := .inr "templates") E7.hb, .str nm, rfl, Tn, _, rfl, DPut.k (k := .inr nm) E7.ht (Nat.lt_of_le_of_lt (by omega : tt.length ≤ 1000) (by decide)), _, _, rfl,
            .ref bk, rfl, bk, .ref Kn, rfl, hvk ▸ DGet.k (k := .inr "kinds") (by rw [upd_ne n_Tb.symm]; exact E7.hb), .str nm, rfl, Kn, _, rfl, DPut.k (k := .inr nm) (by rw [upd_ne n_KT]; exact hkk) (Nat.lt_of_le_of_lt (by omega : kk.length ≤ 1000) (by decide)), rfl, ?_⟩
          obtain ⟨EF, RF⟩ := E7.putT R7 hkk lkk htn kd7 (Nat.lt_succ_self i) one tpl7 Sb Sbk ST SK SL nTb.symm nKb.symm n_Tb.symm n_Kb.symm n_TL.symm n_KL.symm n_KT
          exact ⟨_, _, _, _, _, _, _, _, _, _, _, _, _, rfl, (k7.tr (KS.upd ST)).tr (KS.upd SK), EF.le (by rw [Int.natCast_add]; omega), RF⟩
        refine ⟨.ref P, rfl, Nat.zero_le _, fun l2 nl2 => ?_⟩
        obtain ⟨s5, f5, _⟩ := grow (o := .lst []) nl2
        have E5 := E4.same s5
        have R5 := R4.same s5
        have k5 := k4.tr (KS.of s5)
        have P5 := s5 _ _ f4
        generalize upd G4 l2 (.lst []) = G5 at f5 E5 R5 k5 P5 ⊢
        obtain ⟨ds, dp, dl, dc, dd⟩ := strs_dp (K := K) (H := G5) fun y h => (wkr y (perm.mem_iff.mp h)).1
        refine ⟨.list ds, .list [], .lst (SqL.of P5) dp, .lst (SqL.of f5) .nil, shaped_strs dc dd, shaped_nil, _, rfl, ?_⟩
        rw [eqv_nil]
        refine ite2 (fun ez => ?_) (fun _ => els _ ⟨E5.le (by omega), R5, k5⟩)
        have ly1 : 1 ≤ ys.length := by
          rcases Nat.eq_zero_or_pos ys.length with z | z
          · rw [z] at dl
            rw [List.length_eq_zero_iff.mp dl] at ez
            exact absurd ez (by decide)
          · exact z
        refine ⟨.ref b, rfl, b, 3, _, rfl, E5.bx, by decide, by decide, by omega, fun G6 r6 kp6 b6 _ _ => ⟨rfl, _, rfl, ?_⟩⟩
        have E6 := E5.kept kp6 b6 Sb
        have R6 := R5.kept kp6 Sb nKb
        have k6 := k5.tr (KS.kept kp6 Sb)
        have P6 := kp6 _ _ P5 nPb
        refine ite2 (fun _ => ?_) (fun _ => els _ ⟨E6, R6, k6⟩)
        clear els
        -- a derived one
        refine ⟨.ref b, rfl, .ref P, rfl, b, P, ys.map V.str, _, rfl, E6.bx, P6, nPb, by rw [List.length_map]; omega, by rw [List.length_map]; omega, by omega, fun G7 v kp7 b7 hm => ?_⟩
        obtain ⟨bs, hbs, rfl⟩ := texts_mem hm
        obtain ⟨wbs, vb, mvb⟩ := wkr bs (perm.mem_iff.mp hbs)
        obtain ⟨bs', ebs, _, a, m, hreg⟩ := RG.tk _ mvb
        have ebs : bs = bs' := Sum.inr.inj ebs
        subst ebs
        have hml := RG.lt _ _ _ hreg
        have E7 := E6.kept kp7 b7 Sb
        have R7 := R6.kept kp7 Sb nKb
        have k7 := k6.tr (KS.kept kp7 Sb)
        refine ⟨.ref b, rfl, .ref bk, rfl, .str bs, rfl, Nat.zero_le _, fun l8 nl8 => ?_⟩
        obtain ⟨s8, f8, _⟩ := grow (o := .lst []) nl8
        have E8 := E7.same s8
        have R8 := R7.same s8
        have k8 := k7.tr (KS.of s8)
        refine ⟨b, bk, Kn, l8, a, bs, true, S, reg, m, [], _, rfl, E8.bx, by omega, Sb, E8.al, E8.bo, R8.rk, hreg, by omega, ⟨E7.al.new nl8, f8⟩, fun x h => (List.not_mem_nil h).elim, Nat.zero_le _, fun G9 d kp9 b9 hbd nd => ?_⟩
        have E9 := E8.kept kp9 b9 Sb
        have R9 := R8.kept kp9 Sb nKb
        have k9 := k8.tr (KS.kept kp9 Sb)
        refine ⟨.str bs, rfl, .ref d, rfl, by show 2 ≤ sizeLine; decide, fun t nt => ?_⟩
        obtain ⟨s10, f10, _⟩ := grow (o := .tup [.str bs, .ref d]) nt
        have E10 := E9.same s10
        have R10 := R9.same s10
        have k10 := k9.tr (KS.of s10)
        have tpl10 : TplOk S (upd G9 t (.tup [.str bs, .ref d])) (.ref t) := ⟨t, .str bs, d, rfl, ⟨E9.al.new nt, f10⟩, .inr ⟨bs, rfl, wbs⟩, .inl (BD.mono (tr_same s10) hbd)⟩
        generalize upd G9 t (.tup [.str bs, .ref d]) = G10 at E10 R10 k10 tpl10 ⊢
        obtain ⟨kk0, hk1, hk2⟩ := E10.bo.kn
        refine ⟨.ref bk, rfl, bk, .ref Kn, rfl, hvk ▸ DGet.k (k := .inr "kinds") E10.hb, .str bs, rfl, Kn, .ref a, rfl, (hk2 bs a m hreg).1 ▸ DGet.k (k := .inr bs) hk1, by show 2 ≤ sizeLine; decide, fun T nT => ?_⟩
        obtain ⟨s11, f11, _⟩ := grow (o := .tup [.ref t, .ref a]) nT
        have E11 := E10.same s11
        have R11 := R10.same s11
        have k11 := k10.tr (KS.of s11)
        have tpl11 := tpl10.mono (tr_same s11)
        have kd11 := (hk2 bs a m hreg).2.mono (tr_same s11)
        generalize upd G10 T (.tup [.ref t, .ref a]) = G11 at f11 E11 R11 k11 tpl11 kd11 ⊢
        obtain ⟨kk, hkk, lkk⟩ := R11.kl
        refine ⟨T, _, rfl, SqT.of f11, rfl, _, _, rfl, .ref bk, rfl, bk, .ref Tn, rfl, hvt ▸ DGet.k (k := .inr "templates") E11.hb, .str nm, rfl, Tn, _, rfl, DPut.k (k := .inr nm) E11.ht (Nat.lt_of_le_of_lt (by omega : tt.length ≤ 1000) (by decide)), _, _, rfl,
          .ref bk, rfl, bk, .ref Kn, rfl, hvk ▸ DGet.k (k := .inr "kinds") (by rw [upd_ne n_Tb.symm]; exact E11.hb), .str nm, rfl, Kn, _, rfl, DPut.k (k := .inr nm) (by rw [upd_ne n_KT]; exact hkk) (Nat.lt_of_le_of_lt (by omega : kk.length ≤ 1000) (by decide)), rfl, ?_⟩
        obtain ⟨EF, RF⟩ := E11.putT R11 hkk lkk htn kd11 (by omega) (fun s m' h => R11.rk.one _ _ _ _ _ h hreg) tpl11 Sb Sbk ST SK SL nTb.symm nKb.symm n_Tb.symm n_Kb.symm n_TL.symm n_KL.symm n_KT
        exact ⟨_, _, _, _, _, _, _, _, _, _, _, _, _, rfl, (k11.tr (KS.upd ST)).tr (KS.upd SK), EF.le (by rw [Int.natCast_add]; omega), RF⟩
      · rintro σ G ⟨o3, o4, o5, o6, o7, o8, o9, o10, o11, o12, o13, reg, tt, rfl, kG, EG, RG⟩
        have len3' : (((tnames.take rn).map V.str).length : Int) ≤ 3 := by omega
        have EG := EG.le (show _ ≤ c + 18 + 13710 by omega)
        obtain ⟨N, hN⟩ : ∃ N, N = ((tnames.take rn).map V.str).length := ⟨_, rfl⟩
        rw [← hN] at RG
        have N3 : N ≤ 3 := by rw [hN]; exact len3
        have ltt := RG.tl
        refine ⟨.ref b, rfl, .ref bk, rfl, .int 6, rfl, b, bk, Kn, Tn, Ln, S, reg, N, 6, 2, tt, ll, kvb, _, rfl, EG, by omega, Sb, RG.rk, by decide, by decide, by decide, hvl, hvt, n_Tb.symm, RG.tpls (by omega) (by omega), fun G5 t d e ks kp5 b5 nt nd ne ft hdb he lks kok => ?_⟩
        have E5 := EG.kept kp5 b5 Sb
        have R5 := RG.kept kp5 Sb nKb
        refine ⟨t, _, rfl, SqT.of ft, rfl, _, _, rfl, _, _, rfl, rfl, ?_⟩
        refine ⟨.ref d, rfl, by show 2 ≤ sizeLine; decide, fun t2 nt2 => ?_⟩
        obtain ⟨s6, f6, _⟩ := grow (o := .tup [.non, .ref d]) nt2
        refine ⟨.ref e, rfl, by show 2 ≤ sizeLine; decide, fun T nT => ?_⟩
        obtain ⟨s7, f7, _⟩ := grow (o := .tup [.ref t2, .ref e]) nT
        have s57 := sTr s6 s7
        have E7 := E5.same s57
        have R7 := R5.same s57
        have doc7 : DocOk S (upd (upd G5 t2 (.tup [.non, .ref d])) T (.tup [.ref t2, .ref e])) (.ref t2) := ⟨t2, d, rfl, ⟨E5.al.new nt2, s7 _ _ f6⟩, hdb.mono (tr_same s57)⟩
        have k7 := ((kG.tr (KS.kept kp5 Sb)).tr (KS.of s57))
        generalize upd (upd G5 t2 (.tup [.non, .ref d])) T (.tup [.ref t2, .ref e]) = G7 at f7 E7 R7 doc7 k7 ⊢
        obtain ⟨kk, hkk, lkk⟩ := R7.kl
        refine ⟨T, _, rfl, SqT.of f7, rfl, _, _, rfl, .ref bk, rfl, bk, .ref Tn, rfl, hvt ▸ DGet.k (k := .inr "templates") E7.hb, Tn, _, rfl, DPut.k (k := .inr "") E7.ht (Nat.lt_of_le_of_lt (by omega : tt.length ≤ 1000) (by decide)), _, _, rfl,
          .ref bk, rfl, bk, .ref Kn, rfl, hvk ▸ DGet.k (k := .inr "kinds") (by rw [upd_ne n_Tb.symm]; exact E7.hb), Kn, _, rfl, DPut.k (k := .inr "") (by rw [upd_ne n_KT]; exact hkk) (Nat.lt_of_le_of_lt (by omega : kk.length ≤ 1000) (by decide)), rfl, ?_⟩
        have new : putK tt (.inr "") (.ref t2) = tt ++ [(.inr "", .ref t2)] := K2.putK_new fun kv h z => by
          obtain ⟨s, es, hs, _⟩ := R7.tk kv h
          rw [es] at z
          have z : s = "" := Sum.inr.inj z
          have w := tnames_wd (List.mem_of_mem_take hs)
          rw [z] at w
          exact w.1 (by decide +kernel)
        rw [new]
        have trF : Tr S G7 S (upd (upd G7 Tn (.dK (tt ++ [(.inr "", .ref t2)]))) Kn (.dK (putK kk (.inr "") (.ref e)))) := (tr_upd ST).tr (tr_upd SK)
        have kF : KS S H (upd (upd G7 Tn (.dK (tt ++ [(.inr "", .ref t2)]))) Kn (.dK (putK kk (.inr "") (.ref e)))) := ((k03.tr k7).tr (KS.upd ST)).tr (KS.upd SK)
        refine ⟨.ref bk, rfl, ?_⟩
        refine q _ bk Tn Ln S kvb tt ll (.ref t2) (fun a o e2 nb => kF a o e2 fun z => ?_) (((E7.bx.off nTb).off nKb).le (by omega)) Sb ⟨?_, hvt, hvl, ?_, by omega, fun kv h => ⟨?_, (R7.tp kv h).mono trF⟩, doc7.mono trF, ?_, E7.ll.mono trF, ST, SL, n_TL, n_Tb.symm, Ne.symm n_Lb⟩
        · rcases z with rfl | rfl | rfl | rfl | rfl
          · exact nb rfl
          · rw [nbk] at e2; cases e2
          · rw [nLH] at e2; cases e2
          · rw [nTH] at e2; cases e2
          · rw [nKH] at e2; cases e2
        · rw [upd_ne n_Kb.symm, upd_ne n_Tb.symm]
          exact E7.hb
        · rw [upd_ne n_KT.symm]
          exact upd_same
        · obtain ⟨s, es, hs, _⟩ := R7.tk kv h
          exact ⟨s, es, tnames_wd (List.mem_of_mem_take hs)⟩
        · rw [upd_ne n_KL.symm, upd_ne n_TL.symm]
          exact E7.hl
end
end K2

set_option maxHeartbeats 2000000
/-! The signs of a drawn project's text. -/
namespace K2
open PySem PySem.Spec PyProof.Rows L2

/-- between gaps it is read whole -/
def Sg (l : List Nat) : Prop := ∀ r y, r.head? = some y → isGap y = true → clean (l ++ r) = clean r
theorem gap_no {y : Nat} (h : isGap y = true) : isLet y = false ∧ isDig y = false := by
  constructor
  · cases e : isLet y with
    | false => rfl
    | true => rw [(let_all e).2.2.2.1] at h; cases h
  · cases e : isDig y with
    | false => rfl
    | true => rw [(dig_all e).2.2.2.1] at h; cases h
theorem sg_of {p : List Nat} {f : List (Nat × List Nat)} {a : List Nat} (S : Sofar p f a) : Sg p := fun r y h g => (S r (fit_end fun z hz => by
  rw [h] at hz
  cases hz
  exact gap_no g)).2
theorem fit_nil (t : List Nat) : Fit [] t := fun x y h => nomatch h
theorem tk_sofar {t : List Nat} (h : Tk t) : Sofar t [(0, t)] t := sofar_step (p := []) (g := []) (sofar_gap gap_nil) gap_nil h (fun _ => fit_nil t) (fun y e => nomatch e)
theorem wd_tk {s : Str} (h : Wd s) : Tk (cp s) := .word h.1 h.2.1 (by have := h.2.2; omega)
theorem fit_sign {a : List Nat} {c : Nat} (h : isSign c = true) : Fit a [c] := fun x y _ hy => by
  cases hy
  have := sign_all h
  exact ⟨(fun z => by rw [this.2.1] at z; cases z.2), (fun z => by rw [this.2.2.1] at z; cases z.2)⟩
theorem sign_fit {t : List Nat} {c : Nat} (h : isSign c = true) : Fit [c] t := fun x y hx _ => by
  have ex : c = x := Option.some.inj hx
  subst ex
  have := sign_all h
  exact ⟨(fun z => by rw [this.2.1] at z; cases z.1), (fun z => by rw [this.2.2.1] at z; cases z.1)⟩
/-- a text of signs, as the law joins them -/
structure SgOk (s : Str) : Prop where
  sg : Sg (cp s)
  lt : ∀ c ∈ cp s, c < 128
  ln : (cp s).length ≤ 30
theorem tk_ok {s : Str} (h : Tk (cp s)) (l : (cp s).length ≤ 30) : SgOk s := ⟨sg_of (tk_sofar h), tk_lt h, l⟩
theorem wd_ok {s : Str} (h : Wd s) : SgOk s := tk_ok (wd_tk h) (by have := h.2.2; omega)
theorem num_ok {s : Str} (h : numB s = true) : SgOk s := by
  refine tk_ok (num_tk h) ?_
  unfold numB at h
  simp only [Bool.and_eq_true, decide_eq_true_eq] at h
  omega
def signB (s : Str) : Bool := match cp s with | [c] => isSign c | _ => false
theorem sign_ok {s : Str} (h : signB s = true) : SgOk s := by
  unfold signB at h
  split at h
  · next c e => exact tk_ok (by rw [e]; exact .sign h) (by rw [e]; show 1 ≤ 30; decide)
  · cases h
theorem dot_ok {s r : Str} (h : Wd s) (k : Wd r) : SgOk (s ++ "." ++ r) := by
  have ed : cp (Str.ofString ".") = [46] := by decide +kernel
  have s1 := tk_sofar (wd_tk h)
  have s2 := sofar_step (g := []) s1 gap_nil (.sign (c := 46) (by decide)) (fun _ => fit_sign (by decide)) (fun y e => nomatch e)
  have s3 := sofar_step (g := []) s2 gap_nil (wd_tk k) (fun _ => sign_fit (by decide)) (fun y e => nomatch e)
  rw [List.append_nil, List.append_nil] at s3
  refine ⟨?_, ?_, ?_⟩
  · rw [cp_app, cp_app, ed]
    exact sg_of s3
  · rw [cp_app, cp_app, ed]
    intro c hc
    rcases List.mem_append.mp hc with hc | hc
    · rcases List.mem_append.mp hc with hc | hc
      · exact let_lt' (h.2.1 c hc)
      · rw [List.mem_singleton.mp hc]
        decide
    · exact let_lt' (k.2.1 c hc)
  · rw [cp_app, cp_app, ed, List.length_append, List.length_append]
    have := h.2.2
    have := k.2.2
    simp only [List.length_singleton]
    omega
theorem quo_ok {s : Str} (h : ∀ c ∈ cp s, isIn c = true) (l : (cp s).length ≤ 12) : SgOk ("\"" ++ s ++ "\"") := by
  have ed : cp (Str.ofString "\"") = [34] := by decide +kernel
  have e : cp ("\"" ++ s ++ "\"" : Str) = 34 :: (cp s ++ [34]) := by
    rw [cp_app, cp_app, ed]
    rfl
  refine tk_ok (by rw [e]; exact .str h (by omega)) ?_
  rw [e, List.length_cons, List.length_append, List.length_singleton]
  omega
theorem nat_num : ∀ n < 1000, numB ((toString ((n : Nat) : Int) : String) : Str) = true := by decide +kernel

/-- a list of signs -/
def Sgs (H : Hp) (l : Addr) (m : Nat) : Prop := ∃ ss : List Str, H l = some (.lst (ss.map V.str)) ∧ (∀ s ∈ ss, SgOk s) ∧ ss.length ≤ m
end K2

set_option maxHeartbeats 2000000
/-! The signs of a literal. -/
namespace K2
open PySem PySem.Spec PyProof.Rows L2

theorem scLitS : FnScope ["_law_value_here"] ["_law_value_here"] (defScope sLitS) := ⟨rfl, rfl, rfl, by decide +kernel, rfl, by decide +kernel, by decide +kernel⟩
def spLitS : Sp := fun vs H Q _ => ∃ v, vs = [v] ∧ Lit v ∧ ∀ H' l, Same H H' → H l = none → Sgs H' l 2 → Q (.ref l) H'

theorem abs_num {i : Int} (h : i.natAbs < 1000) : numB ((toString (if i < 0 then -i else i) : String) : Str) = true := by
  have e : (if i < 0 then -i else i) = ((i.natAbs : Nat) : Int) := by
    split <;> omega
  rw [e]
  exact nat_num _ h

section
variable {P : Program} {w : World} {K : PySem.W.Frag} {mg : Str → Option Value} {base : Heap}
theorem ok_litS {f : Addr} {fd : FuncData} (F : Fun K "_law_literal_signs" "_law_literal_signs" sLitS f fd) (Z : Bare mg) :
    FnOk P w K mg base CX0 1 f fd ["_law_value_here"] spLitS := by
  refine F.ok scLitS (fun vs H Q E h => ?_) (fun cdv A outer s H vs Q E hr h => ?_)
  · obtain ⟨v, rfl, _⟩ := h
    rfl
  · obtain ⟨v, rfl, hv, q⟩ := h
    refine ⟨_, pss_cons (ps_if (pt_val (pe_callB call_isi (by rfl) Z.isin (by decide +kernel) (pa_cons (pv 0) (pa_cons (pe_bltn (v := .ty "str") (by rfl) Z.str (by decide +kernel) rfl) pa_nil))))
        (pss_one (ps_ret (pe_lst (pa_cons (pe_op op_add_str (pe_op op_add_str pe_str (pv 0)) pe_str) pa_nil)))) pss_nil)
      (pss_one (ps_ret (pe_op op_cat (pe_op op_rep (pe_lst (pa_cons pe_str pa_nil)) (pe_callTy call_int1 (by rfl) Z.int (by decide +kernel) (pa_cons (pe_cmpR op_lt (pv 0) pe_int (nomark _)) pa_nil)))
        (pe_lst (pa_cons (pe_callTy call_str_int (by rfl) Z.str (by decide +kernel) (pa_cons (pe_callB call_abs (by rfl) Z.abs (by decide +kernel) (pa_cons (pv 0) pa_nil)) pa_nil)) pa_nil))))), ?_⟩
    cases hv with
    | txt s ha hl =>
      refine ⟨.str s, rfl, .str s, .ty "str", .type "str", .type "str", true, rfl, .ty "str", .base (.str s), kit_ty (by decide +kernel), _, rfl, iteT ?_⟩
      have q1 : ("\"" : Str).length = 1 := by decide +kernel
      have l1 : s.length ≤ 12 := by rw [← cp_len]; exact hl
      refine ⟨.str s, rfl, _, _, rfl, rfl, tiny (by omega), _, _, rfl, rfl, tiny (by rw [strLen_append]; omega), by show 1 ≤ sizeLine; decide, fun l nl => ?_⟩
      obtain ⟨s1, f1, _⟩ := grow (o := .lst [.str ("\"" ++ s ++ "\"")]) nl
      refine q _ l s1 nl ⟨["\"" ++ s ++ "\""], f1, fun x h => ?_, by show 1 ≤ 2; decide⟩
      rw [List.mem_singleton.mp h]
      exact quo_ok ha hl
    | num i hi =>
      refine ⟨.int i, rfl, .int i, .ty "str", .type "int", .type "str", false, rfl, .ty "str", .base (.int i), kit_ty (by decide +kernel), _, rfl, iteF ?_⟩
      refine ⟨by show 1 ≤ sizeLine; decide, fun l1 nl1 => ?_⟩
      obtain ⟨s1, f1, _⟩ := grow (o := .lst [.str "-"]) nl1
      generalize upd H l1 (.lst [.str "-"]) = H1 at s1 f1 ⊢
      refine ⟨.int i, rfl, _, _, rfl, rfl, .inr ⟨_, rfl, ?_⟩⟩
      obtain ⟨z, hz⟩ : ∃ z : Int, z = if decide (i < 0) = true then 1 else 0 := ⟨_, rfl⟩
      have z01 : 0 ≤ z ∧ z ≤ 1 := by
        rw [hz]
        split <;> omega
      rw [← hz]
      refine ⟨l1, z, [.str "-"], rfl, rfl, f1, by omega, by omega, by show 1 * z.toNat ≤ sizeLine; exact tiny (by omega), fun l2 nl2 => ?_⟩
      obtain ⟨rs, hrs, lrs, hrs2⟩ : ∃ rs : List Str, (List.replicate z.toNat [V.str "-"]).flatten = rs.map V.str ∧ rs.length ≤ 1 ∧ ∀ x ∈ rs, x = "-" := by
        by_cases e : z = 0
        · subst e
          exact ⟨[], rfl, by decide, fun x h => (List.not_mem_nil h).elim⟩
        · have e1 : z = 1 := by omega
          subst e1
          exact ⟨["-"], rfl, by decide +kernel, fun x h => List.mem_singleton.mp h⟩
      rw [hrs] at *
      obtain ⟨s2, f2, _⟩ := grow (o := .lst (rs.map V.str)) nl2
      generalize upd H1 l2 (.lst (rs.map V.str)) = H2 at s2 f2 ⊢
      have lg : (if i < 0 then -i else i).natAbs.log2 < 1920 := by
        have : (if i < 0 then -i else i).natAbs < 2 ^ 1920 := Nat.lt_of_lt_of_le (show (if i < 0 then -i else i).natAbs < 2 ^ 10 by split <;> omega) (Nat.pow_le_pow_right (by decide) (by decide))
        exact bits_le this (by decide)
      refine ⟨.int i, rfl, i, rfl, _, rfl, lg, by show 1 ≤ sizeLine; decide, fun l3 nl3 => ?_⟩
      have nu := abs_num hi
      generalize (toString (if i < 0 then -i else i) : String) = nt at nu ⊢
      obtain ⟨s3, f3, _⟩ := grow (o := .lst [.str (nt : Str)]) nl3
      refine ⟨l2, l3, rs.map V.str, [.str (nt : Str)], rfl, rfl, s3 _ _ f2, f3, by rw [List.length_map]; exact tiny (by show rs.length + 1 ≤ 1000; omega), fun l4 nl4 => ?_⟩
      obtain ⟨s4, f4, _⟩ := grow (o := .lst (rs.map V.str ++ [.str (nt : Str)])) nl4
      have sA := sTr (sTr (sTr s1 s2) s3) s4
      refine q _ l4 sA (same_free (sTr (sTr s1 s2) s3) nl4) ⟨rs ++ [(nt : Str)], by rw [List.map_append]; exact f4, fun x h => ?_, by rw [List.length_append]; show rs.length + 1 ≤ 2; omega⟩
      rcases List.mem_append.mp h with h | h
      · rw [hrs2 x h]
        exact sign_ok (by decide +kernel)
      · rw [List.mem_singleton.mp h]
        exact num_ok nu
end
end K2

set_option maxHeartbeats 2000000
/-! The signs of a value. -/
namespace K2
open PySem PySem.Spec PyProof.Rows L2

theorem scValS : FnScope ["_law_value_here", "_law_word", "_law_found", "_law_at", "_law_factor", "_law_path", "_law_times"] ["_law_value_here"] (defScope sValS) := ⟨rfl, rfl, rfl, by decide +kernel, rfl, by decide +kernel, by decide +kernel⟩

def bB : Nat → Nat
  | 0 => 150
  | n + 1 => 14 + 4 * bB n
theorem bB_mono : ∀ n, bB n ≤ bB (n + 1)
  | 0 => by decide
  | n + 1 => by show 14 + 4 * bB n ≤ 14 + 4 * bB (n + 1); have := bB_mono n; omega
theorem bB_le {n m : Nat} (h : n ≤ m) : bB n ≤ bB m := by
  induction m with
  | zero => have : n = 0 := by omega
            subst this
            exact Nat.le_refl _
  | succ m ih =>
    by_cases e : n = m + 1
    · subst e
      exact Nat.le_refl _
    · exact Nat.le_trans (ih (by omega)) (bB_mono m)
theorem bB_ge (n : Nat) : 150 ≤ bB n := bB_le (Nat.zero_le n)
/-- what the signs of a value are told of, and how many there are at most -/
def VD (S : Addr → Prop) (H : Hp) : Nat → V → Nat → Prop
  | 0, v, m => (SV S H v ∧ m = 12) ∨ (Side S H v ∧ m = 12)
  | j + 1, v, m => (SV S H v ∧ m = 12) ∨ (Side S H v ∧ m = 12) ∨ (VV S H v ∧ m = 34) ∨ (∃ t d n, v = .ref t ∧ At S H t (.tup [.str "body", .ref d]) ∧ BD S H n d ∧ n < j ∧ m = bB n) ∨ (∃ n, NV S H n v ∧ n < j ∧ m = 24 + bB n)
def spV (j : Nat) : Sp := fun vs H Q _ => ∃ (v : V) (S : Addr → Prop) (m : Nat), vs = [v] ∧ VD S H j v m ∧ m ≤ 50000 ∧ ∀ H' l, Same H H' → H l = none → Sgs H' l m → Q (.ref l) H'
def spB (j : Nat) : Sp := fun vs H Q _ => ∃ (d : Addr) (S : Addr → Prop) (n m : Nat), vs = [.ref d] ∧ ((n ≤ j ∧ BD S H n d ∧ m = bB n) ∨ (n < j ∧ ∃ k, DB S H n k d ∧ m = 224 + (27 + bB n) * k)) ∧ m ≤ 50000 ∧ ∀ H' l, Same H H' → H l = none → Sgs H' l m → Q (.ref l) H'
def spVp : Nat → Sp
  | 0 => fun _ _ _ _ => False
  | j + 1 => spV j
def spBp : Nat → Sp
  | 0 => fun _ _ _ _ => False
  | 1 => fun _ _ _ _ => False
  | j + 2 => spB j

theorem path_join {S : Addr → Prop} {H : Hp} {v : V} (x : Path S H v) : ∃ t ys, v = .ref t ∧ H t = some (.tup (ys.map V.str)) ∧ SgOk (Txt.join "." ys) ∧ (ys.map (·.length)).sum + ys.length * 1 ≤ 100 := by
  cases x with
  | one t s a b =>
    refine ⟨t, [s], rfl, a.2, wd_ok b, ?_⟩
    have := b.2.2
    rw [cp_len] at this
    simp
    omega
  | two t s r a b c =>
    refine ⟨t, [s, r], rfl, a.2, dot_ok b c, ?_⟩
    have h1 := b.2.2
    have h2 := c.2.2
    rw [cp_len] at h1 h2
    simp
    omega
theorem Sgs.same {H H' : Hp} {l : Addr} {m : Nat} (x : Sgs H l m) (s : Same H H') : Sgs H' l m := by
  obtain ⟨ss, a, b, c⟩ := x
  exact ⟨ss, s _ _ a, b, c⟩
def sgB (s : Str) : Bool := wdB s || signB s
theorem sgB_ok {s : Str} (h : sgB s = true) : SgOk s := by
  unfold sgB at h
  rcases Bool.or_eq_true_iff.mp h with h | h
  · exact wd_ok (wd_of h)
  · exact sign_ok h
theorem len1 : ("." : Str).length = 1 := by decide +kernel

section
variable {P : Program} {w : World} {K : PySem.W.Frag} {mg : Str → Option Value} {base : Heap}

theorem BD.dict {S : Addr → Prop} {H : Hp} : ∀ {n : Nat} {d : Addr}, BD S H n d → ∃ kvs, At S H d (.dK kvs)
  | 0, _, ⟨kvs, a, _⟩ => ⟨kvs, a⟩
  | _ + 1, _, ⟨kvs, a, _⟩ => ⟨kvs, a⟩

theorem reps {s : Str} {z : Int} (h : 0 ≤ z ∧ z ≤ 1) (ys : List Str) : ∃ gv : List Str, (List.replicate z.toNat (ys.map V.str)).flatten = gv.map V.str ∧ gv.length ≤ ys.length ∧ ∀ x ∈ gv, x ∈ ys := by
  by_cases e : z = 0
  · subst e
    exact ⟨[], rfl, Nat.zero_le _, fun x h => (List.not_mem_nil h).elim⟩
  · have e1 : z = 1 := by omega
    subst e1
    refine ⟨ys, ?_, Nat.le_refl _, fun x h => h⟩
    show (List.replicate 1 (ys.map V.str)).flatten = _
    simp

theorem ok_valS_step (j k : Nat) {f fL fB : Addr} {fd fdL fdB : FuncData} (F : Fun K "_law_value_signs" "_law_value_signs" sValS f fd) (Z : Bare mg) (ze : mg "enumerate" = none) (bF : Binds K fd ["_law_value_here"] []) (gF : mg "_law_value_signs" = some (.ref f))
    (FL : Fun K "_law_literal_signs" "_law_literal_signs" sLitS fL fdL) (bL : Binds K fdL ["_law_value_here"] []) (gL : mg "_law_literal_signs" = some (.ref fL))
    (FB : Fun K "_law_body_signs" "_law_body_signs" sBodyS fB fdB) (bB' : Binds K fdB ["_law_body_here"] []) (gB : mg "_law_body_signs" = some (.ref fB))
    (GF : FnOk P w K mg base CX0 (k + 1) f fd ["_law_value_here"] (spVp j)) (GB : FnOk P w K mg base CX0 (k + 1) fB fdB ["_law_body_here"] (spBp j)) :
    FnOk P w K mg base CX0 (k + 2) f fd ["_law_value_here"] (spV j) := by
  have GL : FnOk P w K mg base CX0 1 fL fdL ["_law_value_here"] spLitS := ok_litS FL Z
  refine F.ok scValS (fun vs H Q E h => ?_) (fun cdv A outer s H vs Q E hr h => ?_)
  · obtain ⟨v, S, m, rfl, _⟩ := h
    rfl
  · obtain ⟨v, S, m, rfl, hv, hm, q⟩ := h
    have hr1 : Room 1 _ := hr.mono (by omega)
    refine ⟨_, pss_cons (ps_set (i := 1) scValS.nd rfl (.inl rfl) (pe_ix ix_tup (pv 0) pe_int (fun _ _ => rfl)))
      (pss_cons (ps_if (pt_cmpR op_eq (pv 1) pe_str (nomark _)) (pss_one (ps_ret (pe_call GL hr1 (by rfl) gL FL.kp bL .nil pass0 (pa_cons (pe_ix ix_tup (pv 0) pe_int (fun _ _ => rfl)) pa_nil)))) pss_nil)
      (pss_cons (ps_if (pt_cmpR op_in_seq (pv 1) (pe_tup (pa_cons pe_str (pa_cons pe_str pa_nil))) (by with_unfolding_all rfl)) (pss_one (ps_ret (pe_lst (pa_cons (pe_join pe_str (pe_ix ix_tup (pv 0) pe_int (fun _ _ => rfl))) pa_nil)))) pss_nil)
      (pss_cons (ps_if (pt_cmpR op_eq (pv 1) pe_str (nomark _))
        (pss_cons (ps_set (i := 2) scValS.nd rfl (.inl rfl) (pe_op op_cat (pe_op op_cat (pe_lst (pa_cons pe_str (pa_cons (pe_join pe_str (pe_ix ix_tup (pv 0) pe_int (fun _ _ => rfl))) (pa_cons pe_str pa_nil))))
            (pe_call GL hr1 (by rfl) gL FL.kp bL .nil pass0 (pa_cons (pe_ix ix_tup (pv 0) pe_int (fun _ _ => rfl)) pa_nil))) (pe_lst (pa_cons pe_str pa_nil))))
        (pss_one (ps_ret (pe_op op_cat (pe_op op_cat (pe_op op_cat (pv 2) (pe_call GF hr (by rfl) gF F.kp bF .nil pass0 (pa_cons (pe_ix ix_tup (pv 0) pe_int (fun _ _ => rfl)) pa_nil))) (pe_lst (pa_cons pe_str pa_nil)))
            (pe_call GF hr (by rfl) gF F.kp bF .nil pass0 (pa_cons (pe_ix ix_tup (pv 0) pe_int (fun _ _ => rfl)) pa_nil)))))) pss_nil)
      (pss_cons (ps_if (pt_cmpR op_eq (pv 1) pe_str (nomark _))
        (pss_cons (ps_set (i := 2) scValS.nd rfl (.inl rfl) (pe_lst pa_nil))
        (pss_cons (ps_for PassesOwn.never rfl (pi_enum (by rfl) ze (pa_cons (pe_ix ix_tup (pv 0) pe_int (fun _ _ => rfl)) pa_nil))
            (pg_tup rfl (pgs_cons (pg_name (i := 3) scValS.nd rfl (.inl rfl)) (pgs_cons (pg_tup rfl (pgs_cons (pg_name (i := 4) scValS.nd rfl (.inl rfl)) (pgs_cons (pg_name (i := 5) scValS.nd rfl (.inl rfl)) pgs_nil))) pgs_nil)))
          (pss_cons (ps_expr (pe_bm PySem.F.plainAttrs_list PySem.F.slot_list_extend PySem.F.type_list_extend mt_extend (pv 2) (pa_cons (pe_ifExp (pt_cmpR op_lt (pv 4) pe_int (nomark _)) (pe_lst (pa_cons pe_str pa_nil))
            (pe_op op_rep (pe_lst (pa_cons pe_str pa_nil)) (pe_callTy call_int1 (by rfl) Z.int (by decide +kernel) (pa_cons (pe_cmpR op_gt (pv 3) pe_int (nomark _)) pa_nil)))) pa_nil)))
          (pss_cons (ps_set (i := 6) scValS.nd rfl (.inl rfl) (pe_ifExp (pt_cmpR op_notN (pv 5) pe_non (nomark _))
            (pe_op op_rep (pe_lst (pa_cons (pe_callTy call_str_int (by rfl) Z.str (by decide +kernel) (pa_cons (pe_callB call_abs (by rfl) Z.abs (by decide +kernel) (pa_cons (pv 4) pa_nil)) pa_nil)) (pa_cons pe_str pa_nil)))
              (pe_callTy call_int1 (by rfl) Z.int (by decide +kernel) (pa_cons (pe_cmpR op_gt (pe_callB call_abs (by rfl) Z.abs (by decide +kernel) (pa_cons (pv 4) pa_nil)) pe_int (nomark _)) pa_nil)))
            (pe_lst (pa_cons (pe_callTy call_str_int (by rfl) Z.str (by decide +kernel) (pa_cons (pe_callB call_abs (by rfl) Z.abs (by decide +kernel) (pa_cons (pv 4) pa_nil)) pa_nil)) pa_nil))))
          (pss_one (ps_expr (pe_bm PySem.F.plainAttrs_list PySem.F.slot_list_extend PySem.F.type_list_extend mt_extend (pv 2) (pa_cons (pe_op op_cat (pv 6)
            (pe_ifExp (pt_cmpR op_notN (pv 5) pe_non (nomark _)) (pe_lst (pa_cons (pe_join pe_str (pv 5)) pa_nil)) (pe_lst pa_nil))) pa_nil)))))))
        (pss_one (ps_ret (pv 2))))) pss_nil)
      (pss_cons (ps_if (pt_cmpR op_eq (pv 1) pe_str (nomark _)) (pss_one (ps_ret (pe_call GB hr (by rfl) gB FB.kp bB' .nil pass0 (pa_cons (pe_ix ix_tup (pv 0) pe_int (fun _ _ => rfl)) pa_nil)))) pss_nil)
      (pss_cons (ps_set (i := 2) scValS.nd rfl (.inl rfl) (pe_ifExp (pt_cmpR op_eq (pv 1) pe_str (nomark _)) (pe_lst (pa_cons pe_str pa_nil))
        (pe_lst (pa_cons pe_str (pa_cons (pe_ix ix_tup (pv 0) pe_int (fun _ _ => rfl)) (pa_cons pe_str (pa_cons (pe_ix ix_tup (pv 0) pe_int (fun _ _ => rfl)) pa_nil)))))))
      (pss_cons (ps_if (PW.pt (pw_and (pt_cmpR op_eq (pv 1) pe_str (nomark _)) (pw_and1 (pt_cmpR op_notN (pe_ix ix_tup (pv 0) pe_int (fun _ _ => rfl)) pe_non (nomark _)))))
        (pss_one (ps_set (i := 2) scValS.nd rfl (.inl rfl) (pe_op op_cat (pe_op op_cat (pv 2) (pe_lst (pa_cons pe_str (pa_cons (pe_op op_add_str (pe_op op_add_str (pe_ix ix_tup (pv 0) pe_int (fun _ _ => rfl)) pe_str)
            (pe_ix ix_tup (pe_ix ix_tup (pv 0) pe_int (fun _ _ => rfl)) pe_int (fun _ _ => rfl))) (pa_cons pe_str pa_nil)))))
          (pe_call GF hr (by rfl) gF F.kp bF .nil pass0 (pa_cons (pe_ix ix_tup (pe_ix ix_tup (pv 0) pe_int (fun _ _ => rfl)) pe_int (fun _ _ => rfl)) pa_nil))))) pss_nil)
      (pss_cons (ps_set (i := 2) scValS.nd rfl (.inl rfl) (pe_op op_cat (pe_op op_cat (pv 2) (pe_op op_rep (pe_lst (pa_cons pe_str pa_nil)) (pe_callTy call_int1 (by rfl) Z.int (by decide +kernel) (pa_cons (pe_cmpR op_eq (pv 1) pe_str (nomark _)) pa_nil))))
        (pe_lst (pa_cons (pe_ix ix_tup (pv 0) (pe_un un_neg pe_int) (fun _ _ => rfl)) pa_nil))))
      (pss_one (ps_ret (pe_op op_cat (pv 2) (pe_ifExp (pt_cmpR (op_ne0 (Nat.lt_of_le_of_lt (Nat.le_add_right _ 64) hr.units)) (pe_ix ix_tup (pv 0) (pe_un un_neg pe_int) (fun _ _ => rfl)) pe_dnewK (nomark _))
        (pe_call GB hr (by rfl) gB FB.kp bB' .nil pass0 (pa_cons (pe_ix ix_tup (pv 0) (pe_un un_neg pe_int) (fun _ _ => rfl)) pa_nil)) (pe_lst pa_nil))))))))))))), ?_⟩
    have kinds : (SV S H v ∧ 12 ≤ m) ∨ (Side S H v ∧ 12 ≤ m) ∨ (∃ j', j = j' + 1 ∧ ((∃ t p l a b, v = .ref t ∧ At S H t (.tup [.str "if", p, l, a, b]) ∧ Path S H p ∧ Lit l ∧ SV S H a ∧ SV S H b ∧ 34 ≤ m) ∨
        (∃ t d n, v = .ref t ∧ At S H t (.tup [.str "body", .ref d]) ∧ BD S H n d ∧ n < j' ∧ bB n ≤ m) ∨ (∃ n t d s, v = .ref t ∧ At S H t (.tup [.str "new", .str s, .ref d]) ∧ Wd s ∧ BD S H n d ∧ n < j' ∧ 24 + bB n ≤ m) ∨
        (∃ n t d s q w, v = .ref t ∧ At S H t (.tup [.str "loop", .str "it", .str q, w, .str s, .ref d]) ∧ Wd s ∧ Wd q ∧ Wh S H w ∧ BD S H n d ∧ n < j' ∧ 24 + bB n ≤ m))) := by
      have vvc : ∀ (v : V) (j' : Nat), VV S H v → 34 ≤ m → (SV S H v ∧ 12 ≤ m) ∨ (∃ t p l a b, v = .ref t ∧ At S H t (.tup [.str "if", p, l, a, b]) ∧ Path S H p ∧ Lit l ∧ SV S H a ∧ SV S H b ∧ 34 ≤ m) := by
        intro v j' x hm
        cases x with
        | sv v h => exact .inl ⟨h, by omega⟩
        | ite t p l a b e h1 h2 h3 h4 => exact .inr ⟨t, p, l, a, b, rfl, e, h1, h2, h3, h4, hm⟩
      cases j with
      | zero =>
        rcases hv with ⟨hv, rfl⟩ | ⟨hv, rfl⟩
        · exact .inl ⟨hv, Nat.le_refl _⟩
        · exact .inr (.inl ⟨hv, Nat.le_refl _⟩)
      | succ j =>
        rcases hv with ⟨hv, rfl⟩ | ⟨hv, rfl⟩ | ⟨hv, rfl⟩ | ⟨t, d, n, rfl, a, b, c, rfl⟩ | ⟨n, hv, c, rfl⟩
        · exact .inl ⟨hv, Nat.le_refl _⟩
        · exact .inr (.inl ⟨hv, Nat.le_refl _⟩)
        · rcases vvc v j hv (Nat.le_refl _) with h | h
          · exact .inl h
          · exact .inr (.inr ⟨j, rfl, .inl h⟩)
        · exact .inr (.inr ⟨j, rfl, .inr (.inl ⟨t, d, n, rfl, a, b, c, Nat.le_refl _⟩)⟩)
        · have := bB_ge n
          cases hv with
          | vv v h =>
            rcases vvc v j h (by omega) with h | h
            · exact .inl h
            · exact .inr (.inr ⟨j, rfl, .inl h⟩)
          | new t d s a b e => exact .inr (.inr ⟨j, rfl, .inr (.inr (.inl ⟨n, t, d, s, rfl, a, b, e, c, Nat.le_refl _⟩))⟩)
          | loop t d s q w a b e f g => exact .inr (.inr ⟨j, rfl, .inr (.inr (.inr ⟨n, t, d, s, q, w, rfl, a, b, e, f, g, c, Nat.le_refl _⟩))⟩)
    have line24 : sizeLine = 2 ^ 24 := rfl
    rcases kinds with ⟨hv, hm12⟩ | ⟨hv, hm12⟩ | ⟨j', rfl, kinds⟩
    · cases hv with
      | lit t x a hx =>
        refine ⟨.ref t, rfl, t, _, 0, .str "lit", rfl, rfl, SqT.of a.2, atI_nat (j := 0) rfl, ?_⟩
        refine ⟨.str "lit", rfl, rfl, _, rfl, ?_⟩
        refine ite2 (fun _ => ?_) (fun e => absurd (by decide +kernel) e)
        refine ⟨.ref t, rfl, t, _, 1, x, rfl, rfl, SqT.of a.2, atI_nat (j := 1) rfl, x, rfl, hx, fun H' l s n sg => q H' l s n ?_⟩
        obtain ⟨ss, u1, u2, u3⟩ := sg
        exact ⟨ss, u1, u2, by omega⟩
      | copy t p a hp =>
        refine ⟨.ref t, rfl, t, _, 0, .str "copy", rfl, rfl, SqT.of a.2, atI_nat (j := 0) rfl, ?_⟩
        refine ⟨.str "copy", rfl, rfl, _, rfl, ?_⟩
        refine ite2 (fun e => absurd e (by decide +kernel)) (fun _ => ?_)
        refine ⟨.str "copy", rfl, by show 2 ≤ sizeLine; decide, fun t2 nt2 => ?_⟩
        obtain ⟨s2, f2, _⟩ := grow (o := .tup [.str "copy", .str "path"]) nt2
        refine ⟨t2, _, rfl, .inr (SqT.of f2), rfl, by decide +kernel, _, rfl, ?_⟩
        refine ite2 (fun _ => ?_) (fun e => absurd (by decide +kernel) e)
        obtain ⟨tp, ys, rfl, hys, jok, jl⟩ := path_join hp
        refine ⟨⟨_, rfl⟩, .ref t, rfl, t, _, 1, .ref tp, rfl, rfl, SqT.of (s2 _ _ a.2), atI_nat (j := 1) rfl, ".", tp, ys, rfl, rfl, .inr (SqT.of (s2 _ _ hys)), by rw [len1]; omega, by show 1 ≤ sizeLine; decide, fun l nl => ?_⟩
        obtain ⟨s3, f3, _⟩ := grow (o := .lst [.str (Txt.join "." ys)]) nl
        refine q _ l (sTr s2 s3) (same_free s2 nl) ⟨[Txt.join "." ys], f3, fun x h => ?_, by show 1 ≤ m; omega⟩
        rw [List.mem_singleton.mp h]
        exact jok
      | sum t l xs a al hx lx =>
        refine ⟨.ref t, rfl, t, _, 0, .str "sum", rfl, rfl, SqT.of a.2, atI_nat (j := 0) rfl, ?_⟩
        refine ⟨.str "sum", rfl, rfl, _, rfl, ?_⟩
        refine ite2 (fun e => absurd e (by decide +kernel)) (fun _ => ?_)
        refine ⟨.str "sum", rfl, by show 2 ≤ sizeLine; decide, fun t2 nt2 => ?_⟩
        obtain ⟨s2, f2, _⟩ := grow (o := .tup [.str "copy", .str "path"]) nt2
        refine ⟨t2, _, rfl, .inr (SqT.of f2), rfl, by decide +kernel, _, rfl, ?_⟩
        refine ite2 (fun e => absurd e (by decide +kernel)) (fun _ => ?_)
        refine ⟨.str "sum", rfl, rfl, _, rfl, ?_⟩
        refine ite2 (fun e => absurd e (by decide +kernel)) (fun _ => ?_)
        refine ⟨.str "sum", rfl, rfl, _, rfl, ?_⟩
        refine ite2 (fun _ => ?_) (fun e => absurd (by decide +kernel) e)
        refine ⟨Nat.zero_le _, fun L nL => ?_⟩
        obtain ⟨s3, f3, _⟩ := grow (o := .lst []) nL
        have s03 := sTr s2 s3
        have nLH : H L = none := same_free s2 nL
        generalize upd (upd H t2 (.tup [.str "copy", .str "path"])) L (.lst []) = G3 at f3 s03 ⊢
        refine ⟨.ref t, rfl, t, _, 1, .ref l, rfl, rfl, SqT.of (s03 _ _ a.2), atI_nat (j := 1) rfl, l, xs, rfl, SqL.of (s03 _ _ al.2), for_it (walk_enum (K := K) (a := l) (xs := xs))
          (fun i σ G => ∃ (o3 o4 o5 o6 : Option V) (ss : List Str), σ = [some (.ref t), some (.str "sum"), some (.ref L), o3, o4, o5, o6] ∧ Same H G ∧ G L = some (.lst (ss.map V.str)) ∧ (∀ x ∈ ss, SgOk x) ∧ ss.length ≤ 4 * i)
          ⟨none, none, none, none, [], rfl, s03, f3, fun x h => (List.not_mem_nil h).elim, Nat.le_refl _⟩ (fun i σ G _ ⟨_, _, _, _, _, _, sG, _⟩ => SqL.of (sG _ _ al.2)) ?_ ?_⟩
        · rintro i x σ G G' hi ⟨o3, o4, o5, o6, ss, rfl, sG, LG, oG, cG⟩ ⟨T, x', y', rfl, nT, rfl, e1, e2⟩
          replace e2 : xs[i]? = some y' := e2
          cases e1
          obtain ⟨tt, fct, p, rfl, att, hf, hp⟩ := hx y' (List.mem_of_getElem? e2)
          obtain ⟨sT, fT, _⟩ := grow (o := .tup [V.int (i : Int), .ref tt]) nT
          refine ⟨T, _, rfl, SqT.of fT, rfl, _, _, rfl, _, _, rfl, ?_⟩
          have sG1 := sTr sG sT
          have LG1 := sT _ _ LG
          generalize upd G T (.tup [V.int (i : Int), .ref tt]) = G1 at sG1 LG1 ⊢
          refine ⟨tt, _, rfl, SqT.of (sG1 _ _ att.2), rfl, _, _, rfl, _, _, rfl, rfl, rfl, ?_⟩
          have i3 : i < 3 := by omega
          refine ⟨.ref L, rfl, .inl ⟨rfl, _, SqL.of LG1⟩, .int fct, rfl, _, _, rfl, rfl, _, rfl, ?_⟩
          refine ite2 (fun _ => ?_) (fun _ => ?_)
          · refine ⟨by show 1 ≤ sizeLine; decide, fun B nB => ?_⟩
            obtain ⟨sB, fB, _⟩ := grow (o := .lst ((["-"] : List Str).map V.str)) nB
            refine ⟨L, B, _, (["-"] : List Str).map V.str, rfl, rfl, sB _ _ LG1, fB, by simp only [List.length_map, List.length_cons, List.length_nil]; omega, ?_⟩
            obtain ⟨ss2, hss2⟩ : ∃ ss2, ss2 = ss ++ (["-"] : List Str) := ⟨_, rfl⟩
            have o2 : ∀ x ∈ ss2, SgOk x := fun x h => by
              rw [hss2] at h
              rcases List.mem_append.mp h with h | h
              · exact oG x h
              · rw [List.mem_singleton.mp h]
                exact sgB_ok (by decide +kernel)
            have c2 : ss2.length ≤ 4 * i + 1 := by
              rw [hss2, List.length_append]
              show ss.length + 1 ≤ _
              omega
            have L2' : upd (upd G1 B (.lst ((["-"] : List Str).map V.str))) L (.lst (ss.map V.str ++ (["-"] : List Str).map V.str)) L = some (.lst (ss2.map V.str)) := by
              rw [upd_same, hss2, List.map_append]
            have sG2 : Same H (upd (upd G1 B (.lst ((["-"] : List Str).map V.str))) L (.lst (ss.map V.str ++ (["-"] : List Str).map V.str))) := same_lst (sTr sG1 sB) nLH
            clear hss2
            have lg : (if fct < 0 then -fct else fct).natAbs.log2 < 1920 := by
              have : (if fct < 0 then -fct else fct).natAbs < 2 ^ 1920 := Nat.lt_of_lt_of_le (show (if fct < 0 then -fct else fct).natAbs < 2 ^ 10 by split <;> omega) (Nat.pow_le_pow_right (by decide) (by decide))
              exact bits_le this (by decide)
            have nu := abs_num hf
            refine ⟨p, rfl, rfl, _, rfl, ?_⟩
            by_cases pn : p = .non
            · refine ite2 (fun e => absurd e (by rw [pn]; decide +kernel)) (fun _ => ?_)
              refine ⟨.int fct, rfl, fct, rfl, _, rfl, lg, by show 1 ≤ sizeLine; decide, fun A nA => ?_⟩
              generalize (toString (if fct < 0 then -fct else fct) : String) = nt at nu ⊢
              obtain ⟨sA, fA, _⟩ := grow (o := .lst (([(nt : Str)] : List Str).map V.str)) nA
              obtain ⟨ts, hts⟩ : ∃ ts, ts = ([(nt : Str)] : List Str) := ⟨_, rfl⟩
              have ot : ∀ x ∈ ts, SgOk x := fun x h => by
                rw [hts] at h
                rw [List.mem_singleton.mp h]
                exact num_ok nu
              have ct : ts.length ≤ 2 := by rw [hts]; show 1 ≤ 2; decide
              have L4 := sA _ _ L2'
              have sG4 := sTr sG2 sA
              have A4 := fA.trans (show some (HO.lst (([(nt : Str)] : List Str).map V.str)) = some (HO.lst (ts.map V.str)) by rw [hts])
              clear hts
              refine ⟨.ref L, rfl, .inl ⟨rfl, _, SqL.of L4⟩, .ref A, rfl, p, rfl, rfl, _, rfl, ?_⟩
              rcases hp with rfl | hp
              · refine ite2 (fun e => absurd e (by decide +kernel)) (fun _ => ?_)
                refine ⟨Nat.zero_le _, fun l5 nl5 => ?_⟩
                obtain ⟨s5, f5, _⟩ := grow (o := .lst []) nl5
                refine ⟨A, l5, _, _, rfl, rfl, s5 _ _ A4, f5, by simp only [List.length_map, List.length_nil]; omega, fun l6 nl6 => ?_⟩
                obtain ⟨s6, f6, _⟩ := grow (o := .lst (ts.map V.str ++ [])) nl6
                refine ⟨L, l6, _, _, rfl, rfl, s6 _ _ (s5 _ _ L4), f6, by simp only [List.length_append, List.length_map, List.length_nil]; omega, ?_⟩
                refine ⟨_, _, _, _, ss2 ++ ts, rfl, same_lst (sTr (sTr sG4 s5) s6) nLH, by rw [upd_same, List.map_append, List.append_nil], fun x h => ?_, by rw [List.length_append]; omega⟩
                rcases List.mem_append.mp h with h | h
                · exact o2 x h
                · exact ot x h
              · obtain ⟨tp, ys, rfl, hys, jok, jl⟩ := path_join hp
                refine ite2 (fun _ => ?_) (fun e => absurd (by rw [decide_eq_false (by intro z; cases z)]; rfl) e)
                refine ⟨⟨_, rfl⟩, .ref tp, rfl, ".", tp, ys, rfl, rfl, .inr (SqT.of (sG4 _ _ hys)), by rw [len1]; omega, by show 1 ≤ sizeLine; decide, fun l5 nl5 => ?_⟩
                obtain ⟨s5, f5, _⟩ := grow (o := .lst (([Txt.join "." ys] : List Str).map V.str)) nl5
                refine ⟨A, l5, _, ([Txt.join "." ys] : List Str).map V.str, rfl, rfl, s5 _ _ A4, f5, by simp only [List.length_map, List.length_cons, List.length_nil]; omega, fun l6 nl6 => ?_⟩
                obtain ⟨s6, f6, _⟩ := grow (o := .lst (ts.map V.str ++ ([Txt.join "." ys] : List Str).map V.str)) nl6
                refine ⟨L, l6, _, _, rfl, rfl, s6 _ _ (s5 _ _ L4), f6, by simp only [List.length_append, List.length_map, List.length_cons, List.length_nil]; omega, ?_⟩
                refine ⟨_, _, _, _, ss2 ++ (ts ++ [Txt.join "." ys]), rfl, same_lst (sTr (sTr sG4 s5) s6) nLH, by rw [upd_same, List.map_append, List.map_append], fun x h => ?_, by simp only [List.length_append, List.length_cons, List.length_nil]; omega⟩
                rcases List.mem_append.mp h with h | h
                · exact o2 x h
                · rcases List.mem_append.mp h with h | h
                  · exact ot x h
                  · rw [List.mem_singleton.mp h]
                    exact jok
            · refine ite2 (fun _ => ?_) (fun e => absurd (by rw [decide_eq_false pn]; rfl) e)
              refine ⟨.int fct, rfl, fct, rfl, _, rfl, lg, by show 2 ≤ sizeLine; decide, fun A0 nA0 => ?_⟩
              generalize (toString (if fct < 0 then -fct else fct) : String) = nt at nu ⊢
              obtain ⟨sA0, fA0, _⟩ := grow (o := .lst (([(nt : Str), "*"] : List Str).map V.str)) nA0
              refine ⟨.int fct, rfl, fct, rfl, _, _, rfl, rfl, .inr ⟨_, rfl, ?_⟩⟩
              obtain ⟨zt, hzt⟩ : ∃ zt : Int, zt = if decide ((1 : Int) < (if fct < 0 then -fct else fct)) = true then 1 else 0 := ⟨_, rfl⟩
              have zt01 : 0 ≤ zt ∧ zt ≤ 1 := by
                rw [hzt]
                split <;> omega
              rw [← hzt]
              obtain ⟨ts, ht1, ht2, ht3⟩ := reps (s := "") zt01 ([(nt : Str), "*"] : List Str)
              refine ⟨A0, zt, ([(nt : Str), "*"] : List Str).map V.str, rfl, rfl, fA0, by omega, by omega, by show 2 * zt.toNat ≤ sizeLine; omega, fun A nA => ?_⟩
              rw [ht1]
              obtain ⟨sA, fA, _⟩ := grow (o := .lst (ts.map V.str)) nA
              have ot : ∀ x ∈ ts, SgOk x := fun x h => by
                have := ht3 x h
                simp only [List.mem_cons, List.not_mem_nil, or_false] at this
                rcases this with rfl | rfl
                · exact num_ok nu
                · exact sgB_ok (by decide +kernel)
              have ct : ts.length ≤ 2 := ht2
              have L4 := sA _ _ (sA0 _ _ L2')
              have sG4 := sTr (sTr sG2 sA0) sA
              have A4 := fA
              refine ⟨.ref L, rfl, .inl ⟨rfl, _, SqL.of L4⟩, .ref A, rfl, p, rfl, rfl, _, rfl, ?_⟩
              rcases hp with rfl | hp
              · refine ite2 (fun e => absurd e (by decide +kernel)) (fun _ => ?_)
                refine ⟨Nat.zero_le _, fun l5 nl5 => ?_⟩
                obtain ⟨s5, f5, _⟩ := grow (o := .lst []) nl5
                refine ⟨A, l5, _, _, rfl, rfl, s5 _ _ A4, f5, by simp only [List.length_map, List.length_nil]; omega, fun l6 nl6 => ?_⟩
                obtain ⟨s6, f6, _⟩ := grow (o := .lst (ts.map V.str ++ [])) nl6
                refine ⟨L, l6, _, _, rfl, rfl, s6 _ _ (s5 _ _ L4), f6, by simp only [List.length_append, List.length_map, List.length_nil]; omega, ?_⟩
                refine ⟨_, _, _, _, ss2 ++ ts, rfl, same_lst (sTr (sTr sG4 s5) s6) nLH, by rw [upd_same, List.map_append, List.append_nil], fun x h => ?_, by rw [List.length_append]; omega⟩
                rcases List.mem_append.mp h with h | h
                · exact o2 x h
                · exact ot x h
              · obtain ⟨tp, ys, rfl, hys, jok, jl⟩ := path_join hp
                refine ite2 (fun _ => ?_) (fun e => absurd (by rw [decide_eq_false (by intro z; cases z)]; rfl) e)
                refine ⟨⟨_, rfl⟩, .ref tp, rfl, ".", tp, ys, rfl, rfl, .inr (SqT.of (sG4 _ _ hys)), by rw [len1]; omega, by show 1 ≤ sizeLine; decide, fun l5 nl5 => ?_⟩
                obtain ⟨s5, f5, _⟩ := grow (o := .lst (([Txt.join "." ys] : List Str).map V.str)) nl5
                refine ⟨A, l5, _, ([Txt.join "." ys] : List Str).map V.str, rfl, rfl, s5 _ _ A4, f5, by simp only [List.length_map, List.length_cons, List.length_nil]; omega, fun l6 nl6 => ?_⟩
                obtain ⟨s6, f6, _⟩ := grow (o := .lst (ts.map V.str ++ ([Txt.join "." ys] : List Str).map V.str)) nl6
                refine ⟨L, l6, _, _, rfl, rfl, s6 _ _ (s5 _ _ L4), f6, by simp only [List.length_append, List.length_map, List.length_cons, List.length_nil]; omega, ?_⟩
                refine ⟨_, _, _, _, ss2 ++ (ts ++ [Txt.join "." ys]), rfl, same_lst (sTr (sTr sG4 s5) s6) nLH, by rw [upd_same, List.map_append, List.map_append], fun x h => ?_, by simp only [List.length_append, List.length_cons, List.length_nil]; omega⟩
                rcases List.mem_append.mp h with h | h
                · exact o2 x h
                · rcases List.mem_append.mp h with h | h
                  · exact ot x h
                  · rw [List.mem_singleton.mp h]
                    exact jok
          · refine ⟨by show 1 ≤ sizeLine; decide, fun B0 nB0 => ?_⟩
            obtain ⟨sB0, fB0, _⟩ := grow (o := .lst ((["+"] : List Str).map V.str)) nB0
            refine ⟨.int i, rfl, _, _, rfl, rfl, .inr ⟨_, rfl, ?_⟩⟩
            obtain ⟨zp, hzp⟩ : ∃ zp : Int, zp = if decide ((0 : Int) < (i : Int)) = true then 1 else 0 := ⟨_, rfl⟩
            have zp01 : 0 ≤ zp ∧ zp ≤ 1 := by
              rw [hzp]
              split <;> omega
            rw [← hzp]
            obtain ⟨gs, hg1, hg2, hg3⟩ := reps (s := "") zp01 (["+"] : List Str)
            refine ⟨B0, zp, (["+"] : List Str).map V.str, rfl, rfl, fB0, by omega, by omega, by show 1 * zp.toNat ≤ sizeLine; omega, fun B nB => ?_⟩
            rw [hg1]
            obtain ⟨sB, fB, _⟩ := grow (o := .lst (gs.map V.str)) nB
            have hg2 : gs.length ≤ 1 := hg2
            refine ⟨L, B, _, gs.map V.str, rfl, rfl, sB _ _ (sB0 _ _ LG1), fB, by simp only [List.length_map]; omega, ?_⟩
            obtain ⟨ss2, hss2⟩ : ∃ ss2, ss2 = ss ++ gs := ⟨_, rfl⟩
            have o2 : ∀ x ∈ ss2, SgOk x := fun x h => by
              rw [hss2] at h
              rcases List.mem_append.mp h with h | h
              · exact oG x h
              · rw [List.mem_singleton.mp (hg3 x h)]
                exact sgB_ok (by decide +kernel)
            have c2 : ss2.length ≤ 4 * i + 1 := by
              rw [hss2, List.length_append]
              omega
            have L2' := (upd_same (H := upd (upd G1 B0 (.lst ((["+"] : List Str).map V.str))) B (.lst (gs.map V.str))) (a := L) (o := .lst (ss.map V.str ++ gs.map V.str))).trans (show some (HO.lst (ss.map V.str ++ gs.map V.str)) = some (HO.lst (ss2.map V.str)) by rw [hss2, List.map_append])
            have sG2 : Same H (upd (upd (upd G1 B0 (.lst ((["+"] : List Str).map V.str))) B (.lst (gs.map V.str))) L (.lst (ss.map V.str ++ gs.map V.str))) := same_lst (sTr (sTr sG1 sB0) sB) nLH
            clear hss2
            have lg : (if fct < 0 then -fct else fct).natAbs.log2 < 1920 := by
              have : (if fct < 0 then -fct else fct).natAbs < 2 ^ 1920 := Nat.lt_of_lt_of_le (show (if fct < 0 then -fct else fct).natAbs < 2 ^ 10 by split <;> omega) (Nat.pow_le_pow_right (by decide) (by decide))
              exact bits_le this (by decide)
            have nu := abs_num hf
            refine ⟨p, rfl, rfl, _, rfl, ?_⟩
            by_cases pn : p = .non
            · refine ite2 (fun e => absurd e (by rw [pn]; decide +kernel)) (fun _ => ?_)
              refine ⟨.int fct, rfl, fct, rfl, _, rfl, lg, by show 1 ≤ sizeLine; decide, fun A nA => ?_⟩
              generalize (toString (if fct < 0 then -fct else fct) : String) = nt at nu ⊢
              obtain ⟨sA, fA, _⟩ := grow (o := .lst (([(nt : Str)] : List Str).map V.str)) nA
              obtain ⟨ts, hts⟩ : ∃ ts, ts = ([(nt : Str)] : List Str) := ⟨_, rfl⟩
              have ot : ∀ x ∈ ts, SgOk x := fun x h => by
                rw [hts] at h
                rw [List.mem_singleton.mp h]
                exact num_ok nu
              have ct : ts.length ≤ 2 := by rw [hts]; show 1 ≤ 2; decide
              have L4 := sA _ _ L2'
              have sG4 := sTr sG2 sA
              have A4 := fA.trans (show some (HO.lst (([(nt : Str)] : List Str).map V.str)) = some (HO.lst (ts.map V.str)) by rw [hts])
              clear hts
              refine ⟨.ref L, rfl, .inl ⟨rfl, _, SqL.of L4⟩, .ref A, rfl, p, rfl, rfl, _, rfl, ?_⟩
              rcases hp with rfl | hp
              · refine ite2 (fun e => absurd e (by decide +kernel)) (fun _ => ?_)
                refine ⟨Nat.zero_le _, fun l5 nl5 => ?_⟩
                obtain ⟨s5, f5, _⟩ := grow (o := .lst []) nl5
                refine ⟨A, l5, _, _, rfl, rfl, s5 _ _ A4, f5, by simp only [List.length_map, List.length_nil]; omega, fun l6 nl6 => ?_⟩
                obtain ⟨s6, f6, _⟩ := grow (o := .lst (ts.map V.str ++ [])) nl6
                refine ⟨L, l6, _, _, rfl, rfl, s6 _ _ (s5 _ _ L4), f6, by simp only [List.length_append, List.length_map, List.length_nil]; omega, ?_⟩
                refine ⟨_, _, _, _, ss2 ++ ts, rfl, same_lst (sTr (sTr sG4 s5) s6) nLH, by rw [upd_same, List.map_append, List.append_nil], fun x h => ?_, by rw [List.length_append]; omega⟩
                rcases List.mem_append.mp h with h | h
                · exact o2 x h
                · exact ot x h
              · obtain ⟨tp, ys, rfl, hys, jok, jl⟩ := path_join hp
                refine ite2 (fun _ => ?_) (fun e => absurd (by rw [decide_eq_false (by intro z; cases z)]; rfl) e)
                refine ⟨⟨_, rfl⟩, .ref tp, rfl, ".", tp, ys, rfl, rfl, .inr (SqT.of (sG4 _ _ hys)), by rw [len1]; omega, by show 1 ≤ sizeLine; decide, fun l5 nl5 => ?_⟩
                obtain ⟨s5, f5, _⟩ := grow (o := .lst (([Txt.join "." ys] : List Str).map V.str)) nl5
                refine ⟨A, l5, _, ([Txt.join "." ys] : List Str).map V.str, rfl, rfl, s5 _ _ A4, f5, by simp only [List.length_map, List.length_cons, List.length_nil]; omega, fun l6 nl6 => ?_⟩
                obtain ⟨s6, f6, _⟩ := grow (o := .lst (ts.map V.str ++ ([Txt.join "." ys] : List Str).map V.str)) nl6
                refine ⟨L, l6, _, _, rfl, rfl, s6 _ _ (s5 _ _ L4), f6, by simp only [List.length_append, List.length_map, List.length_cons, List.length_nil]; omega, ?_⟩
                refine ⟨_, _, _, _, ss2 ++ (ts ++ [Txt.join "." ys]), rfl, same_lst (sTr (sTr sG4 s5) s6) nLH, by rw [upd_same, List.map_append, List.map_append], fun x h => ?_, by simp only [List.length_append, List.length_cons, List.length_nil]; omega⟩
                rcases List.mem_append.mp h with h | h
                · exact o2 x h
                · rcases List.mem_append.mp h with h | h
                  · exact ot x h
                  · rw [List.mem_singleton.mp h]
                    exact jok
            · refine ite2 (fun _ => ?_) (fun e => absurd (by rw [decide_eq_false pn]; rfl) e)
              refine ⟨.int fct, rfl, fct, rfl, _, rfl, lg, by show 2 ≤ sizeLine; decide, fun A0 nA0 => ?_⟩
              generalize (toString (if fct < 0 then -fct else fct) : String) = nt at nu ⊢
              obtain ⟨sA0, fA0, _⟩ := grow (o := .lst (([(nt : Str), "*"] : List Str).map V.str)) nA0
              refine ⟨.int fct, rfl, fct, rfl, _, _, rfl, rfl, .inr ⟨_, rfl, ?_⟩⟩
              obtain ⟨zt, hzt⟩ : ∃ zt : Int, zt = if decide ((1 : Int) < (if fct < 0 then -fct else fct)) = true then 1 else 0 := ⟨_, rfl⟩
              have zt01 : 0 ≤ zt ∧ zt ≤ 1 := by
                rw [hzt]
                split <;> omega
              rw [← hzt]
              obtain ⟨ts, ht1, ht2, ht3⟩ := reps (s := "") zt01 ([(nt : Str), "*"] : List Str)
              refine ⟨A0, zt, ([(nt : Str), "*"] : List Str).map V.str, rfl, rfl, fA0, by omega, by omega, by show 2 * zt.toNat ≤ sizeLine; omega, fun A nA => ?_⟩
              rw [ht1]
              obtain ⟨sA, fA, _⟩ := grow (o := .lst (ts.map V.str)) nA
              have ot : ∀ x ∈ ts, SgOk x := fun x h => by
                have := ht3 x h
                simp only [List.mem_cons, List.not_mem_nil, or_false] at this
                rcases this with rfl | rfl
                · exact num_ok nu
                · exact sgB_ok (by decide +kernel)
              have ct : ts.length ≤ 2 := ht2
              have L4 := sA _ _ (sA0 _ _ L2')
              have sG4 := sTr (sTr sG2 sA0) sA
              have A4 := fA
              refine ⟨.ref L, rfl, .inl ⟨rfl, _, SqL.of L4⟩, .ref A, rfl, p, rfl, rfl, _, rfl, ?_⟩
              rcases hp with rfl | hp
              · refine ite2 (fun e => absurd e (by decide +kernel)) (fun _ => ?_)
                refine ⟨Nat.zero_le _, fun l5 nl5 => ?_⟩
                obtain ⟨s5, f5, _⟩ := grow (o := .lst []) nl5
                refine ⟨A, l5, _, _, rfl, rfl, s5 _ _ A4, f5, by simp only [List.length_map, List.length_nil]; omega, fun l6 nl6 => ?_⟩
                obtain ⟨s6, f6, _⟩ := grow (o := .lst (ts.map V.str ++ [])) nl6
                refine ⟨L, l6, _, _, rfl, rfl, s6 _ _ (s5 _ _ L4), f6, by simp only [List.length_append, List.length_map, List.length_nil]; omega, ?_⟩
                refine ⟨_, _, _, _, ss2 ++ ts, rfl, same_lst (sTr (sTr sG4 s5) s6) nLH, by rw [upd_same, List.map_append, List.append_nil], fun x h => ?_, by rw [List.length_append]; omega⟩
                rcases List.mem_append.mp h with h | h
                · exact o2 x h
                · exact ot x h
              · obtain ⟨tp, ys, rfl, hys, jok, jl⟩ := path_join hp
                refine ite2 (fun _ => ?_) (fun e => absurd (by rw [decide_eq_false (by intro z; cases z)]; rfl) e)
                refine ⟨⟨_, rfl⟩, .ref tp, rfl, ".", tp, ys, rfl, rfl, .inr (SqT.of (sG4 _ _ hys)), by rw [len1]; omega, by show 1 ≤ sizeLine; decide, fun l5 nl5 => ?_⟩
                obtain ⟨s5, f5, _⟩ := grow (o := .lst (([Txt.join "." ys] : List Str).map V.str)) nl5
                refine ⟨A, l5, _, ([Txt.join "." ys] : List Str).map V.str, rfl, rfl, s5 _ _ A4, f5, by simp only [List.length_map, List.length_cons, List.length_nil]; omega, fun l6 nl6 => ?_⟩
                obtain ⟨s6, f6, _⟩ := grow (o := .lst (ts.map V.str ++ ([Txt.join "." ys] : List Str).map V.str)) nl6
                refine ⟨L, l6, _, _, rfl, rfl, s6 _ _ (s5 _ _ L4), f6, by simp only [List.length_append, List.length_map, List.length_cons, List.length_nil]; omega, ?_⟩
                refine ⟨_, _, _, _, ss2 ++ (ts ++ [Txt.join "." ys]), rfl, same_lst (sTr (sTr sG4 s5) s6) nLH, by rw [upd_same, List.map_append, List.map_append], fun x h => ?_, by simp only [List.length_append, List.length_cons, List.length_nil]; omega⟩
                rcases List.mem_append.mp h with h | h
                · exact o2 x h
                · rcases List.mem_append.mp h with h | h
                  · exact ot x h
                  · rw [List.mem_singleton.mp h]
                    exact jok
        · rintro σ G ⟨o3, o4, o5, o6, ss, rfl, sG, LG, oG, cG⟩
          exact ⟨.ref L, rfl, q _ L sG nLH ⟨ss, LG, oG, by omega⟩⟩
    · obtain ⟨t, x, rfl, ⟨a, hp⟩ | ⟨a, hx⟩⟩ := hv
      · refine ⟨.ref t, rfl, t, _, 0, .str "path", rfl, rfl, SqT.of a.2, atI_nat (j := 0) rfl, ?_⟩
        refine ⟨.str "path", rfl, rfl, _, rfl, ?_⟩
        refine ite2 (fun e => absurd e (by decide +kernel)) (fun _ => ?_)
        refine ⟨.str "path", rfl, by show 2 ≤ sizeLine; decide, fun t2 nt2 => ?_⟩
        obtain ⟨s2, f2, _⟩ := grow (o := .tup [.str "copy", .str "path"]) nt2
        refine ⟨t2, _, rfl, .inr (SqT.of f2), rfl, by decide +kernel, _, rfl, ?_⟩
        refine ite2 (fun _ => ?_) (fun e => absurd (by decide +kernel) e)
        obtain ⟨tp, ys, rfl, hys, jok, jl⟩ := path_join hp
        refine ⟨⟨_, rfl⟩, .ref t, rfl, t, _, 1, .ref tp, rfl, rfl, SqT.of (s2 _ _ a.2), atI_nat (j := 1) rfl, ".", tp, ys, rfl, rfl, .inr (SqT.of (s2 _ _ hys)), by rw [len1]; omega, by show 1 ≤ sizeLine; decide, fun l nl => ?_⟩
        obtain ⟨s3, f3, _⟩ := grow (o := .lst [.str (Txt.join "." ys)]) nl
        refine q _ l (sTr s2 s3) (same_free s2 nl) ⟨[Txt.join "." ys], f3, fun x h => ?_, by show 1 ≤ m; omega⟩
        rw [List.mem_singleton.mp h]
        exact jok
      · refine ⟨.ref t, rfl, t, _, 0, .str "lit", rfl, rfl, SqT.of a.2, atI_nat (j := 0) rfl, ?_⟩
        refine ⟨.str "lit", rfl, rfl, _, rfl, ?_⟩
        refine ite2 (fun _ => ?_) (fun e => absurd (by decide +kernel) e)
        refine ⟨.ref t, rfl, t, _, 1, x, rfl, rfl, SqT.of a.2, atI_nat (j := 1) rfl, x, rfl, hx, fun H' l s n sg => q H' l s n ?_⟩
        obtain ⟨ss, u1, u2, u3⟩ := sg
        exact ⟨ss, u1, u2, by omega⟩
    · rcases kinds with ⟨t, p, l, va, vb, rfl, at_, hp, hl, ha, hb, h34⟩ | ⟨t, d, n, rfl, at_, hbd, hn, hmn⟩ | ⟨n, t, d, s, rfl, at_, ws, hbd, hn, hmn⟩ | ⟨n, t, d, s, src, wv, rfl, at_, ws, wq, hw, hbd, hn, hmn⟩
      · -- a choice
        refine ⟨.ref t, rfl, t, _, 0, .str "if", rfl, rfl, SqT.of at_.2, atI_nat (j := 0) rfl, ?_⟩
        refine ⟨.str "if", rfl, rfl, _, rfl, ?_⟩
        refine ite2 (fun e => absurd e (by decide +kernel)) (fun _ => ?_)
        refine ⟨.str "if", rfl, by show 2 ≤ sizeLine; decide, fun t2 nt2 => ?_⟩
        obtain ⟨s2, f2, _⟩ := grow (o := .tup [.str "copy", .str "path"]) nt2
        refine ⟨t2, _, rfl, .inr (SqT.of f2), rfl, by decide +kernel, _, rfl, ?_⟩
        refine ite2 (fun e => absurd e (by decide +kernel)) (fun _ => ?_)
        refine ⟨.str "if", rfl, rfl, _, rfl, ?_⟩
        refine ite2 (fun _ => ?_) (fun e => absurd (by decide +kernel) e)
        obtain ⟨tp, ys, rfl, hys, jok, jl⟩ := path_join hp
        refine ⟨⟨_, rfl⟩, .ref t, rfl, t, _, 1, .ref tp, rfl, rfl, SqT.of (s2 _ _ at_.2), atI_nat (j := 1) rfl, ".", tp, ys, rfl, rfl, .inr (SqT.of (s2 _ _ hys)), by rw [len1]; omega, by show 3 ≤ sizeLine; decide, fun l3 nl3 => ?_⟩
        obtain ⟨s3, f3, _⟩ := grow (o := .lst ((["if", Txt.join "." ys, "="] : List Str).map V.str)) nl3
        have s03 := sTr s2 s3
        refine ⟨.ref t, rfl, t, _, 2, l, rfl, rfl, SqT.of (s03 _ _ at_.2), atI_nat (j := 2) rfl, l, rfl, hl, fun H4 l4 s4 n4 ⟨ss4, e4, o4, c4⟩ => ?_⟩
        have s04 := sTr s03 s4
        refine ⟨l3, l4, _, _, rfl, rfl, s4 _ _ f3, e4, by rw [List.length_map, List.length_map]; show 3 + ss4.length ≤ sizeLine; omega, fun l5 nl5 => ?_⟩
        obtain ⟨s5, f5, _⟩ := grow (o := .lst ((["if", Txt.join "." ys, "="] : List Str).map V.str ++ ss4.map V.str)) nl5
        refine ⟨by show 1 ≤ sizeLine; decide, fun l6 nl6 => ?_⟩
        obtain ⟨s6, f6, _⟩ := grow (o := .lst ((["then"] : List Str).map V.str)) nl6
        refine ⟨l5, l6, _, _, rfl, rfl, s6 _ _ f5, f6, by rw [List.length_append, List.length_map, List.length_map]; show 3 + ss4.length + 1 ≤ sizeLine; omega, fun l7 nl7 => ?_⟩
        obtain ⟨s7, f7, _⟩ := grow (o := .lst ((["if", Txt.join "." ys, "="] : List Str).map V.str ++ ss4.map V.str ++ (["then"] : List Str).map V.str)) nl7
        have s07 := sTr (sTr (sTr s04 s5) s6) s7
        have S7 : Sgs (upd _ l7 _) l7 6 := ⟨(["if", Txt.join "." ys, "="] : List Str) ++ ss4 ++ (["then"] : List Str), by rw [List.map_append, List.map_append]; exact f7, fun x h => by
          rcases List.mem_append.mp h with h | h
          · rcases List.mem_append.mp h with h | h
            · simp only [List.mem_cons, List.not_mem_nil, or_false] at h
              rcases h with rfl | rfl | rfl
              · exact sgB_ok (by decide +kernel)
              · exact jok
              · exact sgB_ok (by decide +kernel)
            · exact o4 x h
          · rw [List.mem_singleton.mp h]
            exact sgB_ok (by decide +kernel), by rw [List.length_append, List.length_append]; show 3 + ss4.length + 1 ≤ 6; omega⟩
        have nl7' : H l7 = none := same_free (sTr (sTr s04 s5) s6) nl7
        obtain ⟨G7, hG7⟩ : ∃ G7, G7 = upd (upd (upd H4 l5 (.lst ((["if", Txt.join "." ys, "="] : List Str).map V.str ++ ss4.map V.str))) l6 (.lst ((["then"] : List Str).map V.str))) l7 (.lst (((["if", Txt.join "." ys, "="] : List Str).map V.str ++ ss4.map V.str) ++ ((["then"] : List Str).map V.str))) := ⟨_, rfl⟩
        have s7' : Same H G7 := by rw [hG7]; exact s07
        have S7' : Sgs G7 l7 6 := by rw [hG7]; exact S7
        show gName 2 (V.ref l7) _ (upd (upd (upd H4 l5 (.lst ((["if", Txt.join "." ys, "="] : List Str).map V.str ++ ss4.map V.str))) l6 (.lst ((["then"] : List Str).map V.str))) l7 (.lst (((["if", Txt.join "." ys, "="] : List Str).map V.str ++ ss4.map V.str) ++ ((["then"] : List Str).map V.str)))) _
        rw [← hG7]
        have sub : ∀ (G : Hp) (x : V), SV S G x → VD S G j' x 12 := by
          intro G x h
          cases j' with
          | zero => exact .inl ⟨h, rfl⟩
          | succ j2 => exact .inl ⟨h, rfl⟩
        obtain ⟨ss7, e7, o7, c7⟩ := S7'
        have at7 := tr_same (S := S) s7' _ _ at_
        refine ⟨.ref l7, rfl, .ref t, rfl, t, _, 3, va, rfl, rfl, SqT.of at7.2, atI_nat (j := 3) rfl, va, S, 12, rfl, sub _ _ (ha.mono (tr_same s7')), by decide, fun H8 l8 s8 n8 ⟨ss8, e8, o8, c8⟩ => ?_⟩
        have s08 := sTr s7' s8
        refine ⟨l7, l8, _, _, rfl, rfl, s8 _ _ e7, e8, by rw [List.length_map, List.length_map]; omega, fun l9 nl9 => ?_⟩
        obtain ⟨s9, f9, _⟩ := grow (o := .lst (ss7.map V.str ++ ss8.map V.str)) nl9
        refine ⟨by show 1 ≤ sizeLine; decide, fun l10 nl10 => ?_⟩
        obtain ⟨s10, f10, _⟩ := grow (o := .lst ((["else"] : List Str).map V.str)) nl10
        refine ⟨l9, l10, _, (["else"] : List Str).map V.str, rfl, rfl, s10 _ _ f9, f10, by rw [List.length_append, List.length_map, List.length_map]; show ss7.length + ss8.length + 1 ≤ sizeLine; omega, fun l11 nl11 => ?_⟩
        obtain ⟨s11, f11, _⟩ := grow (o := .lst (ss7.map V.str ++ ss8.map V.str ++ (["else"] : List Str).map V.str)) nl11
        have s811 := sTr (sTr s9 s10) s11
        have s011 := sTr s08 s811
        have at11 := tr_same (S := S) s011 _ _ at_
        refine ⟨.ref t, rfl, t, _, 4, vb, rfl, rfl, SqT.of at11.2, atI_nat (j := 4) rfl, vb, S, 12, rfl, sub _ _ (hb.mono (tr_same s011)), by decide, fun H12 l12 s12 n12 ⟨ss12, e12, o12, c12⟩ => ?_⟩
        refine ⟨l11, l12, _, _, rfl, rfl, s12 _ _ f11, e12, by simp only [List.length_append, List.length_map, List.length_cons, List.length_nil]; omega, fun l13 nl13 => ?_⟩
        obtain ⟨s13, f13, _⟩ := grow (o := .lst (ss7.map V.str ++ ss8.map V.str ++ (["else"] : List Str).map V.str ++ ss12.map V.str)) nl13
        refine q _ l13 (sTr (sTr s011 s12) s13) (same_free (sTr s011 s12) nl13) ⟨ss7 ++ ss8 ++ (["else"] : List Str) ++ ss12, by rw [List.map_append, List.map_append, List.map_append]; exact f13, fun x h => ?_, by rw [List.length_append, List.length_append, List.length_append]; show ss7.length + ss8.length + 1 + ss12.length ≤ m; omega⟩
        rcases List.mem_append.mp h with h | h
        · rcases List.mem_append.mp h with h | h
          · rcases List.mem_append.mp h with h | h
            · exact o7 x h
            · exact o8 x h
          · rw [List.mem_singleton.mp h]
            exact sgB_ok (by decide +kernel)
        · exact o12 x h
      · -- a body
        refine ⟨.ref t, rfl, t, _, 0, .str "body", rfl, rfl, SqT.of at_.2, atI_nat (j := 0) rfl, ?_⟩
        refine ⟨.str "body", rfl, rfl, _, rfl, ?_⟩
        refine ite2 (fun e => absurd e (by decide +kernel)) (fun _ => ?_)
        refine ⟨.str "body", rfl, by show 2 ≤ sizeLine; decide, fun t2 nt2 => ?_⟩
        obtain ⟨s2, f2, _⟩ := grow (o := .tup [.str "copy", .str "path"]) nt2
        refine ⟨t2, _, rfl, .inr (SqT.of f2), rfl, by decide +kernel, _, rfl, ?_⟩
        refine ite2 (fun e => absurd e (by decide +kernel)) (fun _ => ?_)
        refine ⟨.str "body", rfl, rfl, _, rfl, ?_⟩
        refine ite2 (fun e => absurd e (by decide +kernel)) (fun _ => ?_)
        refine ⟨.str "body", rfl, rfl, _, rfl, ?_⟩
        refine ite2 (fun e => absurd e (by decide +kernel)) (fun _ => ?_)
        refine ⟨.str "body", rfl, rfl, _, rfl, ?_⟩
        refine ite2 (fun _ => ?_) (fun e => absurd (by decide +kernel) e)
        obtain ⟨j2, rfl⟩ : ∃ j2, j' = j2 + 1 := ⟨j' - 1, by omega⟩
        refine ⟨.ref t, rfl, t, _, 1, .ref d, rfl, rfl, SqT.of (s2 _ _ at_.2), atI_nat (j := 1) rfl, d, S, n, bB n, rfl, .inl ⟨by omega, BD.mono (tr_same s2) hbd, rfl⟩, by omega, fun H' l s3 n3 sg => q H' l (sTr s2 s3) (same_free s2 n3) ?_⟩
        obtain ⟨ss, u1, u2, u3⟩ := sg
        exact ⟨ss, u1, u2, by omega⟩
      · -- a record
        let wd : Str := "new"
        refine ⟨.ref t, rfl, t, _, 0, .str wd, rfl, rfl, SqT.of at_.2, atI_nat (j := 0) rfl, ?_⟩
        refine ⟨.str wd, rfl, rfl, _, rfl, ?_⟩
        refine ite2 (fun e => absurd e (by decide +kernel)) (fun _ => ?_)
        refine ⟨.str wd, rfl, by show 2 ≤ sizeLine; decide, fun t2 nt2 => ?_⟩
        obtain ⟨s2, f2, _⟩ := grow (o := .tup [.str "copy", .str "path"]) nt2
        refine ⟨t2, _, rfl, .inr (SqT.of f2), rfl, by decide +kernel, _, rfl, ?_⟩
        refine ite2 (fun e => absurd e (by decide +kernel)) (fun _ => ?_)
        refine ⟨.str wd, rfl, rfl, _, rfl, ?_⟩
        refine ite2 (fun e => absurd e (by decide +kernel)) (fun _ => ?_)
        refine ⟨.str wd, rfl, rfl, _, rfl, ?_⟩
        refine ite2 (fun e => absurd e (by decide +kernel)) (fun _ => ?_)
        refine ⟨.str wd, rfl, rfl, _, rfl, ?_⟩
        refine ite2 (fun e => absurd e (by decide +kernel)) (fun _ => ?_)
        refine ⟨.str wd, rfl, rfl, _, rfl, ?_⟩
        refine ite2 (fun _ => ?_) (fun e => absurd (by decide +kernel) e)
        refine ⟨by show 1 ≤ sizeLine; decide, fun l3 nl3 => ?_⟩
        obtain ⟨s3, f3, _⟩ := grow (o := .lst [.str "new"]) nl3
        have s03 := sTr s2 s3
        generalize upd (upd H t2 (.tup [.str "copy", .str "path"])) l3 (.lst [.str "new"]) = G3 at s3 f3 s03 ⊢
        have f3 : G3 l3 = some (.lst ((["new"] : List Str).map V.str)) := f3
        refine ⟨.str wd, rfl, rfl, _, rfl, ?_⟩
        refine ite2 (fun e => absurd e (by decide +kernel)) (fun _ => ?_)
        refine iteF ?_
        have o3 : ∀ x ∈ (["new"] : List Str), SgOk x := fun x h => by
          rw [List.mem_singleton.mp h]
          exact sgB_ok (by decide +kernel)
        obtain ⟨ss3, hss3⟩ : ∃ ss3, ss3 = (["new"] : List Str) := ⟨_, rfl⟩
        have c3 : ss3.length ≤ 10 := by rw [hss3]; decide +kernel
        rw [← hss3] at f3 o3
        clear hss3
        let zg : Int := 0
        obtain ⟨gv, hg0⟩ : ∃ gv : List Str, gv = [] := ⟨_, rfl⟩
        have hgv : (List.replicate zg.toNat [V.str (Str.ofString "give")]).flatten = gv.map V.str := by rw [hg0]; rfl
        have og : ∀ x ∈ gv, SgOk x := fun x h => by rw [hg0] at h; exact (List.not_mem_nil h).elim
        have cg : gv.length ≤ 1 := by rw [hg0]; decide
        have zg01 : 0 ≤ zg ∧ zg ≤ 1 := by decide
        obtain ⟨j2, rfl⟩ : ∃ j2, j' = j2 + 1 := ⟨j' - 1, by omega⟩
        refine ⟨.ref l3, rfl, by show 1 ≤ sizeLine; decide, fun l4 nl4 => ?_⟩
        obtain ⟨s4, f4, _⟩ := grow (o := .lst [.str "give"]) nl4
        refine ⟨.str wd, rfl, rfl, .inr ⟨_, rfl, ?_⟩⟩
        refine ⟨l4, zg, [.str "give"], rfl, rfl, f4, by omega, by omega, by show 1 * zg.toNat ≤ sizeLine; omega, fun l5 nl5 => ?_⟩
        rw [hgv]
        obtain ⟨s5, f5, _⟩ := grow (o := .lst (gv.map V.str)) nl5
        have s35 := sTr s4 s5
        refine ⟨l3, l5, _, _, rfl, rfl, s35 _ _ f3, f5, by simp only [List.length_map]; omega, fun l6 nl6 => ?_⟩
        obtain ⟨s6, f6, _⟩ := grow (o := .lst (ss3.map V.str ++ gv.map V.str)) nl6
        have s06 := sTr (sTr s03 s35) s6
        refine ⟨.ref t, rfl, 2, rfl, t, _, -2, .str s, rfl, rfl, SqT.of (s06 _ _ at_.2), rfl, by show 1 ≤ sizeLine; decide, fun l7 nl7 => ?_⟩
        obtain ⟨s7, f7, _⟩ := grow (o := .lst (([s] : List Str).map V.str)) nl7
        refine ⟨l6, l7, _, ([s] : List Str).map V.str, rfl, rfl, s7 _ _ f6, f7, by simp only [List.length_append, List.length_map, List.length_cons, List.length_nil]; omega, fun l8 nl8 => ?_⟩
        obtain ⟨s8, f8, _⟩ := grow (o := .lst (ss3.map V.str ++ gv.map V.str ++ ([s] : List Str).map V.str)) nl8
        have s08 := sTr (sTr s06 s7) s8
        obtain ⟨kvs, hkvs⟩ := BD.dict hbd
        refine ⟨.ref l8, rfl, .ref t, rfl, 1, rfl, t, _, -1, .ref d, rfl, rfl, SqT.of (s08 _ _ at_.2), rfl, fun d2 nd2 => ?_⟩
        obtain ⟨s9, f9, _⟩ := grow (o := .dK []) nd2
        have s09 := sTr s08 s9
        refine ⟨d, d2, kvs, rfl, rfl, s09 _ _ hkvs.2, f9, _, rfl, ?_⟩
        refine ite2 (fun _ => ?_) (fun _ => ?_)
        · refine ⟨.ref t, rfl, 1, rfl, t, _, -1, .ref d, rfl, rfl, SqT.of (s09 _ _ at_.2), rfl, d, S, n, bB n, rfl, .inl ⟨by omega, BD.mono (tr_same s09) hbd, rfl⟩, by omega, fun H10 l10 s10 n10 ⟨ss10, e10, o10, c10⟩ => ?_⟩
          refine ⟨l8, l10, _, _, rfl, rfl, s10 _ _ (s9 _ _ f8), e10, by simp only [List.length_append, List.length_map, List.length_cons, List.length_nil]; omega, fun l11 nl11 => ?_⟩
          obtain ⟨s11, f11, _⟩ := grow (o := .lst (ss3.map V.str ++ gv.map V.str ++ ([s] : List Str).map V.str ++ ss10.map V.str)) nl11
          refine q _ l11 (sTr (sTr s09 s10) s11) (same_free (sTr s09 s10) nl11) ⟨ss3 ++ gv ++ [s] ++ ss10, by rw [List.map_append, List.map_append, List.map_append]; exact f11, fun x h => ?_, by simp only [List.length_append, List.length_cons, List.length_nil]; omega⟩
          rcases List.mem_append.mp h with h | h
          · rcases List.mem_append.mp h with h | h
            · rcases List.mem_append.mp h with h | h
              · exact o3 x h
              · exact og x h
            · rw [List.mem_singleton.mp h]
              exact wd_ok ws
          · exact o10 x h
        · refine ⟨Nat.zero_le _, fun l10 nl10 => ?_⟩
          obtain ⟨s10, f10, _⟩ := grow (o := .lst []) nl10
          refine ⟨l8, l10, _, _, rfl, rfl, s10 _ _ (s9 _ _ f8), f10, by simp only [List.length_append, List.length_map, List.length_cons, List.length_nil]; omega, fun l11 nl11 => ?_⟩
          obtain ⟨s11, f11, _⟩ := grow (o := .lst (ss3.map V.str ++ gv.map V.str ++ ([s] : List Str).map V.str ++ [])) nl11
          refine q _ l11 (sTr (sTr s09 s10) s11) (same_free (sTr s09 s10) nl11) ⟨ss3 ++ gv ++ [s], by rw [List.map_append, List.map_append]; exact f11.trans (by rw [List.append_nil]), fun x h => ?_, by simp only [List.length_append, List.length_cons, List.length_nil]; omega⟩
          rcases List.mem_append.mp h with h | h
          · rcases List.mem_append.mp h with h | h
            · exact o3 x h
            · exact og x h
          · rw [List.mem_singleton.mp h]
            exact wd_ok ws
      · -- a loop
        let wd : Str := "loop"
        refine ⟨.ref t, rfl, t, _, 0, .str wd, rfl, rfl, SqT.of at_.2, atI_nat (j := 0) rfl, ?_⟩
        refine ⟨.str wd, rfl, rfl, _, rfl, ?_⟩
        refine ite2 (fun e => absurd e (by decide +kernel)) (fun _ => ?_)
        refine ⟨.str wd, rfl, by show 2 ≤ sizeLine; decide, fun t2 nt2 => ?_⟩
        obtain ⟨s2, f2, _⟩ := grow (o := .tup [.str "copy", .str "path"]) nt2
        refine ⟨t2, _, rfl, .inr (SqT.of f2), rfl, by decide +kernel, _, rfl, ?_⟩
        refine ite2 (fun e => absurd e (by decide +kernel)) (fun _ => ?_)
        refine ⟨.str wd, rfl, rfl, _, rfl, ?_⟩
        refine ite2 (fun e => absurd e (by decide +kernel)) (fun _ => ?_)
        refine ⟨.str wd, rfl, rfl, _, rfl, ?_⟩
        refine ite2 (fun e => absurd e (by decide +kernel)) (fun _ => ?_)
        refine ⟨.str wd, rfl, rfl, _, rfl, ?_⟩
        refine ite2 (fun e => absurd e (by decide +kernel)) (fun _ => ?_)
        refine ⟨.str wd, rfl, rfl, _, rfl, ?_⟩
        refine ite2 (fun e => absurd e (by decide +kernel)) (fun _ => ?_)
        refine ⟨.ref t, rfl, t, _, 1, .str "it", rfl, rfl, SqT.of (s2 _ _ at_.2), atI_nat (j := 1) rfl, .ref t, rfl, t, _, 2, .str src, rfl, rfl, SqT.of (s2 _ _ at_.2), atI_nat (j := 2) rfl, by show 4 ≤ sizeLine; decide, fun l2 nl2 => ?_⟩
        obtain ⟨s3, f3, _⟩ := grow (o := .lst [.str "for", .str "it", .str "in", .str src]) nl2
        have s03 := sTr s2 s3
        generalize upd (upd H t2 (.tup [.str "copy", .str "path"])) l2 (.lst [.str "for", .str "it", .str "in", .str src]) = G3 at s3 f3 s03 ⊢
        have f3 : G3 l2 = some (.lst ((["for", "it", "in", src] : List Str).map V.str)) := f3
        have o3 : ∀ x ∈ (["for", "it", "in", src] : List Str), SgOk x := fun x h => by
          simp only [List.mem_cons, List.not_mem_nil, or_false] at h
          rcases h with rfl | rfl | rfl | rfl
          · exact sgB_ok (by decide +kernel)
          · exact sgB_ok (by decide +kernel)
          · exact sgB_ok (by decide +kernel)
          · exact wd_ok wq
        let zg : Int := 1
        obtain ⟨gv, hg0⟩ : ∃ gv : List Str, gv = (["give"] : List Str) := ⟨_, rfl⟩
        have hgv : (List.replicate zg.toNat [V.str (Str.ofString "give")]).flatten = gv.map V.str := by rw [hg0]; rfl
        have og : ∀ x ∈ gv, SgOk x := fun x h => by
          rw [hg0] at h
          rw [List.mem_singleton.mp h]
          exact sgB_ok (by decide +kernel)
        have cg : gv.length ≤ 1 := by rw [hg0]; decide +kernel
        have zg01 : 0 ≤ zg ∧ zg ≤ 1 := by decide
        refine ⟨.str wd, rfl, rfl, _, rfl, ?_⟩
        refine ite2 (fun _ => ?_) (fun e => absurd (by decide +kernel) e)
        refine ⟨.ref t, rfl, t, _, 3, wv, rfl, rfl, SqT.of (s03 _ _ at_.2), atI_nat (j := 3) rfl, rfl, _, rfl, ?_⟩
        rcases hw with rfl | ⟨tw, left, sd, rfl, atw, wl, hsd⟩
        · refine ite2 (fun e => absurd e (by decide +kernel)) (fun _ => ?_)
          obtain ⟨ss3, hss3⟩ : ∃ ss3, ss3 = (["for", "it", "in", src] : List Str) := ⟨_, rfl⟩
          have c3 : ss3.length ≤ 18 := by rw [hss3]; show 4 ≤ 18; decide
          rw [← hss3] at f3 o3
          clear hss3
          obtain ⟨l3, hl3⟩ : ∃ l3, l3 = l2 := ⟨_, rfl⟩
          rw [← hl3] at f3 ⊢
          obtain ⟨j2, rfl⟩ : ∃ j2, j' = j2 + 1 := ⟨j' - 1, by omega⟩
          refine ⟨.ref l3, rfl, by show 1 ≤ sizeLine; decide, fun l4 nl4 => ?_⟩
          obtain ⟨s4, f4, _⟩ := grow (o := .lst [.str "give"]) nl4
          refine ⟨.str wd, rfl, rfl, .inr ⟨_, rfl, ?_⟩⟩
          refine ⟨l4, zg, [.str "give"], rfl, rfl, f4, by omega, by omega, by show 1 * zg.toNat ≤ sizeLine; omega, fun l5 nl5 => ?_⟩
          rw [hgv]
          obtain ⟨s5, f5, _⟩ := grow (o := .lst (gv.map V.str)) nl5
          have s35 := sTr s4 s5
          refine ⟨l3, l5, _, _, rfl, rfl, s35 _ _ f3, f5, by simp only [List.length_map]; omega, fun l6 nl6 => ?_⟩
          obtain ⟨s6, f6, _⟩ := grow (o := .lst (ss3.map V.str ++ gv.map V.str)) nl6
          have s06 := sTr (sTr s03 s35) s6
          refine ⟨.ref t, rfl, 2, rfl, t, _, -2, .str s, rfl, rfl, SqT.of (s06 _ _ at_.2), rfl, by show 1 ≤ sizeLine; decide, fun l7 nl7 => ?_⟩
          obtain ⟨s7, f7, _⟩ := grow (o := .lst (([s] : List Str).map V.str)) nl7
          refine ⟨l6, l7, _, ([s] : List Str).map V.str, rfl, rfl, s7 _ _ f6, f7, by simp only [List.length_append, List.length_map, List.length_cons, List.length_nil]; omega, fun l8 nl8 => ?_⟩
          obtain ⟨s8, f8, _⟩ := grow (o := .lst (ss3.map V.str ++ gv.map V.str ++ ([s] : List Str).map V.str)) nl8
          have s08 := sTr (sTr s06 s7) s8
          obtain ⟨kvs, hkvs⟩ := BD.dict hbd
          refine ⟨.ref l8, rfl, .ref t, rfl, 1, rfl, t, _, -1, .ref d, rfl, rfl, SqT.of (s08 _ _ at_.2), rfl, fun d2 nd2 => ?_⟩
          obtain ⟨s9, f9, _⟩ := grow (o := .dK []) nd2
          have s09 := sTr s08 s9
          refine ⟨d, d2, kvs, rfl, rfl, s09 _ _ hkvs.2, f9, _, rfl, ?_⟩
          refine ite2 (fun _ => ?_) (fun _ => ?_)
          · refine ⟨.ref t, rfl, 1, rfl, t, _, -1, .ref d, rfl, rfl, SqT.of (s09 _ _ at_.2), rfl, d, S, n, bB n, rfl, .inl ⟨by omega, BD.mono (tr_same s09) hbd, rfl⟩, by omega, fun H10 l10 s10 n10 ⟨ss10, e10, o10, c10⟩ => ?_⟩
            refine ⟨l8, l10, _, _, rfl, rfl, s10 _ _ (s9 _ _ f8), e10, by simp only [List.length_append, List.length_map, List.length_cons, List.length_nil]; omega, fun l11 nl11 => ?_⟩
            obtain ⟨s11, f11, _⟩ := grow (o := .lst (ss3.map V.str ++ gv.map V.str ++ ([s] : List Str).map V.str ++ ss10.map V.str)) nl11
            refine q _ l11 (sTr (sTr s09 s10) s11) (same_free (sTr s09 s10) nl11) ⟨ss3 ++ gv ++ [s] ++ ss10, by rw [List.map_append, List.map_append, List.map_append]; exact f11, fun x h => ?_, by simp only [List.length_append, List.length_cons, List.length_nil]; omega⟩
            rcases List.mem_append.mp h with h | h
            · rcases List.mem_append.mp h with h | h
              · rcases List.mem_append.mp h with h | h
                · exact o3 x h
                · exact og x h
              · rw [List.mem_singleton.mp h]
                exact wd_ok ws
            · exact o10 x h
          · refine ⟨Nat.zero_le _, fun l10 nl10 => ?_⟩
            obtain ⟨s10, f10, _⟩ := grow (o := .lst []) nl10
            refine ⟨l8, l10, _, _, rfl, rfl, s10 _ _ (s9 _ _ f8), f10, by simp only [List.length_append, List.length_map, List.length_cons, List.length_nil]; omega, fun l11 nl11 => ?_⟩
            obtain ⟨s11, f11, _⟩ := grow (o := .lst (ss3.map V.str ++ gv.map V.str ++ ([s] : List Str).map V.str ++ [])) nl11
            refine q _ l11 (sTr (sTr s09 s10) s11) (same_free (sTr s09 s10) nl11) ⟨ss3 ++ gv ++ [s], by rw [List.map_append, List.map_append]; exact f11.trans (by rw [List.append_nil]), fun x h => ?_, by simp only [List.length_append, List.length_cons, List.length_nil]; omega⟩
            rcases List.mem_append.mp h with h | h
            · rcases List.mem_append.mp h with h | h
              · exact o3 x h
              · exact og x h
            · rw [List.mem_singleton.mp h]
              exact wd_ok ws
        · refine ite2 (fun _ => ?_) (fun e => absurd (by rw [decide_eq_false (by intro z; cases z)]; rfl) e)
          -- the where
          have atw3 := tr_same (S := S) s03 _ _ atw
          have j0 : ∃ j2, j' = j2 + 1 := ⟨j' - 1, by omega⟩
          refine ⟨.ref l2, rfl, .ref t, rfl, t, _, 1, .str "it", rfl, rfl, SqT.of (s03 _ _ at_.2), atI_nat (j := 1) rfl, "it", ".", rfl, rfl, by decide +kernel, ?_⟩
          refine ⟨.ref t, rfl, t, _, 3, .ref tw, rfl, rfl, SqT.of (s03 _ _ at_.2), atI_nat (j := 3) rfl, tw, _, 0, .str left, rfl, rfl, SqT.of atw3.2, atI_nat (j := 0) rfl, _, left, rfl, rfl, ?_, by show 3 ≤ sizeLine; decide, fun l4 nl4 => ?_⟩
          · have := wl.2.2
            rw [cp_len] at this
            have e1 : ("it" ++ "." : Str).length = 3 := by decide +kernel
            rw [e1]
            omega
          obtain ⟨s4, f4, _⟩ := grow (o := .lst [.str "where", .str ("it" ++ "." ++ left), .str "="]) nl4
          refine ⟨l2, l4, _, (["where", "it" ++ "." ++ left, "="] : List Str).map V.str, rfl, rfl, s4 _ _ f3, f4, by simp only [List.length_map, List.length_cons, List.length_nil]; omega, fun l5 nl5 => ?_⟩
          obtain ⟨s5, f5, _⟩ := grow (o := .lst ((["for", "it", "in", src] : List Str).map V.str ++ (["where", "it" ++ "." ++ left, "="] : List Str).map V.str)) nl5
          have s05 := sTr (sTr s03 s4) s5
          have vd : ∀ G, Same H G → VD S G j' sd 12 := by
            intro G sG
            obtain ⟨j2, rfl⟩ := j0
            exact .inr (.inl ⟨hsd.mono (tr_same sG), rfl⟩)
          refine ⟨.ref t, rfl, t, _, 3, .ref tw, rfl, rfl, SqT.of (s05 _ _ at_.2), atI_nat (j := 3) rfl, tw, _, 1, sd, rfl, rfl, SqT.of (s05 _ _ atw.2), atI_nat (j := 1) rfl, sd, S, 12, rfl, vd _ s05, by decide, fun H6 l6 s6 n6 ⟨ss6, e6, o6, c6⟩ => ?_⟩
          refine ⟨l5, l6, _, _, rfl, rfl, s6 _ _ f5, e6, by simp only [List.length_append, List.length_map, List.length_cons, List.length_nil]; omega, fun l7 nl7 => ?_⟩
          obtain ⟨s7, f7, _⟩ := grow (o := .lst ((["for", "it", "in", src] : List Str).map V.str ++ (["where", "it" ++ "." ++ left, "="] : List Str).map V.str ++ ss6.map V.str)) nl7
          have s07 := sTr (sTr s05 s6) s7
          obtain ⟨ss3, hss3⟩ : ∃ ss3, ss3 = (["for", "it", "in", src] : List Str) ++ (["where", "it" ++ "." ++ left, "="] : List Str) ++ ss6 := ⟨_, rfl⟩
          have o33 : ∀ x ∈ ss3, SgOk x := fun x h => by
            rw [hss3] at h
            rcases List.mem_append.mp h with h | h
            · rcases List.mem_append.mp h with h | h
              · exact o3 x h
              · simp only [List.mem_cons, List.not_mem_nil, or_false] at h
                rcases h with rfl | rfl | rfl
                · exact sgB_ok (by decide +kernel)
                · exact dot_ok (wd_of (by decide +kernel)) wl
                · exact sgB_ok (by decide +kernel)
            · exact o6 x h
          have c3 : ss3.length ≤ 19 := by
            rw [hss3]
            simp only [List.length_append, List.length_cons, List.length_nil]
            omega
          have f33 : upd H6 l7 (.lst ((["for", "it", "in", src] : List Str).map V.str ++ (["where", "it" ++ "." ++ left, "="] : List Str).map V.str ++ ss6.map V.str)) l7 = some (.lst (ss3.map V.str)) := by
            rw [f7, hss3, List.map_append, List.map_append]
          clear hss3
          obtain ⟨l3, hl3⟩ : ∃ l3, l3 = l7 := ⟨_, rfl⟩
          rw [← hl3] at f33 s07 ⊢
          have f3 := f33
          have o3 := o33
          have s03 := s07
          obtain ⟨j2, rfl⟩ : ∃ j2, j' = j2 + 1 := ⟨j' - 1, by omega⟩
          refine ⟨.ref l3, rfl, by show 1 ≤ sizeLine; decide, fun l4 nl4 => ?_⟩
          obtain ⟨s4, f4, _⟩ := grow (o := .lst [.str "give"]) nl4
          refine ⟨.str wd, rfl, rfl, .inr ⟨_, rfl, ?_⟩⟩
          refine ⟨l4, zg, [.str "give"], rfl, rfl, f4, by omega, by omega, by show 1 * zg.toNat ≤ sizeLine; omega, fun l5 nl5 => ?_⟩
          rw [hgv]
          obtain ⟨s5, f5, _⟩ := grow (o := .lst (gv.map V.str)) nl5
          have s35 := sTr s4 s5
          refine ⟨l3, l5, _, _, rfl, rfl, s35 _ _ f3, f5, by simp only [List.length_map]; omega, fun l6 nl6 => ?_⟩
          obtain ⟨s6, f6, _⟩ := grow (o := .lst (ss3.map V.str ++ gv.map V.str)) nl6
          have s06 := sTr (sTr s03 s35) s6
          refine ⟨.ref t, rfl, 2, rfl, t, _, -2, .str s, rfl, rfl, SqT.of (s06 _ _ at_.2), rfl, by show 1 ≤ sizeLine; decide, fun l7 nl7 => ?_⟩
          obtain ⟨s7, f7, _⟩ := grow (o := .lst (([s] : List Str).map V.str)) nl7
          refine ⟨l6, l7, _, ([s] : List Str).map V.str, rfl, rfl, s7 _ _ f6, f7, by simp only [List.length_append, List.length_map, List.length_cons, List.length_nil]; omega, fun l8 nl8 => ?_⟩
          obtain ⟨s8, f8, _⟩ := grow (o := .lst (ss3.map V.str ++ gv.map V.str ++ ([s] : List Str).map V.str)) nl8
          have s08 := sTr (sTr s06 s7) s8
          obtain ⟨kvs, hkvs⟩ := BD.dict hbd
          refine ⟨.ref l8, rfl, .ref t, rfl, 1, rfl, t, _, -1, .ref d, rfl, rfl, SqT.of (s08 _ _ at_.2), rfl, fun d2 nd2 => ?_⟩
          obtain ⟨s9, f9, _⟩ := grow (o := .dK []) nd2
          have s09 := sTr s08 s9
          refine ⟨d, d2, kvs, rfl, rfl, s09 _ _ hkvs.2, f9, _, rfl, ?_⟩
          refine ite2 (fun _ => ?_) (fun _ => ?_)
          · refine ⟨.ref t, rfl, 1, rfl, t, _, -1, .ref d, rfl, rfl, SqT.of (s09 _ _ at_.2), rfl, d, S, n, bB n, rfl, .inl ⟨by omega, BD.mono (tr_same s09) hbd, rfl⟩, by omega, fun H10 l10 s10 n10 ⟨ss10, e10, o10, c10⟩ => ?_⟩
            refine ⟨l8, l10, _, _, rfl, rfl, s10 _ _ (s9 _ _ f8), e10, by simp only [List.length_append, List.length_map, List.length_cons, List.length_nil]; omega, fun l11 nl11 => ?_⟩
            obtain ⟨s11, f11, _⟩ := grow (o := .lst (ss3.map V.str ++ gv.map V.str ++ ([s] : List Str).map V.str ++ ss10.map V.str)) nl11
            refine q _ l11 (sTr (sTr s09 s10) s11) (same_free (sTr s09 s10) nl11) ⟨ss3 ++ gv ++ [s] ++ ss10, by rw [List.map_append, List.map_append, List.map_append]; exact f11, fun x h => ?_, by simp only [List.length_append, List.length_cons, List.length_nil]; omega⟩
            rcases List.mem_append.mp h with h | h
            · rcases List.mem_append.mp h with h | h
              · rcases List.mem_append.mp h with h | h
                · exact o3 x h
                · exact og x h
              · rw [List.mem_singleton.mp h]
                exact wd_ok ws
            · exact o10 x h
          · refine ⟨Nat.zero_le _, fun l10 nl10 => ?_⟩
            obtain ⟨s10, f10, _⟩ := grow (o := .lst []) nl10
            refine ⟨l8, l10, _, _, rfl, rfl, s10 _ _ (s9 _ _ f8), f10, by simp only [List.length_append, List.length_map, List.length_cons, List.length_nil]; omega, fun l11 nl11 => ?_⟩
            obtain ⟨s11, f11, _⟩ := grow (o := .lst (ss3.map V.str ++ gv.map V.str ++ ([s] : List Str).map V.str ++ [])) nl11
            refine q _ l11 (sTr (sTr s09 s10) s11) (same_free (sTr s09 s10) nl11) ⟨ss3 ++ gv ++ [s], by rw [List.map_append, List.map_append]; exact f11.trans (by rw [List.append_nil]), fun x h => ?_, by simp only [List.length_append, List.length_cons, List.length_nil]; omega⟩
            rcases List.mem_append.mp h with h | h
            · rcases List.mem_append.mp h with h | h
              · exact o3 x h
              · exact og x h
            · rw [List.mem_singleton.mp h]
              exact wd_ok ws
end
end K2

set_option maxHeartbeats 2000000
/-! The signs of a body. -/
namespace K2
open PySem PySem.Spec PyProof.Rows L2

theorem scBodyS : FnScope ["_law_body_here", "_law_found", "_law_field", "_law_value_here", "_law_is_declared"] ["_law_body_here"] (defScope sBodyS) := ⟨rfl, rfl, rfl, by decide +kernel, rfl, by decide +kernel, by decide +kernel⟩

section
variable {S : Addr → Prop} {H H' : Hp}
theorem Path.n {S' : Addr → Prop} {v : V} (x : Path S H v) (h : TrN S H S' H') : Path S' H' v := x.monoN h
theorem Term.n {S' : Addr → Prop} {v : V} (x : Term S H v) (h : TrN S H S' H') : Term S' H' v := by
  obtain ⟨t, f, p, e, a, b, c⟩ := x
  exact ⟨t, f, p, e, h _ _ a (fun _ z => nomatch z), b, c.imp id fun y => y.monoN h⟩
theorem SV.n {S' : Addr → Prop} {v : V} (x : SV S H v) (h : TrN S H S' H') : SV S' H' v := by
  cases x with
  | lit t v a b => exact .lit t v (h _ _ a (fun _ z => nomatch z)) b
  | copy t p a b => exact .copy t p (h _ _ a (fun _ z => nomatch z)) (b.monoN h)
  | sum t l xs a b c d => exact .sum t l xs (h _ _ a (fun _ z => nomatch z)) (h _ _ b (fun _ z => nomatch z)) (fun x q => (c x q).n h) d
theorem VV.n {S' : Addr → Prop} {v : V} (x : VV S H v) (h : TrN S H S' H') : VV S' H' v := by
  cases x with
  | sv v a => exact .sv v (a.n h)
  | ite t p l a b e q1 q2 q3 q4 => exact .ite t p l a b (h _ _ e (fun _ z => nomatch z)) (q1.monoN h) q2 (q3.n h) (q4.n h)
theorem Side.n {S' : Addr → Prop} {v : V} (x : Side S H v) (h : TrN S H S' H') : Side S' H' v := by
  obtain ⟨t, x, e, a | a⟩ := x
  · exact ⟨t, x, e, .inl ⟨h _ _ a.1 (fun _ z => nomatch z), a.2.monoN h⟩⟩
  · exact ⟨t, x, e, .inr ⟨h _ _ a.1 (fun _ z => nomatch z), a.2⟩⟩
theorem Wh.n {S' : Addr → Prop} {v : V} (x : Wh S H v) (h : TrN S H S' H') : Wh S' H' v := by
  rcases x with x | ⟨t, s, w, e, a, b, c⟩
  · exact .inl x
  · exact .inr ⟨t, s, w, e, h _ _ a (fun _ z => nomatch z), b, c.n h⟩
/-- a body that is none of d -/
theorem BD.lock {S' : Addr → Prop} {d : Addr} (h : ∀ z o, At S H z o → z ≠ d → At S' H' z o) (hd : ∃ kvs, H d = some (.dK kvs)) : ∀ {m : Nat} {e : Addr}, (∀ k, k ≤ m → ¬ BD S H k d) → BD S H m e → BD S' H' m e
  | 0, e, nb, ⟨kvs, a, b, c, q⟩ => by
    have ne : e ≠ d := by
      rintro rfl
      exact nb 0 (Nat.le_refl _) ⟨kvs, a, b, c, q⟩
    refine ⟨kvs, h _ _ a ne, b, c, fun kv w => (q kv w).n fun z o x hz => h z o x ?_⟩
    rintro rfl
    obtain ⟨k, hk⟩ := hd
    exact hz k (Option.some.inj (x.2.symm.trans hk))
  | m + 1, e, nb, ⟨kvs, a, b, c, q⟩ => by
    have ne : e ≠ d := by
      rintro rfl
      exact nb (m + 1) (Nat.le_refl _) ⟨kvs, a, b, c, q⟩
    have tn : TrN S H S' H' := fun z o x hz => h z o x (by
      rintro rfl
      obtain ⟨k, hk⟩ := hd
      exact hz k (Option.some.inj (x.2.symm.trans hk)))
    refine ⟨kvs, h _ _ a ne, b, c, fun kv w => (q kv w).imp (fun y => y.n tn) fun ⟨t, d', e1, e2, e3⟩ => ⟨t, d', e1, tn _ _ e2 (fun _ z => nomatch z), BD.lock h hd (fun k hk => nb k (by omega)) e3⟩⟩
end
theorem least {p : Nat → Prop} (n : Nat) (h : p n) : ∃ k, k ≤ n ∧ p k ∧ ∀ m, m < k → ¬ p m := by
  induction n using Nat.strongRecOn with
  | ind n ih =>
    by_cases e : ∃ m, m < n ∧ p m
    · obtain ⟨m, lt, pm⟩ := e
      obtain ⟨k, a, b, c⟩ := ih m lt pm
      exact ⟨k, by omega, b, c⟩
    · exact ⟨n, Nat.le_refl _, h, fun m lt pm => e ⟨m, lt, pm⟩⟩

section
variable {P : Program} {w : World} {K : PySem.W.Frag} {mg : Str → Option Value} {base : Heap}

theorem ok_bodyS_step (j k : Nat) {f fV : Addr} {fd fdV : FuncData} (F : Fun K "_law_body_signs" "_law_body_signs" sBodyS f fd) (Z : Bare mg) (zb : mg "bool" = none)
    (FV : Fun K "_law_value_signs" "_law_value_signs" sValS fV fdV) (bV : Binds K fdV ["_law_value_here"] []) (gV : mg "_law_value_signs" = some (.ref fV))
    (GV : FnOk P w K mg base CX0 (k + 1) fV fdV ["_law_value_here"] (spV (j + 1))) :
    FnOk P w K mg base CX0 (k + 2) f fd ["_law_body_here"] (spB j) := by
  refine F.ok scBodyS (fun vs H Q E h => ?_) (fun cdv A outer s H vs Q E hr h => ?_)
  · obtain ⟨d, S, n, m, rfl, _⟩ := h
    rfl
  · obtain ⟨d, S, n, m, rfl, hd, hm, q⟩ := h
    refine ⟨_, pss_cons (ps_set (i := 1) scBodyS.nd rfl (.inl rfl) (pe_lst (pa_cons pe_str pa_nil)))
      (pss_cons (ps_lock (ps_for PassesOwn.never rfl (pi_items (pv 0)) (pg_tup rfl (pgs_cons (pg_name (i := 2) scBodyS.nd rfl (.inl rfl)) (pgs_cons (pg_name (i := 3) scBodyS.nd rfl (.inl rfl)) pgs_nil)))
        (pss_cons (ps_set (i := 4) scBodyS.nd rfl (.inl rfl) (pe_and (pe_cmpR op_eq (pe_callB call_len_seq (by rfl) Z.len PySem.boot_len (pa_cons (pv 3) pa_nil)) pe_int (nomark _))
          (pe_one (pe_callB call_isi (by rfl) Z.isin (by decide +kernel) (pa_cons (pe_ix ix_tup (pv 3) pe_int (fun _ _ => rfl)) (pa_cons (pe_bltn (v := .ty "bool") (by rfl) zb (by decide +kernel) rfl) pa_nil))))))
        (pss_cons (ps_expr (pe_bm PySem.F.plainAttrs_list PySem.F.slot_list_extend PySem.F.type_list_extend mt_extend (pv 1) (pa_cons (pe_op op_cat (pe_op op_rep (pe_lst (pa_cons pe_str pa_nil))
            (pe_callTy call_int1 (by rfl) Z.int (by decide +kernel) (pa_cons (pe_and (pv 4) (pe_one (pe_ix ix_tup (pv 3) pe_int (fun _ _ => rfl)))) pa_nil))) (pe_lst (pa_cons (pv 2) (pa_cons pe_str pa_nil)))) pa_nil)))
        (pss_one (ps_expr (pe_bm PySem.F.plainAttrs_list PySem.F.slot_list_extend PySem.F.type_list_extend mt_extend (pv 1)
          (pa_cons (pe_call GV hr (by rfl) gV FV.kp bV .nil pass0 (pa_cons (pe_ifExp (pt_val (pv 4)) (pe_ix ix_tup (pv 3) pe_int (fun _ _ => rfl)) (pv 3)) pa_nil)) pa_nil))))))))
      (pss_one (ps_ret (pe_op op_cat (pv 1) (pe_lst (pa_cons pe_str pa_nil)))))), ?_⟩
    have line24 : sizeLine = 2 ^ 24 := rfl
    -- the entries
    have main : ∃ (kvs : List (Key × V)) (pre : Nat → Nat), At S H d (.dK kvs) ∧ (∀ kv ∈ kvs, ∃ s, kv.1 = .inr s ∧ Wd s) ∧ kvs.length ≤ 6 ∧ pre kvs.length + 2 ≤ m ∧ pre 0 = 0 ∧ (∀ i, i ≤ kvs.length → pre i ≤ pre kvs.length) ∧
        ∀ (i : Nat) kv, kvs[i]? = some kv → ∃ t zs decl x c, kv.2 = .ref t ∧ At S H t (.tup zs) ∧ (decl = true → ∃ b, zs = [.bl b, x]) ∧ (decl = false → x = kv.2 ∧ ∃ s r, zs = .str s :: r) ∧ (∀ (S' : Addr → Prop) (G : Hp), (∀ z o, At S H z o → z ≠ d → At S' G z o) → VD S' G (j + 1) x c) ∧ pre i + c + 3 ≤ pre (i + 1) := by
      have shape : ∀ v, VV S H v → ∃ t s r, v = .ref t ∧ At S H t (.tup (.str s :: r)) := by
        intro v hv
        cases hv with
        | sv v h =>
          cases h with
          | lit t x a _ => exact ⟨t, _, _, rfl, a⟩
          | copy t p a _ => exact ⟨t, _, _, rfl, a⟩
          | sum t l xs a _ _ _ => exact ⟨t, _, _, rfl, a⟩
        | ite t p l a b e _ _ _ _ => exact ⟨t, _, _, rfl, e⟩
      have tn : ∀ {S' : Addr → Prop} {G : Hp} {kvs : List (Key × V)}, At S H d (.dK kvs) → (∀ z o, At S H z o → z ≠ d → At S' G z o) → TrN S H S' G := by
        intro S' G kvs a h z o x hz
        refine h z o x ?_
        rintro rfl
        exact hz kvs (Option.some.inj (x.2.symm.trans a.2))
      rcases hd with ⟨hnj, hd, rfl⟩ | ⟨hnj, mb, hd, rfl⟩
      · obtain ⟨n0, h1, h2, h3⟩ := least (p := fun n => BD S H n d) n hd
        have bl := bB_le h1
        cases n0 with
        | zero =>
          obtain ⟨kvs, a, b, c, e⟩ := h2
          have b150 : bB 0 = 150 := rfl
          refine ⟨kvs, fun i => 37 * i, a, c, by omega, by show 37 * kvs.length + 2 ≤ _; omega, rfl, fun i h => Nat.mul_le_mul_left _ h, fun i kv q' => ?_⟩
          have q := List.mem_of_getElem? q'
          obtain ⟨t, s, r, e1, e2⟩ := shape _ (e kv q)
          exact ⟨t, _, false, kv.2, 34, e1, e2, (fun z => nomatch z), (fun _ => ⟨rfl, s, r, rfl⟩), fun S' G h => .inr (.inr (.inl ⟨(e kv q).n (tn a h), rfl⟩)), by show 37 * i + 34 + 3 ≤ 37 * (i + 1); omega⟩
        | succ n1 =>
          obtain ⟨kvs, a, b, c, e⟩ := h2
          have be : bB (n1 + 1) = 14 + 4 * bB n1 := rfl
          have bg := bB_ge n1
          refine ⟨kvs, fun i => (3 + bB n1) * i, a, c, by omega, ?_, rfl, fun i h => Nat.mul_le_mul_left _ h, fun i kv q' => ?_⟩
          · have : (3 + bB n1) * kvs.length ≤ (3 + bB n1) * 4 := Nat.mul_le_mul_left _ b
            show (3 + bB n1) * kvs.length + 2 ≤ _
            omega
          · have q := List.mem_of_getElem? q'
            have ms : (3 + bB n1) * (i + 1) = (3 + bB n1) * i + (3 + bB n1) := Nat.mul_succ _ _
            rcases e kv q with e | ⟨t, d', e1, e2, e3⟩
            · obtain ⟨t, s, r, e1, e2⟩ := shape _ e
              exact ⟨t, _, false, kv.2, 34, e1, e2, (fun z => nomatch z), (fun _ => ⟨rfl, s, r, rfl⟩), fun S' G h => .inr (.inr (.inl ⟨e.n (tn a h), rfl⟩)), by show (3 + bB n1) * i + 34 + 3 ≤ (3 + bB n1) * (i + 1); omega⟩
            · refine ⟨t, _, false, kv.2, bB n1, e1, e2, (fun z => nomatch z), (fun _ => ⟨rfl, _, _, rfl⟩), fun S' G h => .inr (.inr (.inr (.inl ⟨t, d', n1, e1, tn a h _ _ e2 (fun _ z => nomatch z), BD.lock h ⟨kvs, a.2⟩ (fun k hk => h3 k (by omega)) e3, by omega, rfl⟩))), by show (3 + bB n1) * i + bB n1 + 3 ≤ (3 + bB n1) * (i + 1); omega⟩
      · obtain ⟨kvs, fl, a, b, l1, l2, c, e⟩ := hd
        have bg := bB_ge n
        refine ⟨kvs, fun i => 37 * i + (27 + bB n) * (fl.take i).count true, a, c, b, ?_, rfl, fun i h => ?_, fun i kv q => ?_⟩
        · have : (27 + bB n) * fl.count true ≤ (27 + bB n) * mb := Nat.mul_le_mul_left _ l2
          show 37 * kvs.length + (27 + bB n) * (fl.take kvs.length).count true + 2 ≤ _
          rw [← l1, List.take_length]
          omega
        · have h1 : (fl.take i).count true ≤ (fl.take kvs.length).count true := ((List.take_sublist_take_left h).count_le true)
          have h2 := Nat.mul_le_mul_left (27 + bB n) h1
          show 37 * i + (27 + bB n) * (fl.take i).count true ≤ 37 * kvs.length + (27 + bB n) * (fl.take kvs.length).count true
          omega
        · obtain ⟨fb, hfb⟩ : ∃ fb, fl[i]? = some fb := ⟨_, List.getElem?_eq_getElem (by rw [l1]; exact (List.getElem?_eq_some_iff.mp q).1)⟩
          obtain ⟨t, bb, x, e1, e2, e3, e4⟩ := e i kv fb q hfb
          have tk1 : (fl.take (i + 1)).count true = (fl.take i).count true + (if fb = true then 1 else 0) := by
            rw [List.take_add_one, hfb, List.count_append]
            cases fb <;> rfl
          have nb : ∀ k, k ≤ n → ¬ BD S H k d := by
            intro k _ hk
            have ent : ∀ {k}, BD S H k d → ∃ t2 s r, kv.2 = .ref t2 ∧ At S H t2 (.tup (.str s :: r)) := by
              intro k hk
              cases k with
              | zero =>
                obtain ⟨kvs2, a2, _, _, e4⟩ := hk
                have : kvs2 = kvs := HO.dK.inj (Option.some.inj (a2.2.symm.trans a.2))
                subst this
                exact shape _ (e4 kv (List.mem_of_getElem? q))
              | succ k =>
                obtain ⟨kvs2, a2, _, _, e4⟩ := hk
                have : kvs2 = kvs := HO.dK.inj (Option.some.inj (a2.2.symm.trans a.2))
                subst this
                rcases e4 kv (List.mem_of_getElem? q) with e4 | ⟨t2, d2, u1, u2, _⟩
                · exact shape _ e4
                · exact ⟨t2, _, _, u1, u2⟩
            obtain ⟨t2, s, r, u1, u2⟩ := ent hk
            have : t2 = t := V.ref.inj (u1.symm.trans e1)
            subst this
            have := u2.2.symm.trans e2.2
            cases this
          cases fb with
          | false =>
            refine ⟨t, _, true, x, 34, e1, e2, (fun _ => ⟨bb, rfl⟩), (fun z => nomatch z), fun S' G h => .inr (.inr (.inl ⟨(e4 rfl).n (tn a h), rfl⟩)), ?_⟩
            show 37 * i + (27 + bB n) * (fl.take i).count true + 34 + 3 ≤ 37 * (i + 1) + (27 + bB n) * (fl.take (i + 1)).count true
            rw [tk1]
            simp only [Bool.false_eq_true, if_false, Nat.add_zero]
            omega
          | true =>
          refine ⟨t, _, true, x, 24 + bB n, e1, e2, (fun _ => ⟨bb, rfl⟩), (fun z => nomatch z), fun S' G h => .inr (.inr (.inr (.inr ⟨n, ?_, hnj, rfl⟩))), ?_⟩
          case refine_2 =>
            show 37 * i + (27 + bB n) * (fl.take i).count true + (24 + bB n) + 3 ≤ 37 * (i + 1) + (27 + bB n) * (fl.take (i + 1)).count true
            have ms : (27 + bB n) * ((fl.take i).count true + 1) = (27 + bB n) * (fl.take i).count true + (27 + bB n) := Nat.mul_succ _ _
            rw [tk1, if_pos rfl, ms]
            omega
          cases e3 with
          | vv v h4 => exact .vv n _ (h4.n (tn a h))
          | new t3 d3 s3 h4 h5 h6 => exact .new n t3 d3 s3 (tn a h _ _ h4 (fun _ z => nomatch z)) h5 (BD.lock h ⟨kvs, a.2⟩ nb h6)
          | loop t3 d3 s3 q3 w3 h4 h5 h6 h7 h8 => exact .loop n t3 d3 s3 q3 w3 (tn a h _ _ h4 (fun _ z => nomatch z)) h5 h6 (h7.n (tn a h)) (BD.lock h ⟨kvs, a.2⟩ nb h8)
    obtain ⟨kvs, pre, ad, keys, lk6, hcap, pre0, prem, ent⟩ := main
    clear hd
    refine ⟨by show 1 ≤ sizeLine; decide, fun L nL => ?_⟩
    obtain ⟨s1, f1, _⟩ := grow (o := .lst ((["{"] : List Str).map V.str)) nL
    have nLd : L ≠ d := (ne_of_none ad.2 nL).symm
    refine ⟨d, .dK kvs, s1 _ _ ad.2, trivial, fun od => ?_⟩
    refine ⟨.ref d, rfl, d, od, kvs, rfl, upd_same, for_it (walk_items (d := d) (o := od) (kvs := kvs))
      (fun i σ G => ∃ (o2 o3 o4 : Option V) (ss : List Str), σ = [some (.ref d), some (.ref L), o2, o3, o4] ∧ (∀ z o, H z = some o → z ≠ d → G z = some o) ∧ G d = some (.frz od (.dK kvs)) ∧ G L = some (.lst (ss.map V.str)) ∧ (∀ x ∈ ss, SgOk x) ∧ ss.length ≤ 1 + pre i)
      ?_ (fun i σ G _ ⟨_, _, _, _, _, _, z, _⟩ => z) ?_ ?_⟩
    · refine ⟨none, none, none, ["{"], rfl, fun z o e n => ?_, upd_same, by rw [upd_ne nLd]; exact f1, fun x h => ?_, by show 1 ≤ 1 + pre 0; omega⟩
      · rw [upd_ne n]
        exact s1 _ _ e
      · rw [List.mem_singleton.mp h]
        exact sgB_ok (by decide +kernel)
    · rintro i x0 σ G G' hi ⟨o2, o3, o4, ss, rfl, kG, dG, LG, oG, cG⟩ ⟨T, x', y', rfl, nT, rfl, e1, e2⟩
      obtain ⟨kv, hkv⟩ : ∃ kv, kvs[i]? = some kv := ⟨_, List.getElem?_eq_getElem hi⟩
      replace e1 : (kvs[i]?.map fun kv => kV kv.1) = some x' := e1
      replace e2 : kvs[i]?.map Prod.snd = some y' := e2
      rw [hkv] at e1 e2
      cases e1
      cases e2
      obtain ⟨s, es, ws⟩ := keys kv (List.mem_of_getElem? hkv)
      obtain ⟨t, zs, decl, x, c, ev, azs, hdecl, hnd, hvd, hc⟩ := ent i kv hkv
      obtain ⟨k0, v0⟩ := kv
      cases es
      have ev : v0 = .ref t := ev
      subst ev
      have i6 : i < 6 := by omega
      have capi := prem i (by omega)
      have capl := prem (i + 1) (by omega)
      obtain ⟨sT, fT, _⟩ := grow (o := .tup [kV (.inr s), .ref t]) nT
      refine ⟨T, _, rfl, SqT.of fT, rfl, _, _, rfl, _, _, rfl, rfl, ?_⟩
      have k1 : ∀ z o, H z = some o → z ≠ d → (upd G T (.tup [kV (.inr s), .ref t])) z = some o := fun z o e n => sT _ _ (kG z o e n)
      have d1 := sT _ _ dG
      have L1 := sT _ _ LG
      generalize upd G T (.tup [kV (.inr s), .ref t]) = G1 at k1 d1 L1 ⊢
      have td : t ≠ d := by
        rintro rfl
        have z := azs.2.symm.trans ad.2
        cases z
      have t1 := k1 _ _ azs.2 td
      -- found.extend([..]), found.extend(value_signs(..)): heap G1, how many "let": gv
      have lenq : ∀ (Qq : V → Hp → Prop), (∀ bd : Bool, bd = decide (V.int (zs.length : Int) = V.int 2) → Qq (.bl bd) G1) → True := fun _ _ => trivial
      refine ⟨.ref t, rfl, t, zs, rfl, .inr (SqT.of t1), rfl, _, rfl, ?_⟩
      cases decl with
      | true =>
        obtain ⟨bb, rfl⟩ := hdecl rfl
        refine ite2 (fun _ => ?_) (fun e => absurd (decide_eq_true rfl) e)
        refine ⟨.ref t, rfl, t, _, 0, .bl bb, rfl, rfl, SqT.of t1, atI_nat (j := 0) rfl, ?_⟩
        refine ⟨.bl bb, .ty "bool", .type "bool", .type "bool", true, rfl, .ty "bool", .base (.bl bb), kit_ty (by decide +kernel), ?_⟩
        refine ⟨.ref L, rfl, .inl ⟨rfl, _, SqL.of L1⟩, by show 1 ≤ sizeLine; decide, fun A nA => ?_⟩
        obtain ⟨sA, fA, _⟩ := grow (o := .lst ((["let"] : List Str).map V.str)) nA
        refine ⟨.bl true, rfl, true, rfl, iteT ⟨.ref t, rfl, t, _, 0, .bl bb, rfl, rfl, SqT.of (sA _ _ t1), atI_nat (j := 0) rfl, .inr ⟨_, rfl, ?_⟩⟩⟩
        obtain ⟨zl, hzl⟩ : ∃ zl : Int, zl = if bb = true then 1 else 0 := ⟨_, rfl⟩
        have z01 : 0 ≤ zl ∧ zl ≤ 1 := by
          rw [hzl]
          split <;> omega
        rw [← hzl]
        obtain ⟨gv, hg1, hg2, hg3⟩ := reps (s := "") z01 (["let"] : List Str)
        have hg2 : gv.length ≤ 1 := hg2
        refine ⟨A, zl, (["let"] : List Str).map V.str, rfl, rfl, fA, by omega, by omega, by show 1 * zl.toNat ≤ sizeLine; omega, fun A2 nA2 => ?_⟩
        rw [hg1]
        obtain ⟨sA2, fA2, _⟩ := grow (o := .lst (gv.map V.str)) nA2
        refine ⟨.str s, rfl, by show 2 ≤ sizeLine; decide, fun A3 nA3 => ?_⟩
        obtain ⟨sA3, fA3, _⟩ := grow (o := .lst (([s, ":"] : List Str).map V.str)) nA3
        refine ⟨A2, A3, _, ([s, ":"] : List Str).map V.str, rfl, rfl, sA3 _ _ fA2, fA3, by simp only [List.length_map, List.length_cons, List.length_nil]; omega, fun A4 nA4 => ?_⟩
        obtain ⟨sA4, fA4, _⟩ := grow (o := .lst (gv.map V.str ++ ([s, ":"] : List Str).map V.str)) nA4
        have sAll := sTr (sTr (sTr sA sA2) sA3) sA4
        refine ⟨L, A4, _, _, rfl, rfl, sAll _ _ L1, fA4, by simp only [List.length_append, List.length_map, List.length_cons, List.length_nil]; omega, ?_⟩
        obtain ⟨ss2, hss2⟩ : ∃ ss2, ss2 = ss ++ (gv ++ ([s, ":"] : List Str)) := ⟨_, rfl⟩
        have o2s : ∀ y ∈ ss2, SgOk y := fun y h => by
          rw [hss2] at h
          rcases List.mem_append.mp h with h | h
          · exact oG y h
          · rcases List.mem_append.mp h with h | h
            · rw [List.mem_singleton.mp (hg3 y h)]
              exact sgB_ok (by decide +kernel)
            · simp only [List.mem_cons, List.not_mem_nil, or_false] at h
              rcases h with rfl | rfl
              · exact wd_ok ws
              · exact sgB_ok (by decide +kernel)
        have c2s : ss2.length ≤ 1 + pre i + 3 := by
          rw [hss2]
          simp only [List.length_append, List.length_cons, List.length_nil]
          omega
        obtain ⟨G2, hG2⟩ : ∃ G2, G2 = upd (upd (upd (upd (upd G1 A (.lst ((["let"] : List Str).map V.str))) A2 (.lst (gv.map V.str))) A3 (.lst (([s, ":"] : List Str).map V.str))) A4 (.lst (gv.map V.str ++ ([s, ":"] : List Str).map V.str))) L (.lst (ss.map V.str ++ (gv.map V.str ++ ([s, ":"] : List Str).map V.str))) := ⟨_, rfl⟩
        have L2 : G2 L = some (.lst (ss2.map V.str)) := by rw [hG2, upd_same, hss2, List.map_append, List.map_append]
        have k2 : ∀ z o, H z = some o → z ≠ d → G2 z = some o := fun z o e n => by
          rw [hG2, upd_ne (ne_of_none e nL)]
          exact sAll _ _ (k1 z o e n)
        have d2 : G2 d = some (.frz od (.dK kvs)) := by
          rw [hG2, upd_ne nLd.symm]
          exact sAll _ _ d1
        have t2 := k2 _ _ azs.2 td
        clear hss2
        subst hG2
        refine ⟨.ref L, rfl, .inl ⟨rfl, _, SqL.of L2⟩, .bl true, rfl, true, rfl, iteT ⟨.ref t, rfl, t, _, 1, x, rfl, rfl, SqT.of t2, atI_nat (j := 1) rfl, ?_⟩⟩
        refine ⟨_, Pl S d, c, rfl, hvd (Pl S d) _ (fun z o e n => ⟨fun w => w.elim e.1 n, k2 z o e.2 n⟩), by omega, fun G3 l3 s3 n3 ⟨ss3, e3, o3', c3⟩ => ?_⟩
        refine ⟨L, l3, _, _, rfl, rfl, s3 _ _ L2, e3, by simp only [List.length_map]; omega, ?_⟩
        refine ⟨_, _, _, ss2 ++ ss3, rfl, fun z o e n => ?_, ?_, by rw [upd_same, List.map_append], fun y h => ?_, by rw [List.length_append]; omega⟩
        · rw [upd_ne (ne_of_none e nL)]
          exact s3 _ _ (k2 z o e n)
        · rw [upd_ne nLd.symm]
          exact s3 _ _ d2
        · rcases List.mem_append.mp h with h | h
          · exact o2s y h
          · exact o3' y h
      | false =>
        obtain ⟨rfl, s9, r9, rfl⟩ := hnd rfl
        have isd : ∀ D : VK, D (.bl false) G1 → (if decide (V.int ((V.str s9 :: r9).length : Int) = V.int 2) = true then tCB (rIsi K) (tCons (tOp (rIxT K) (tVar 3) (tC (.int 0))) (tCons (tC (.ty "bool")) tNil)) [some (.ref d), some (.ref L), some (.str s), some (.ref t), o4] G1 D else D (.bl false) G1) := by
          intro D hD
          refine ite2 (fun _ => ?_) (fun _ => hD)
          refine ⟨.ref t, rfl, t, _, 0, .str s9, rfl, rfl, SqT.of t1, atI_nat (j := 0) rfl, ?_⟩
          exact ⟨.str s9, .ty "bool", .type "str", .type "bool", false, rfl, .ty "bool", .base (.str s9), kit_ty (by decide +kernel), hD⟩
        refine isd _ ?_
        refine ⟨.ref L, rfl, .inl ⟨rfl, _, SqL.of L1⟩, by show 1 ≤ sizeLine; decide, fun A nA => ?_⟩
        obtain ⟨sA, fA, _⟩ := grow (o := .lst ((["let"] : List Str).map V.str)) nA
        refine ⟨.bl false, rfl, false, rfl, iteF (.inr ⟨_, rfl, ?_⟩)⟩
        obtain ⟨zl, hzl⟩ : ∃ zl : Int, zl = if false = true then 1 else 0 := ⟨_, rfl⟩
        have z01 : 0 ≤ zl ∧ zl ≤ 1 := by
          rw [hzl]
          split <;> omega
        rw [← hzl]
        obtain ⟨gv, hg1, hg2, hg3⟩ := reps (s := "") z01 (["let"] : List Str)
        have hg2 : gv.length ≤ 1 := hg2
        refine ⟨A, zl, (["let"] : List Str).map V.str, rfl, rfl, fA, by omega, by omega, by show 1 * zl.toNat ≤ sizeLine; omega, fun A2 nA2 => ?_⟩
        rw [hg1]
        obtain ⟨sA2, fA2, _⟩ := grow (o := .lst (gv.map V.str)) nA2
        refine ⟨.str s, rfl, by show 2 ≤ sizeLine; decide, fun A3 nA3 => ?_⟩
        obtain ⟨sA3, fA3, _⟩ := grow (o := .lst (([s, ":"] : List Str).map V.str)) nA3
        refine ⟨A2, A3, _, ([s, ":"] : List Str).map V.str, rfl, rfl, sA3 _ _ fA2, fA3, by simp only [List.length_map, List.length_cons, List.length_nil]; omega, fun A4 nA4 => ?_⟩
        obtain ⟨sA4, fA4, _⟩ := grow (o := .lst (gv.map V.str ++ ([s, ":"] : List Str).map V.str)) nA4
        have sAll := sTr (sTr (sTr sA sA2) sA3) sA4
        refine ⟨L, A4, _, _, rfl, rfl, sAll _ _ L1, fA4, by simp only [List.length_append, List.length_map, List.length_cons, List.length_nil]; omega, ?_⟩
        obtain ⟨ss2, hss2⟩ : ∃ ss2, ss2 = ss ++ (gv ++ ([s, ":"] : List Str)) := ⟨_, rfl⟩
        have o2s : ∀ y ∈ ss2, SgOk y := fun y h => by
          rw [hss2] at h
          rcases List.mem_append.mp h with h | h
          · exact oG y h
          · rcases List.mem_append.mp h with h | h
            · rw [List.mem_singleton.mp (hg3 y h)]
              exact sgB_ok (by decide +kernel)
            · simp only [List.mem_cons, List.not_mem_nil, or_false] at h
              rcases h with rfl | rfl
              · exact wd_ok ws
              · exact sgB_ok (by decide +kernel)
        have c2s : ss2.length ≤ 1 + pre i + 3 := by
          rw [hss2]
          simp only [List.length_append, List.length_cons, List.length_nil]
          omega
        obtain ⟨G2, hG2⟩ : ∃ G2, G2 = upd (upd (upd (upd (upd G1 A (.lst ((["let"] : List Str).map V.str))) A2 (.lst (gv.map V.str))) A3 (.lst (([s, ":"] : List Str).map V.str))) A4 (.lst (gv.map V.str ++ ([s, ":"] : List Str).map V.str))) L (.lst (ss.map V.str ++ (gv.map V.str ++ ([s, ":"] : List Str).map V.str))) := ⟨_, rfl⟩
        have L2 : G2 L = some (.lst (ss2.map V.str)) := by rw [hG2, upd_same, hss2, List.map_append, List.map_append]
        have k2 : ∀ z o, H z = some o → z ≠ d → G2 z = some o := fun z o e n => by
          rw [hG2, upd_ne (ne_of_none e nL)]
          exact sAll _ _ (k1 z o e n)
        have d2 : G2 d = some (.frz od (.dK kvs)) := by
          rw [hG2, upd_ne nLd.symm]
          exact sAll _ _ d1
        have t2 := k2 _ _ azs.2 td
        clear hss2
        subst hG2
        refine ⟨.ref L, rfl, .inl ⟨rfl, _, SqL.of L2⟩, .bl false, rfl, false, rfl, iteF ⟨.ref t, rfl, ?_⟩⟩
        refine ⟨_, Pl S d, c, rfl, hvd (Pl S d) _ (fun z o e n => ⟨fun w => w.elim e.1 n, k2 z o e.2 n⟩), by omega, fun G3 l3 s3 n3 ⟨ss3, e3, o3', c3⟩ => ?_⟩
        refine ⟨L, l3, _, _, rfl, rfl, s3 _ _ L2, e3, by simp only [List.length_map]; omega, ?_⟩
        refine ⟨_, _, _, ss2 ++ ss3, rfl, fun z o e n => ?_, ?_, by rw [upd_same, List.map_append], fun y h => ?_, by rw [List.length_append]; omega⟩
        · rw [upd_ne (ne_of_none e nL)]
          exact s3 _ _ (k2 z o e n)
        · rw [upd_ne nLd.symm]
          exact s3 _ _ d2
        · rcases List.mem_append.mp h with h | h
          · exact o2s y h
          · exact o3' y h
    · rintro σ G ⟨o2, o3, o4, ss, rfl, kG, dG, LG, oG, cG⟩
      refine ⟨dG, .ref L, rfl, by show 1 ≤ sizeLine; decide, fun B nB => ?_⟩
      have sF : Same H (upd G d (.dK kvs)) := fun z o e => by
        by_cases zd : z = d
        · subst zd
          rw [upd_same, ← ad.2]
          exact e
        · rw [upd_ne zd]
          exact kG z o e zd
      obtain ⟨sB, fB, _⟩ := grow (o := .lst ((["}"] : List Str).map V.str)) nB
      have LF : (upd G d (.dK kvs)) L = some (.lst (ss.map V.str)) := by rw [upd_ne nLd]; exact LG
      refine ⟨L, B, _, (["}"] : List Str).map V.str, rfl, rfl, sB _ _ LF, fB, by simp only [List.length_map, List.length_cons, List.length_nil]; omega, fun l nl => ?_⟩
      obtain ⟨sl, fl, _⟩ := grow (o := .lst (ss.map V.str ++ (["}"] : List Str).map V.str)) nl
      refine q _ l (sTr (sTr sF sB) sl) (same_free (sTr sF sB) nl) ⟨ss ++ (["}"] : List Str), by rw [List.map_append]; exact fl, fun x h => ?_, by rw [List.length_append]; show ss.length + 1 ≤ m; omega⟩
      rcases List.mem_append.mp h with h | h
      · exact oG x h
      · rw [List.mem_singleton.mp h]
        exact sgB_ok (by decide +kernel)
end
end K2

set_option maxHeartbeats 2000000
/-! Values and bodies, by turns. -/
namespace K2
open PySem PySem.Spec PyProof.Rows L2

section
variable {P : Program} {w : World} {K : PySem.W.Frag} {mg : Str → Option Value} {base : Heap}
theorem fn_up {k k' : Nat} {f : Addr} {fd : FuncData} {ps : List Str} {sp : Sp} (h : FnOk P w K mg base CX0 k f fd ps sp) (l : k ≤ k') : FnOk P w K mg base CX0 k' f fd ps sp :=
  ⟨h.len, fun A outer s H args us vs Q E hr => h.run A outer s H args us vs Q E (hr.mono l)⟩
theorem fn_none {k : Nat} {f : Addr} {fd : FuncData} {ps : List Str} : FnOk P w K mg base CX0 k f fd ps (fun _ _ _ _ => False) :=
  ⟨fun _ _ _ _ h => h.elim, fun _ _ _ _ _ _ _ _ _ _ _ _ _ h => h.elim⟩

theorem turns {f fL fB : Addr} {fd fdL fdB : FuncData} (F : Fun K "_law_value_signs" "_law_value_signs" sValS f fd) (Z : Bare mg) (ze : mg "enumerate" = none) (zb : mg "bool" = none) (bF : Binds K fd ["_law_value_here"] []) (gF : mg "_law_value_signs" = some (.ref f))
    (FL : Fun K "_law_literal_signs" "_law_literal_signs" sLitS fL fdL) (bL : Binds K fdL ["_law_value_here"] []) (gL : mg "_law_literal_signs" = some (.ref fL))
    (FB : Fun K "_law_body_signs" "_law_body_signs" sBodyS fB fdB) (bB' : Binds K fdB ["_law_body_here"] []) (gB : mg "_law_body_signs" = some (.ref fB)) :
    ∀ j, FnOk P w K mg base CX0 (3 * j + 2) f fd ["_law_value_here"] (spV j) ∧ FnOk P w K mg base CX0 (3 * j + 4) fB fdB ["_law_body_here"] (spBp (j + 1)) := by
  intro j
  induction j with
  | zero => exact ⟨ok_valS_step 0 0 F Z ze bF gF FL bL gL FB bB' gB fn_none fn_none, fn_none⟩
  | succ j ih =>
    have v : FnOk P w K mg base CX0 (3 * (j + 1) + 2) f fd ["_law_value_here"] (spV (j + 1)) :=
      ok_valS_step (j + 1) (3 * j + 3) F Z ze bF gF FL bL gL FB bB' gB (fn_up ih.1 (by omega)) (fn_up ih.2 (by omega))
    refine ⟨v, ?_⟩
    have b : FnOk P w K mg base CX0 (3 * j + 6) fB fdB ["_law_body_here"] (spB j) := ok_bodyS_step j (3 * j + 4) FB Z zb F bF gF v
    exact fn_up b (by omega)
/-- bodies, declaring ones among them -/
theorem ok_bodyS {f fL fB : Addr} {fd fdL fdB : FuncData} (F : Fun K "_law_value_signs" "_law_value_signs" sValS f fd) (Z : Bare mg) (ze : mg "enumerate" = none) (zb : mg "bool" = none) (bF : Binds K fd ["_law_value_here"] []) (gF : mg "_law_value_signs" = some (.ref f))
    (FL : Fun K "_law_literal_signs" "_law_literal_signs" sLitS fL fdL) (bL : Binds K fdL ["_law_value_here"] []) (gL : mg "_law_literal_signs" = some (.ref fL))
    (FB : Fun K "_law_body_signs" "_law_body_signs" sBodyS fB fdB) (bB' : Binds K fdB ["_law_body_here"] []) (gB : mg "_law_body_signs" = some (.ref fB)) (j : Nat) :
    FnOk P w K mg base CX0 (3 * j + 7) fB fdB ["_law_body_here"] (spB j) := fn_up (turns F Z ze zb bF gF FL bL gL FB bB' gB (j + 1)).2 (by omega)
end
end K2

set_option maxHeartbeats 4000000
/-! The signs of a drawn project's text. -/
namespace K2
open PySem PySem.Spec PyProof.Rows L2

/-- signs in all -/
def allS : Nat := 8800
def spSigns : Sp := fun vs H Q _ => ∃ (bk Tn Ln : Addr) (S : Addr → Prop) (kvb tt ll : List (Key × V)) (v : V), vs = [.ref bk] ∧ BookT S H bk Tn Ln kvb tt ll v ∧ ∀ H' l, Same H H' → H l = none → Sgs H' l allS → Q (.ref l) H'

/-! ### a heading -/
theorem kd_wd {k : Str} (h : Kd k) : Wd k := by
  rcases h with rfl | rfl
  · exact wd_of (by decide +kernel)
  · exact wd_of (by decide +kernel)
theorem kd_len {k : Str} (h : Kd k) : (cp k).length ≤ 6 := by
  rcases h with rfl | rfl
  · exact (show (cp (Str.ofString "text")).length ≤ 6 by decide +kernel)
  · exact (show (cp (Str.ofString "number")).length ≤ 6 by decide +kernel)
def PartOf (y : Str) : Prop := ∃ s k, y = s ++ ": " ++ k ∧ Wd s ∧ (cp s).length ≤ 1 ∧ Kd k
theorem part_cp {s k : Str} : cp (s ++ ": " ++ k : Str) = cp s ++ [] ++ [58] ++ [32] ++ cp k := by
  have e : cp (Str.ofString ": ") = [58, 32] := by decide +kernel
  rw [cp_app, cp_app, e]
  simp
theorem part_step {p : List Nat} {f : List (Nat × List Nat)} {a g : List Nat} (S : Sofar p f a) (hg : GapT g) {s k : Str} (hs : Wd s) (hk : Wd k) (hf : g = [] → Fit a (cp s)) (hg2 : ∀ y, g.head? = some y → isGap y = true ∨ y = 35) :
    ∃ f', Sofar (p ++ g ++ cp s ++ [] ++ [58] ++ [32] ++ cp k) f' (cp k) := by
  have s1 := sofar_step S hg (wd_tk hs) hf hg2
  have s2 := sofar_step (g := []) s1 gap_nil (.sign (c := 58) (by decide)) (fun _ => fit_sign (by decide)) (fun y e => nomatch e)
  have s3 := sofar_step (g := [32]) s2 (gap_cons (by decide) gap_nil) (wd_tk hk) (fun e => nomatch e) (fun y e => by
    cases e
    exact .inl (by decide))
  exact ⟨_, s3⟩
theorem part_lt {s k : Str} (hs : Wd s) (hk : Wd k) : ∀ c ∈ cp s ++ [] ++ [58] ++ [32] ++ cp k, c < 128 := by
  intro c hc
  simp only [List.append_nil, List.mem_append, List.mem_singleton] at hc
  rcases hc with ((hc | hc) | hc) | hc
  · exact let_lt' (hs.2.1 c hc)
  · rw [hc]; decide
  · rw [hc]; decide
  · exact let_lt' (hk.2.1 c hc)
theorem heading_ok : ∀ {ys : List Str}, 1 ≤ ys.length → ys.length ≤ 2 → (∀ y ∈ ys, PartOf y) → SgOk (Txt.join ", " ys)
  | [], h, _, _ => absurd h (by decide)
  | [y], _, _, h => by
    obtain ⟨s, k, rfl, hs, ls, hk⟩ := h y List.mem_cons_self
    obtain ⟨f, S⟩ := part_step (p := []) (g := []) (sofar_gap gap_nil) gap_nil hs (kd_wd hk) (fun _ => fit_nil _) (fun y e => nomatch e)
    refine ⟨?_, ?_, ?_⟩
    · show Sg (cp (s ++ ": " ++ k : Str))
      rw [part_cp]
      exact sg_of S
    · show ∀ c ∈ cp (s ++ ": " ++ k : Str), c < 128
      rw [part_cp]
      exact part_lt hs (kd_wd hk)
    · show (cp (s ++ ": " ++ k : Str)).length ≤ 30
      rw [part_cp]
      have := kd_len hk
      simp only [List.length_append, List.length_cons, List.length_nil]
      omega
  | [y, z], _, _, h => by
    obtain ⟨s, k, rfl, hs, ls, hk⟩ := h y List.mem_cons_self
    obtain ⟨s2, k2, rfl, hs2, ls2, hk2⟩ := h z (List.mem_cons_of_mem _ List.mem_cons_self)
    obtain ⟨f, S⟩ := part_step (p := []) (g := []) (sofar_gap gap_nil) gap_nil hs (kd_wd hk) (fun _ => fit_nil _) (fun y e => nomatch e)
    have S1 := sofar_step (g := []) S gap_nil (.sign (c := 44) (by decide)) (fun _ => fit_sign (by decide)) (fun y e => nomatch e)
    obtain ⟨f2, S2⟩ := part_step (g := [32]) S1 (gap_cons (by decide) gap_nil) hs2 (kd_wd hk2) (fun e => nomatch e) (fun y e => by
      cases e
      exact .inl (by decide))
    have e : cp (Txt.join ", " [s ++ ": " ++ k, s2 ++ ": " ++ k2]) = [] ++ [] ++ cp s ++ [] ++ [58] ++ [32] ++ cp k ++ [] ++ [44] ++ [32] ++ cp s2 ++ [] ++ [58] ++ [32] ++ cp k2 := by
      have e1 : cp (Str.ofString ", ") = [44, 32] := by decide +kernel
      show cp (s ++ ": " ++ k ++ ", " ++ (s2 ++ ": " ++ k2) : Str) = _
      rw [cp_app, cp_app, part_cp, part_cp, e1]
      simp
    refine ⟨?_, ?_, ?_⟩
    · rw [e]
      exact sg_of S2
    · rw [e]
      intro c hc
      have h1 := part_lt hs (kd_wd hk)
      have h2 := part_lt hs2 (kd_wd hk2)
      simp only [List.append_nil, List.nil_append, List.mem_append, List.mem_singleton] at hc h1 h2
      rcases hc with (((((((((hc | hc) | hc) | hc) | hc) | hc) | hc) | hc) | hc) | hc)
      · exact h1 c (.inl (.inl (.inl hc)))
      · rw [hc]; decide
      · rw [hc]; decide
      · exact h1 c (.inr hc)
      · rw [hc]; decide
      · rw [hc]; decide
      · exact h2 c (.inl (.inl (.inl hc)))
      · rw [hc]; decide
      · rw [hc]; decide
      · exact h2 c (.inr hc)
    · rw [e]
      have := kd_len hk
      have := kd_len hk2
      simp only [List.length_append, List.length_cons, List.length_nil]
      omega
  | _ :: _ :: _ :: _, _, h, _ => absurd h (by simp)

theorem part_len {y : Str} (h : PartOf y) : y.length ≤ 9 := by
  obtain ⟨s, k, rfl, hs, ls, hk⟩ := h
  rw [← cp_len, part_cp]
  have := kd_len hk
  simp only [List.length_append, List.length_cons, List.length_nil]
  omega
theorem parts_sum : ∀ {ys : List Str}, (∀ y ∈ ys, PartOf y) → (ys.map (·.length)).sum ≤ 9 * ys.length
  | [], _ => Nat.zero_le _
  | y :: r, h => by
    have h1 := parts_sum (ys := r) fun z q => h z (List.mem_cons_of_mem _ q)
    have h2 := part_len (h y List.mem_cons_self)
    rw [List.map_cons, List.sum_cons, List.length_cons]
    omega

theorem scSigns : FnScope ["_law_book_here", "_law_found", "_law_name", "_law_base", "_law_entries_here", "_law_fields", "_law_items", "_law_heading", "_law_item", "_law_field", "_law_kind", "_law_value_here"] ["_law_book_here"] (defScope sSigns) := ⟨rfl, rfl, rfl, by decide +kernel, rfl, by decide +kernel, by decide +kernel⟩

section
variable {P : Program} {w : World} {K : PySem.W.Frag} {mg : Str → Option Value} {base : Heap}
theorem ok_signs {f fB : Addr} {fd fdB : FuncData} (F : Fun K "_law_signs" "_law_signs" sSigns f fd) (Z : Bare mg) (zd : mg "dict" = none)
    (FB : Fun K "_law_body_signs" "_law_body_signs" sBodyS fB fdB) (bB : Binds K fdB ["_law_body_here"] []) (gB : mg "_law_body_signs" = some (.ref fB))
    (GB : FnOk P w K mg base CX0 16 fB fdB ["_law_body_here"] (spB 3)) :
    FnOk P w K mg base CX0 17 f fd ["_law_book_here"] spSigns := by
  refine F.ok scSigns (fun vs H Q E h => ?_) (fun cdv A outer s H vs Q E hr h => ?_)
  · obtain ⟨bk, Tn, Ln, S, kvb, tt, ll, v, rfl, _⟩ := h
    rfl
  · obtain ⟨bk, Tn, Ln, S, kvb, tt, ll, v, rfl, bt, q⟩ := h
    refine ⟨_, pss_cons (ps_set (i := 1) scSigns.nd rfl (.inl rfl) (pe_lst pa_nil))
      (pss_cons (ps_lock (ps_for PassesOwn.never rfl (pi_items (pe_dget (hu_of hr) (pv 0) pe_str (fun _ _ => rfl)))
          (pg_tup rfl (pgs_cons (pg_name (i := 2) scSigns.nd rfl (.inl rfl)) (pgs_cons (pg_tup rfl (pgs_cons (pg_name (i := 3) scSigns.nd rfl (.inl rfl)) (pgs_cons (pg_name (i := 4) scSigns.nd rfl (.inl rfl)) pgs_nil))) pgs_nil)))
        (pss_one (ps_if (pt_cmpR op_ne (pv 2) pe_str (nomark _))
          (pss_cons (ps_expr (pe_bm PySem.F.plainAttrs_list PySem.F.slot_list_extend PySem.F.type_list_extend mt_extend (pv 1) (pa_cons (pe_op op_cat (pe_lst (pa_cons pe_str (pa_cons (pv 2) pa_nil)))
              (pe_ifExp (pt_cmpR op_notN (pv 3) pe_non (nomark _)) (pe_lst (pa_cons pe_str (pa_cons (pv 3) pa_nil))) (pe_lst pa_nil))) pa_nil)))
          (pss_one (ps_expr (pe_bm PySem.F.plainAttrs_list PySem.F.slot_list_extend PySem.F.type_list_extend mt_extend (pv 1) (pa_cons (pe_call GB hr (by rfl) gB FB.kp bB .nil pass0 (pa_cons (pv 4) pa_nil)) pa_nil)))))
          pss_nil))))
      (pss_cons (ps_lock (ps_for PassesOwn.never rfl (pi_items (pe_dget (hu_of hr) (pv 0) pe_str (fun _ _ => rfl)))
          (pg_tup rfl (pgs_cons (pg_name (i := 2) scSigns.nd rfl (.inl rfl)) (pgs_cons (pg_tup rfl (pgs_cons (pg_name (i := 5) scSigns.nd rfl (.inl rfl)) (pgs_cons (pg_name (i := 6) scSigns.nd rfl (.inl rfl)) pgs_nil))) pgs_nil)))
        (pss_cons (ps_set (i := 7) scSigns.nd rfl (.inl rfl) (pe_join pe_str (pe_lock
            (pe_lc (own := [("_law_field", 9), ("_law_kind", 10)]) (g := gTup K 2 (gCons (gName 9) (gCons (gName 10) gNil))) (tt := tYes) rfl scSigns.nd (pi_items (pv 5))
              (blkOk_by (N := ["_law_book_here", "_law_found", "_law_name", "_law_base", "_law_entries_here", "_law_fields", "_law_items", "_law_heading", "_law_item", "_law_field", "_law_kind", "_law_value_here"]) (sc := defScope sSigns) (by decide +kernel))
              (fun _ _ _ _ _ => pg_tup rfl (pgs_cons (pg_name (i := 9) scSigns.nd rfl (.inl rfl)) (pgs_cons (pg_name (i := 10) scSigns.nd rfl (.inl rfl)) pgs_nil)))
              (fun _ _ _ _ _ => pts_nil)
              (fun _ _ _ _ _ => pe_op op_add_str (pe_op op_add_str (pv 9) pe_str) (pv 10))))))
        (pss_cons (ps_expr (pe_bm PySem.F.plainAttrs_list PySem.F.slot_list_extend PySem.F.type_list_extend mt_extend (pv 1) (pa_cons (pe_lst (pa_cons pe_str (pa_cons (pv 2) (pa_cons pe_str (pa_cons (pv 7) (pa_cons pe_str (pa_cons pe_str pa_nil))))))) pa_nil)))
        (pss_cons (ps_for PassesOwn.never rfl (pi_list (pv 6)) (pg_name (i := 8) scSigns.nd rfl (.inl rfl))
          (pss_one (ps_expr (pe_bm PySem.F.plainAttrs_list PySem.F.slot_list_extend PySem.F.type_list_extend mt_extend (pv 1) (pa_cons (pe_call GB hr (by rfl) gB FB.kp bB .nil pass0
            (pa_cons (pe_callTy (call_dictP rfl) (by rfl) zd (by decide +kernel) (pa_cons (pe_lock
              (pe_lc (own := [("_law_field", 9), ("_law_value_here", 11)]) (g := gTup K 2 (gCons (gName 9) (gCons (gName 11) gNil))) (tt := tYes) rfl scSigns.nd (pi_items (pv 8))
                (blkOk_by (N := ["_law_book_here", "_law_found", "_law_name", "_law_base", "_law_entries_here", "_law_fields", "_law_items", "_law_heading", "_law_item", "_law_field", "_law_kind", "_law_value_here"]) (sc := defScope sSigns) (by decide +kernel))
                (fun _ _ _ _ _ => pg_tup rfl (pgs_cons (pg_name (i := 9) scSigns.nd rfl (.inl rfl)) (pgs_cons (pg_name (i := 11) scSigns.nd rfl (.inl rfl)) pgs_nil)))
                (fun _ _ _ _ _ => pts_nil)
                (fun _ _ _ _ _ => pe_tup (pa_cons (pv 9) (pa_cons (pe_tup (pa_cons pe_str (pa_cons (pv 11) pa_nil))) pa_nil))))) pa_nil)) pa_nil)) pa_nil)))))
        (pss_one (ps_expr (pe_bm PySem.F.plainAttrs_list PySem.F.slot_list_append PySem.F.type_list_append mt_append (pv 1) (pa_cons pe_str pa_nil)))))))))
      (pss_one (ps_ret (pe_op op_cat (pe_op op_cat (pv 1) (pe_lst (pa_cons pe_str pa_nil)))
        (pe_call GB hr (by rfl) gB FB.kp bB .nil pass0 (pa_cons (pe_ix ix_tup (pe_dget (hu_of hr) (pe_dget (hu_of hr) (pv 0) pe_str (fun _ _ => rfl)) pe_str (fun _ _ => rfl)) pe_int (fun _ _ => rfl)) pa_nil))))))), ?_⟩
    have bB1 : K2.bB 1 = 614 := rfl
    have bB2 : K2.bB 2 = 2470 := rfl
    have bB0 : K2.bB 0 = 150 := rfl
    have line24 : sizeLine = 2 ^ 24 := rfl
    refine ⟨Nat.zero_le _, fun L nL => ?_⟩
    obtain ⟨s1, f1, _⟩ := grow (o := .lst []) nL
    have n_bT := bt.nbT
    have n_bL := bt.nbL
    have nLT : L ≠ Tn := (ne_of_none bt.ht nL).symm
    have nLL : L ≠ Ln := (ne_of_none bt.hl nL).symm
    obtain ⟨tt', htt⟩ : ∃ tt', tt' = tt ++ [((Sum.inr "" : Key), v)] := ⟨_, rfl⟩
    have hT : H Tn = some (.dK tt') := by rw [htt]; exact bt.ht
    -- the templates
    refine ⟨Tn, .dK tt', s1 _ _ hT, trivial, fun od => ?_⟩
    refine ⟨.ref bk, rfl, bk, .ref Tn, rfl, bt.tn ▸ DGet.k (k := .inr "templates") (by rw [upd_ne n_bT]; exact s1 _ _ bt.hb), Tn, od, tt', rfl, upd_same, for_it (walk_items (d := Tn) (o := od) (kvs := tt'))
      (fun i σ G => ∃ (o2 o3 o4 o5 o6 o7 o8 o9 o10 o11 : Option V) (ss : List Str), σ = [some (.ref bk), some (.ref L), o2, o3, o4, o5, o6, o7, o8, o9, o10, o11] ∧ (∀ z o, H z = some o → z ≠ Tn → G z = some o) ∧ G Tn = some (.frz od (.dK tt')) ∧ G L = some (.lst (ss.map V.str)) ∧
        (∀ x ∈ ss, SgOk x) ∧ ss.length ≤ 869 * min i tt.length) ?_ (fun i σ G _ ⟨_, _, _, _, _, _, _, _, _, _, _, _, _, z, _⟩ => z) ?_ ?_⟩
    · refine ⟨none, none, none, none, none, none, none, none, none, none, [], rfl, fun z o e n => ?_, upd_same, by rw [upd_ne nLT]; exact f1, fun x h => (List.not_mem_nil h).elim, Nat.zero_le _⟩
      rw [upd_ne n]
      exact s1 _ _ e
    · rintro i x σ G G' hi ⟨o2, o3, o4, o5, o6, o7, o8, o9, o10, o11, ss, rfl, kG, dG, LG, oG, cG⟩ ⟨T, x', y', rfl, nT, rfl, e1, e2⟩
      obtain ⟨kv, hkv⟩ : ∃ kv, tt'[i]? = some kv := ⟨_, List.getElem?_eq_getElem hi⟩
      replace e1 : (tt'[i]?.map fun kv => kV kv.1) = some x' := e1
      replace e2 : tt'[i]?.map Prod.snd = some y' := e2
      rw [hkv] at e1 e2
      cases e1
      cases e2
      have hlen := bt.len
      obtain ⟨sT, fT, _⟩ := grow (o := .tup [kV kv.1, kv.2]) nT
      have k1 : ∀ z o, H z = some o → z ≠ Tn → (upd G T (.tup [kV kv.1, kv.2])) z = some o := fun z o e n => sT _ _ (kG z o e n)
      have d1 := sT _ _ dG
      have L1 := sT _ _ LG
      have tr1 : Tr S H S (upd G T (.tup [kV kv.1, kv.2])) := fun a o h => ⟨h.1, k1 a o h.2 (by rintro rfl; exact h.1 bt.sT)⟩
      by_cases ci : i < tt.length
      · rw [htt, List.getElem?_append_left ci] at hkv
        obtain ⟨⟨s, es, ws⟩, tpl⟩ := bt.tt kv (List.mem_of_getElem? hkv)
        obtain ⟨k0, v0⟩ := kv
        have es : k0 = .inr s := es
        subst es
        obtain ⟨t, p, d, ev, atH, hp, hbd⟩ := tpl
        have at_ := tr1 _ _ atH
        have ev : v0 = .ref t := ev
        subst ev
        have cap : 869 * min (i + 1) tt.length = 869 * min i tt.length + 869 := by
          rw [Nat.min_eq_left (by omega), Nat.min_eq_left (by omega)]
          omega
        have cap2 : 869 * min i tt.length ≤ 2607 := by
          have : min i tt.length ≤ 3 := by omega
          omega
        refine ⟨T, _, rfl, SqT.of fT, rfl, _, _, rfl, _, _, rfl, t, _, rfl, SqT.of at_.2, rfl, _, _, rfl, _, _, rfl, rfl, rfl, ?_⟩
        generalize upd G T (.tup [kV (.inr s), .ref t]) = G1 at k1 d1 L1 at_ ⊢
        refine ⟨.str s, rfl, rfl, _, rfl, ?_⟩
        refine ite2 (fun _ => ?_) (fun e => absurd (by
          rw [str_eq, decide_eq_false]
          · rfl
          · rintro rfl
            exact ws.1 (by decide +kernel)) e)
        refine ⟨.ref L, rfl, .inl ⟨rfl, _, SqL.of L1⟩, .str s, rfl, by show 2 ≤ sizeLine; decide, fun A nA => ?_⟩
        obtain ⟨sA, fA, _⟩ := grow (o := .lst (([Str.ofString "template", s] : List Str).map V.str)) nA
        obtain ⟨n, m, hd, hm⟩ : ∃ n m, (∀ G, Tr S H S G → (n ≤ 3 ∧ BD S G n d ∧ m = K2.bB n) ∨ (n < 3 ∧ ∃ k, DB S G n k d ∧ m = 224 + (27 + K2.bB n) * k)) ∧ m ≤ 865 := by
          rcases hbd with hbd | hbd
          · exact ⟨1, 614, fun G tr => .inl ⟨by decide, BD.mono tr hbd, rfl⟩, by decide⟩
          · exact ⟨1, 865, fun G tr => .inr ⟨by decide, 1, hbd.mono tr, rfl⟩, by decide⟩
        rcases hp with rfl | ⟨bs, rfl, wb⟩
        · refine ⟨.non, rfl, rfl, _, rfl, ?_⟩
          refine ite2 (fun e => absurd e (by decide +kernel)) (fun _ => ?_)
          refine ⟨Nat.zero_le _, fun l5 nl5 => ?_⟩
          obtain ⟨s5, f5, _⟩ := grow (o := .lst (([] : List Str).map V.str)) nl5
          refine ⟨A, l5, _, ([] : List Str).map V.str, rfl, rfl, s5 _ _ fA, f5, by simp only [List.length_map, List.length_cons, List.length_nil]; omega, fun l6 nl6 => ?_⟩
          obtain ⟨s6, f6, _⟩ := grow (o := .lst (([Str.ofString "template", s] : List Str).map V.str ++ ([] : List Str).map V.str)) nl6
          have s16 := sTr (sTr sA s5) s6
          have L6 := s16 _ _ L1
          have d6 := s16 _ _ d1
          have k6 := fun z o (e : H z = some o) (n : z ≠ Tn) => s16 _ _ (k1 z o e n)
          refine ⟨L, l6, _, _, rfl, rfl, L6, f6, by simp only [List.length_append, List.length_map, List.length_cons, List.length_nil]; omega, ?_⟩
          obtain ⟨G3, hG3⟩ : ∃ G3, G3 = upd (upd (upd (upd G1 A (.lst (([Str.ofString "template", s] : List Str).map V.str))) l5 (.lst (([] : List Str).map V.str))) l6 (.lst (([Str.ofString "template", s] : List Str).map V.str ++ ([] : List Str).map V.str))) L (.lst (ss.map V.str ++ (([Str.ofString "template", s] : List Str).map V.str ++ ([] : List Str).map V.str))) := ⟨_, rfl⟩
          have L3 : G3 L = some (.lst ((ss ++ ([Str.ofString "template", s] ++ [])).map V.str)) := by rw [hG3, upd_same, List.map_append, List.map_append]
          have d3 : G3 Tn = some (.frz od (.dK tt')) := by rw [hG3, upd_ne nLT.symm]; exact d6
          have k3 : ∀ z o, H z = some o → z ≠ Tn → G3 z = some o := fun z o e n => by
            rw [hG3, upd_ne (ne_of_none e nL)]
            exact k6 z o e n
          have tr3 : Tr S H S G3 := fun a o h => ⟨h.1, k3 a o h.2 (by rintro rfl; exact h.1 bt.sT)⟩
          have o3' : ∀ y ∈ ss ++ ([Str.ofString "template", s] ++ []), SgOk y := fun y h => by
            simp only [List.mem_append, List.mem_cons, List.not_mem_nil, or_false] at h
            rcases h with h | (rfl | rfl)
            · exact oG y h
            · exact sgB_ok (by decide +kernel)
            · exact wd_ok ws
          have c3' : (ss ++ ([Str.ofString "template", s] ++ [])).length ≤ 869 * min i tt.length + 4 := by
            simp only [List.length_append, List.length_cons, List.length_nil]
            omega
          subst hG3
          generalize ss ++ ([Str.ofString "template", s] ++ []) = ss3 at L3 o3' c3'
          refine ⟨.ref L, rfl, .inl ⟨rfl, _, SqL.of L3⟩, .ref d, rfl, d, S, n, m, rfl, hd _ tr3, by omega, fun G4 l4 s4 n4 ⟨ss4, e4, o4', c4⟩ => ?_⟩
          refine ⟨L, l4, _, _, rfl, rfl, s4 _ _ L3, e4, by simp only [List.length_map]; omega, ?_⟩
          refine ⟨_, _, _, _, _, _, _, _, _, _, ss3 ++ ss4, rfl, fun z o e n => ?_, ?_, by rw [upd_same, List.map_append], fun y h => ?_, by rw [List.length_append]; omega⟩
          · rw [upd_ne (ne_of_none e nL)]
            exact s4 _ _ (k3 z o e n)
          · rw [upd_ne nLT.symm]
            exact s4 _ _ d3
          · rcases List.mem_append.mp h with h | h
            · exact o3' y h
            · exact o4' y h
        · refine ⟨.str bs, rfl, rfl, _, rfl, ?_⟩
          refine ite2 (fun _ => ?_) (fun e => absurd (by rw [decide_eq_false (by intro z; cases z)]; rfl) e)
          refine ⟨.str bs, rfl, by show 2 ≤ sizeLine; decide, fun l5 nl5 => ?_⟩
          obtain ⟨s5, f5, _⟩ := grow (o := .lst (([Str.ofString "=", bs] : List Str).map V.str)) nl5
          refine ⟨A, l5, _, ([Str.ofString "=", bs] : List Str).map V.str, rfl, rfl, s5 _ _ fA, f5, by simp only [List.length_map, List.length_cons, List.length_nil]; omega, fun l6 nl6 => ?_⟩
          obtain ⟨s6, f6, _⟩ := grow (o := .lst (([Str.ofString "template", s] : List Str).map V.str ++ ([Str.ofString "=", bs] : List Str).map V.str)) nl6
          have s16 := sTr (sTr sA s5) s6
          have L6 := s16 _ _ L1
          have d6 := s16 _ _ d1
          have k6 := fun z o (e : H z = some o) (n : z ≠ Tn) => s16 _ _ (k1 z o e n)
          refine ⟨L, l6, _, _, rfl, rfl, L6, f6, by simp only [List.length_append, List.length_map, List.length_cons, List.length_nil]; omega, ?_⟩
          obtain ⟨G3, hG3⟩ : ∃ G3, G3 = upd (upd (upd (upd G1 A (.lst (([Str.ofString "template", s] : List Str).map V.str))) l5 (.lst (([Str.ofString "=", bs] : List Str).map V.str))) l6 (.lst (([Str.ofString "template", s] : List Str).map V.str ++ ([Str.ofString "=", bs] : List Str).map V.str))) L (.lst (ss.map V.str ++ (([Str.ofString "template", s] : List Str).map V.str ++ ([Str.ofString "=", bs] : List Str).map V.str))) := ⟨_, rfl⟩
          have L3 : G3 L = some (.lst ((ss ++ ([Str.ofString "template", s] ++ [Str.ofString "=", bs])).map V.str)) := by rw [hG3, upd_same, List.map_append, List.map_append]
          have d3 : G3 Tn = some (.frz od (.dK tt')) := by rw [hG3, upd_ne nLT.symm]; exact d6
          have k3 : ∀ z o, H z = some o → z ≠ Tn → G3 z = some o := fun z o e n => by
            rw [hG3, upd_ne (ne_of_none e nL)]
            exact k6 z o e n
          have tr3 : Tr S H S G3 := fun a o h => ⟨h.1, k3 a o h.2 (by rintro rfl; exact h.1 bt.sT)⟩
          have o3' : ∀ y ∈ ss ++ ([Str.ofString "template", s] ++ [Str.ofString "=", bs]), SgOk y := fun y h => by
            simp only [List.mem_append, List.mem_cons, List.not_mem_nil, or_false] at h
            rcases h with h | (rfl | rfl) | (rfl | rfl)
            · exact oG y h
            · exact sgB_ok (by decide +kernel)
            · exact wd_ok ws
            · exact sgB_ok (by decide +kernel)
            · exact wd_ok wb
          have c3' : (ss ++ ([Str.ofString "template", s] ++ [Str.ofString "=", bs])).length ≤ 869 * min i tt.length + 4 := by
            simp only [List.length_append, List.length_cons, List.length_nil]
            omega
          subst hG3
          generalize ss ++ ([Str.ofString "template", s] ++ [Str.ofString "=", bs]) = ss3 at L3 o3' c3'
          refine ⟨.ref L, rfl, .inl ⟨rfl, _, SqL.of L3⟩, .ref d, rfl, d, S, n, m, rfl, hd _ tr3, by omega, fun G4 l4 s4 n4 ⟨ss4, e4, o4', c4⟩ => ?_⟩
          refine ⟨L, l4, _, _, rfl, rfl, s4 _ _ L3, e4, by simp only [List.length_map]; omega, ?_⟩
          refine ⟨_, _, _, _, _, _, _, _, _, _, ss3 ++ ss4, rfl, fun z o e n => ?_, ?_, by rw [upd_same, List.map_append], fun y h => ?_, by rw [List.length_append]; omega⟩
          · rw [upd_ne (ne_of_none e nL)]
            exact s4 _ _ (k3 z o e n)
          · rw [upd_ne nLT.symm]
            exact s4 _ _ d3
          · rcases List.mem_append.mp h with h | h
            · exact o3' y h
            · exact o4' y h
      · have ei : i = tt.length := by
          rw [htt, List.length_append, List.length_singleton] at hi
          omega
        have ekv : kv = ((Sum.inr "" : Key), v) := by
          rw [htt, ei, List.getElem?_append_right (Nat.le_refl _), Nat.sub_self] at hkv
          exact (Option.some.inj hkv).symm
        subst ekv
        obtain ⟨t, d, rfl, atH, hdb⟩ := bt.doc
        have at_ := tr1 _ _ atH
        refine ⟨T, _, rfl, SqT.of fT, rfl, _, _, rfl, _, _, rfl, t, _, rfl, SqT.of at_.2, rfl, _, _, rfl, _, _, rfl, rfl, rfl, ?_⟩
        refine ⟨.str "", rfl, rfl, _, rfl, ?_⟩
        refine ite2 (fun e => absurd e (by decide +kernel)) (fun _ => ?_)
        refine ⟨_, _, _, _, _, _, _, _, _, _, ss, rfl, k1, d1, L1, oG, ?_⟩
        rw [Nat.min_eq_right (by omega)] at cG ⊢
        exact cG
    · rintro σ G ⟨o2, o3, o4, o5, o6, o7, o8, o9, o10, o11, ss, rfl, kG, dG, LG, oG, cG⟩
      refine ⟨dG, ?_⟩
      have sF : Same H (upd G Tn (.dK tt')) := lock_same hT kG
      have LF : (upd G Tn (.dK tt')) L = some (.lst (ss.map V.str)) := by rw [upd_ne nLT]; exact LG
      have cF : ss.length ≤ 2607 := by
        have := bt.len
        have : min tt'.length tt.length ≤ 3 := by omega
        omega
      clear kG dG LG cG
      generalize upd G Tn (.dK tt') = GF at sF LF ⊢
      -- the lists
      have hlF := sF _ _ bt.hl
      refine ⟨Ln, .dK ll, hlF, trivial, fun od2 => ?_⟩
      refine ⟨.ref bk, rfl, bk, .ref Ln, rfl, bt.ln ▸ DGet.k (k := .inr "lists") (by rw [upd_ne n_bL]; exact sF _ _ bt.hb), Ln, od2, ll, rfl, upd_same, for_it (walk_items (d := Ln) (o := od2) (kvs := ll))
        (fun i σ G => ∃ (o2 o3 o4 o5 o6 o7 o8 o9 o10 o11 : Option V) (ss : List Str), σ = [some (.ref bk), some (.ref L), o2, o3, o4, o5, o6, o7, o8, o9, o10, o11] ∧ (∀ z o, H z = some o → z ≠ Ln → G z = some o) ∧ G Ln = some (.frz od2 (.dK ll)) ∧ G L = some (.lst (ss.map V.str)) ∧
          (∀ x ∈ ss, SgOk x) ∧ ss.length ≤ 2607 + 457 * i) ?_ (fun i σ G _ ⟨_, _, _, _, _, _, _, _, _, _, _, _, _, z, _⟩ => z) ?_ ?_⟩
      · refine ⟨_, _, _, _, _, _, _, _, _, _, ss, rfl, fun z o e n => ?_, upd_same, by rw [upd_ne nLL]; exact LF, oG, cF⟩
        rw [upd_ne n]
        exact sF _ _ e
      · rintro i x σ G G' hi ⟨o2, o3, o4, o5, o6, o7, o8, o9, o10, o11, ss, rfl, kG, dG, LG, oG, cG⟩ ⟨T, x', y', rfl, nT, rfl, e1, e2⟩
        obtain ⟨kv, hkv⟩ : ∃ kv, ll[i]? = some kv := ⟨_, List.getElem?_eq_getElem hi⟩
        replace e1 : (ll[i]?.map fun kv => kV kv.1) = some x' := e1
        replace e2 : ll[i]?.map Prod.snd = some y' := e2
        rw [hkv] at e1 e2
        cases e1
        cases e2
        have hll2 := bt.ll.1
        have i2 : i < 2 := by omega
        obtain ⟨⟨s, es, ws⟩, t, f, r, fs, rows, ev, atH, afH, fok, arH, rok, lr, fsh⟩ := bt.ll.2 kv (List.mem_of_getElem? hkv)
        obtain ⟨k0, v0⟩ := kv
        have es : k0 = .inr s := es
        have ev : v0 = .ref t := ev
        subst es
        subst ev
        obtain ⟨sT, fT, _⟩ := grow (o := .tup [kV (.inr s), .ref t]) nT
        have k1 : ∀ z o, H z = some o → z ≠ Ln → (upd G T (.tup [kV (.inr s), .ref t])) z = some o := fun z o e n => sT _ _ (kG z o e n)
        have d1 := sT _ _ dG
        have L1 := sT _ _ LG
        have nS : ∀ {a : Addr} {o : HO}, At S H a o → a ≠ Ln := fun {a o} h e => h.1 (e ▸ bt.sL)
        refine ⟨T, _, rfl, SqT.of fT, rfl, _, _, rfl, _, _, rfl, t, _, rfl, SqT.of (k1 _ _ atH.2 (nS atH)), rfl, _, _, rfl, _, _, rfl, rfl, rfl, ?_⟩
        generalize upd G T (.tup [kV (.inr s), .ref t]) = G1 at k1 d1 L1 ⊢
        -- the heading
        have hf1 := k1 _ _ afH.2 (nS afH)
        refine ⟨⟨_, rfl⟩, f, .dK fs, hf1, trivial, fun od3 => ?_⟩
        refine ⟨.ref f, rfl, f, od3, fs, rfl, upd_same, fun D nD => ?_⟩
        have nDf : D ≠ f := by
          rintro rfl
          rw [upd_same] at nD
          cases nD
        have nD1 : G1 D = none := by
          rw [upd_ne nDf] at nD
          exact nD
        obtain ⟨fl1, fl2, fel⟩ := fok
        refine lc_it (walk_items (d := f) (o := od3) (kvs := fs)) (fun j G' => (∀ z u, G1 z = some u → z ≠ f → G' z = some u) ∧ G' f = some (.frz od3 (.dK fs)) ∧ ∃ ys : List Str, G' D = some (.lst (ys.map V.str)) ∧ ys.length = j ∧ ∀ y ∈ ys, PartOf y)
          ⟨fun z u e n1 => by rw [upd_ne (ne_of_none e nD1), upd_ne n1]; exact e, by rw [upd_ne nDf.symm, upd_same], [], upd_same, rfl, fun y h => (List.not_mem_nil h).elim⟩ (fun j G' _ z => z.2.1) ?_ ?_
        · rintro j x G' G'' hj ⟨kA, fA', ys, DA, ly, hy⟩ ⟨T2, x', y', rfl, nT2, rfl, e1, e2⟩
          obtain ⟨kv, hkv2⟩ : ∃ kv, fs[j]? = some kv := ⟨_, List.getElem?_eq_getElem hj⟩
          replace e1 : (fs[j]?.map fun kv => kV kv.1) = some x' := e1
          replace e2 : fs[j]?.map Prod.snd = some y' := e2
          rw [hkv2] at e1 e2
          cases e1
          cases e2
          have short := fsh kv (List.mem_of_getElem? hkv2)
          obtain ⟨fn, fk, efk, wfn, hkd⟩ := fel kv (List.mem_of_getElem? hkv2)
          subst efk
          have ln1 : (cp fn).length ≤ 1 := short fn rfl
          have ln2 := kd_len hkd
          rw [cp_len] at ln1 ln2
          have ln3 : (": " : Str).length = 2 := by decide +kernel
          obtain ⟨sT2, fT2, _⟩ := grow (o := .tup [kV (.inr fn), .str fk]) nT2
          refine ⟨T2, _, rfl, SqT.of fT2, rfl, _, _, rfl, _, _, rfl, rfl, rfl, ?_⟩
          refine ⟨.str fn, rfl, _, _, rfl, rfl, tiny (by omega), .str fk, rfl, _, _, rfl, rfl, tiny (by rw [strLen_append]; omega), ys.map V.str, sT2 _ _ DA, by rw [List.length_map]; exact small1000 (by omega), fun z u e n1 => ?_, ?_, ys ++ [fn ++ ": " ++ fk], by rw [upd_same, List.map_append]; rfl, by rw [List.length_append, ly]; rfl, fun y h => ?_⟩
          · rw [upd_ne (ne_of_none e nD1)]
            exact sT2 _ _ (kA z u e n1)
          · rw [upd_ne nDf.symm]
            exact sT2 _ _ fA'
          · rcases List.mem_append.mp h with h | h
            · exact hy y h
            · rw [List.mem_singleton.mp h]
              exact ⟨fn, fk, rfl, wfn, short fn rfl, hkd⟩
        rintro G' ⟨kA, fA', ys, DA, ly, hy⟩
        refine ⟨fA', ?_⟩
        have s12 : Same G1 (upd G' f (.dK fs)) := lock_same hf1 kA
        have D2 : (upd G' f (.dK fs)) D = some (.lst (ys.map V.str)) := by rw [upd_ne nDf]; exact DA
        have hdok := heading_ok (ys := ys) (by omega) (by omega) hy
        have k2 : ∀ z o, H z = some o → z ≠ Ln → (upd G' f (.dK fs)) z = some o := fun z o e n => s12 _ _ (k1 z o e n)
        have d2 := s12 _ _ d1
        have L2 := s12 _ _ L1
        generalize upd G' f (.dK fs) = G2 at D2 k2 d2 L2 ⊢
        have psum := parts_sum hy
        have lsep : (", " : Str).length = 2 := by decide +kernel
        refine ⟨", ", D, ys, rfl, rfl, .inl (SqL.of D2), by rw [lsep]; omega, ?_⟩
        generalize Txt.join ", " ys = hd at hdok ⊢
        dsimp only
        refine ⟨.ref L, rfl, .inl ⟨rfl, _, SqL.of L2⟩, .str s, rfl, .str _, rfl, by show 6 ≤ sizeLine; decide, fun A nA => ?_⟩
        obtain ⟨sA, fA, _⟩ := grow (o := .lst (([Str.ofString "list", s, Str.ofString "(", hd, Str.ofString ")", Str.ofString "["] : List Str).map V.str)) nA
        have kA : ∀ z o, H z = some o → z ≠ Ln → (upd G2 A (.lst (([Str.ofString "list", s, Str.ofString "(", hd, Str.ofString ")", Str.ofString "["] : List Str).map V.str))) z = some o := fun z o e n => sA _ _ (k2 z o e n)
        have dA := sA _ _ d2
        have LA := sA _ _ L2
        refine ⟨L, A, _, ([Str.ofString "list", s, Str.ofString "(", hd, Str.ofString ")", Str.ofString "["] : List Str).map V.str, rfl, rfl, LA, fA, by simp only [List.length_map, List.length_cons, List.length_nil]; omega, ?_⟩
        obtain ⟨ss3, hss3⟩ : ∃ ss3, ss3 = ss ++ [Str.ofString "list", s, Str.ofString "(", hd, Str.ofString ")", Str.ofString "["] := ⟨_, rfl⟩
        have o3' : ∀ y ∈ ss3, SgOk y := fun y h => by
          rw [hss3] at h
          simp only [List.mem_append, List.mem_cons, List.not_mem_nil, or_false] at h
          rcases h with h | rfl | rfl | rfl | rfl | rfl | rfl
          · exact oG y h
          · exact sgB_ok (by decide +kernel)
          · exact wd_ok ws
          · exact sgB_ok (by decide +kernel)
          · exact hdok
          · exact sgB_ok (by decide +kernel)
          · exact sgB_ok (by decide +kernel)
        have c3' : ss3.length ≤ 2607 + 457 * i + 6 := by
          rw [hss3]
          simp only [List.length_append, List.length_cons, List.length_nil]
          omega
        rw [← List.map_append, ← hss3]
        have L3 : (upd (upd G2 A (.lst [V.str (Str.ofString "list"), V.str s, V.str (Str.ofString "("), V.str hd, V.str (Str.ofString ")"), V.str (Str.ofString "[")])) L (.lst (ss3.map V.str))) L = some (.lst (ss3.map V.str)) := upd_same
        have d3 : (upd (upd G2 A (.lst [V.str (Str.ofString "list"), V.str s, V.str (Str.ofString "("), V.str hd, V.str (Str.ofString ")"), V.str (Str.ofString "[")])) L (.lst (ss3.map V.str))) Ln = some (.frz od2 (.dK ll)) := by
          rw [upd_ne nLL.symm]
          exact dA
        have k3 : ∀ z o, H z = some o → z ≠ Ln → (upd (upd G2 A (.lst [V.str (Str.ofString "list"), V.str s, V.str (Str.ofString "("), V.str hd, V.str (Str.ofString ")"), V.str (Str.ofString "[")])) L (.lst (ss3.map V.str))) z = some o := fun z o e n => by
          rw [upd_ne (ne_of_none e nL)]
          exact kA z o e n
        generalize upd (upd G2 A (.lst [V.str (Str.ofString "list"), V.str s, V.str (Str.ofString "("), V.str hd, V.str (Str.ofString ")"), V.str (Str.ofString "[")])) L (.lst (ss3.map V.str)) = G3 at L3 d3 k3 ⊢
        -- the rows
        refine ⟨.ref r, rfl, r, rfl, ⟨_, SqL.of (k3 _ _ arH.2 (nS arH))⟩, for_list (xs := rows) (fun a σ G => ∃ (o8 o9 o10 o11 : Option V) (ss : List Str), σ = [some (.ref bk), some (.ref L), some (.str s), o3, o4, some (.ref f), some (.ref r), some (.str hd), o8, o9, o10, o11] ∧
          (∀ z o, H z = some o → z ≠ Ln → G z = some o) ∧ G Ln = some (.frz od2 (.dK ll)) ∧ G L = some (.lst (ss.map V.str)) ∧ (∀ x ∈ ss, SgOk x) ∧ ss.length ≤ 2607 + 457 * i + 6 + 150 * a) ?_ ?_ ?_ ?_⟩
        · exact ⟨_, _, _, _, ss3, rfl, k3, d3, L3, o3', c3'⟩
        · rintro a σ G _ ⟨_, _, _, _, _, _, z, _⟩
          exact SqL.of (z _ _ arH.2 (nS arH))
        · rintro a x σ G hx ⟨o8', o9', o10', o11', ss, rfl, kG, dG, LG, oG, cG⟩
          have a3 : a < 3 := by
            have := (List.getElem?_eq_some_iff.mp hx).1
            omega
          obtain ⟨d, kvs, rfl, adH, lkv, hkvs⟩ := rok x (List.mem_of_getElem? hx)
          have hd1 := kG _ _ adH.2 (nS adH)
          refine ⟨.ref L, rfl, .inl ⟨rfl, _, SqL.of LG⟩, ?_⟩
          refine ⟨d, .dK kvs, hd1, trivial, fun od4 => ?_⟩
          refine ⟨.ref d, rfl, d, od4, kvs, rfl, upd_same, fun D nD => ?_⟩
          have nDf : D ≠ d := by
            rintro rfl
            rw [upd_same] at nD
            cases nD
          have nD1 : G D = none := by
            rw [upd_ne nDf] at nD
            exact nD
          refine lc_it (walk_items (d := d) (o := od4) (kvs := kvs)) (fun j G' => (∀ z u, G z = some u → z ≠ d → G' z = some u) ∧ G' d = some (.frz od4 (.dK kvs)) ∧
            ∃ (ps : List Addr) (kws : List (Key × V)), G' D = some (.lst (ps.map V.ref)) ∧ ps.length ≤ j ∧ kws.length ≤ j ∧ Paired (fun p kv => G' p = some (.tup [kV kv.1, kv.2]) ∧ p ≠ D ∧ p ≠ d) ps kws ∧
              ∀ kv ∈ kws, (∃ s, kv.1 = .inr s ∧ Wd s) ∧ ∃ t v, kv.2 = .ref t ∧ G' t = some (.tup [.str "lit", v]) ∧ Lit v ∧ t ≠ D ∧ t ≠ d)
            ⟨fun z u e n1 => by rw [upd_ne (ne_of_none e nD1), upd_ne n1]; exact e, by rw [upd_ne nDf.symm, upd_same], [], [], upd_same, Nat.le_refl _, Nat.le_refl _, .nil, fun kv h => (List.not_mem_nil h).elim⟩ (fun j G' _ z => z.2.1) ?_ ?_
          · rintro j x G' G'' hj ⟨kA, fA', ps, kws, DA, lps, lkws, pA, litA⟩ ⟨T2, x', y', rfl, nT2, rfl, e1, e2⟩
            obtain ⟨kv, hkv2⟩ : ∃ kv, kvs[j]? = some kv := ⟨_, List.getElem?_eq_getElem hj⟩
            replace e1 : (kvs[j]?.map fun kv => kV kv.1) = some x' := e1
            replace e2 : kvs[j]?.map Prod.snd = some y' := e2
            rw [hkv2] at e1 e2
            cases e1
            cases e2
            obtain ⟨⟨fn, efn, wfn⟩, hlit⟩ := hkvs kv (List.mem_of_getElem? hkv2)
            obtain ⟨k0, v0⟩ := kv
            have efn : k0 = .inr fn := efn
            subst efn
            obtain ⟨sT2, fT2, _⟩ := grow (o := .tup [kV (.inr fn), v0]) nT2
            refine ⟨T2, _, rfl, SqT.of fT2, rfl, _, _, rfl, _, _, rfl, rfl, rfl, ?_⟩
            refine ⟨.str fn, rfl, v0, rfl, by show 2 ≤ sizeLine; decide, fun t4 nt4 => ?_⟩
            obtain ⟨s4, f4, _⟩ := grow (o := .tup [.str "lit", v0]) nt4
            refine ⟨by show 2 ≤ sizeLine; decide, fun t5 nt5 => ?_⟩
            obtain ⟨s5, f5, _⟩ := grow (o := .tup [.str fn, .ref t4]) nt5
            have s25 := sTr (sTr sT2 s4) s5
            have D5 := s25 _ _ DA
            have nt4D : t4 ≠ D := (ne_of_none (sT2 _ _ DA) nt4).symm
            have nt4d : t4 ≠ d := (ne_of_none (sT2 _ _ fA') nt4).symm
            have nt5D : t5 ≠ D := (ne_of_none (s4 _ _ (sT2 _ _ DA)) nt5).symm
            have nt5d : t5 ≠ d := (ne_of_none (s4 _ _ (sT2 _ _ fA')) nt5).symm
            refine ⟨ps.map V.ref, D5, by rw [List.length_map]; exact small1000 (by omega), fun z u e n1 => ?_, ?_, ps ++ [t5], kws ++ [(.inr fn, .ref t4)], by rw [upd_same, List.map_append]; rfl, by rw [List.length_append, List.length_singleton]; omega, by rw [List.length_append, List.length_singleton]; omega, ?_, fun kv h => ?_⟩
            · rw [upd_ne (ne_of_none e nD1)]
              exact s25 _ _ (kA z u e n1)
            · rw [upd_ne nDf.symm]
              exact s25 _ _ fA'
            · refine paired_snoc (paired_imp pA fun p kv h => ⟨?_, h.2⟩) ⟨?_, nt5D, nt5d⟩
              · rw [upd_ne h.2.1]
                exact s25 _ _ h.1
              · rw [upd_ne nt5D]
                exact f5
            · rcases List.mem_append.mp h with h | h
              · obtain ⟨g1, t', v', g2, g3, g4, g5, g6⟩ := litA kv h
                exact ⟨g1, t', v', g2, by rw [upd_ne g5]; exact s25 _ _ g3, g4, g5, g6⟩
              · rw [List.mem_singleton.mp h]
                exact ⟨⟨fn, rfl, wfn⟩, t4, v0, rfl, by rw [upd_ne nt4D]; exact s5 _ _ f4, hlit, nt4D, nt4d⟩
          rintro G' ⟨kA, fA', ps, kws, DA, lps, lkws, pA, litA⟩
          refine ⟨fA', ?_⟩
          have s12 : Same G (upd G' d (.dK kvs)) := lock_same hd1 kA
          have D2' : (upd G' d (.dK kvs)) D = some (.lst (ps.map V.ref)) := by rw [upd_ne nDf]; exact DA
          have pL : Paired (fun p kv => SqT K (upd G' d (.dK kvs)) p [kV kv.1, kv.2]) ps kws := paired_imp pA fun p kv h => SqT.of (by rw [upd_ne h.2.2]; exact h.1)
          have litL : ∀ kv ∈ kws, (∃ s, kv.1 = .inr s ∧ Wd s) ∧ ∃ t v, kv.2 = .ref t ∧ (upd G' d (.dK kvs)) t = some (.tup [.str "lit", v]) ∧ Lit v := fun kv h => by
            obtain ⟨g1, t', v', g2, g3, g4, g5, g6⟩ := litA kv h
            exact ⟨g1, t', v', g2, by rw [upd_ne g6]; exact g3, g4⟩
          generalize upd G' d (.dK kvs) = G4 at s12 D2' pL litL ⊢
          refine ⟨D, ps, kws, rfl, SqL.of D2', pL, fun d2 nd2 => ?_⟩
          obtain ⟨s5, f5, _⟩ := grow (o := .dK (mergeK [] kws)) nd2
          have lm := length_mergeK kws []
          rw [List.length_nil] at lm
          have bd : BD (fun _ => False) (upd G4 d2 (.dK (mergeK [] kws))) 0 d2 := by
            refine ⟨mergeK [] kws, ⟨fun z => z, f5⟩, by omega, fun kv h => ?_, fun kv h => ?_⟩
            · rcases mem_merge h with h | h
              · exact (List.not_mem_nil h).elim
              · exact (litL kv h).1
            · rcases mem_merge h with h | h
              · exact (List.not_mem_nil h).elim
              · obtain ⟨_, t', v', g2, g3, g4⟩ := litL kv h
                rw [g2]
                exact .sv _ (.lit t' v' ⟨fun z => z, s5 _ _ g3⟩ g4)
          have s15 := sTr s12 s5
          generalize upd G4 d2 (.dK (mergeK [] kws)) = G5 at bd s15 ⊢
          refine ⟨d2, (fun _ => False), 0, 150, rfl, .inl ⟨by decide, bd, rfl⟩, by decide, fun G6 l6 s6 n6 ⟨ss6, e6, o6', c6⟩ => ?_⟩
          have s16 := sTr s15 s6
          refine ⟨L, l6, _, _, rfl, rfl, s16 _ _ LG, e6, by simp only [List.length_map]; omega, ?_⟩
          refine ⟨_, _, _, _, ss ++ ss6, rfl, fun z o e n => ?_, ?_, by rw [upd_same, List.map_append], fun y h => ?_, by rw [List.length_append]; omega⟩
          · rw [upd_ne (ne_of_none e nL)]
            exact s16 _ _ (kG z o e n)
          · rw [upd_ne nLL.symm]
            exact s16 _ _ dG
          · rcases List.mem_append.mp h with h | h
            · exact oG y h
            · exact o6' y h
        · rintro σ G ⟨o8', o9', o10', o11', ss, rfl, kG, dG, LG, oG, cG⟩
          refine ⟨.ref L, rfl, .inl ⟨rfl, _, SqL.of LG⟩, L, ss.map V.str, _, rfl, rfl, LG, by rw [List.length_map]; omega, ?_⟩
          refine ⟨_, _, _, _, _, _, _, _, _, _, ss ++ [Str.ofString "]"], rfl, fun z o e n => ?_, ?_, by rw [upd_same, List.map_append]; rfl, fun y h => ?_, by rw [List.length_append, List.length_singleton]; omega⟩
          · rw [upd_ne (ne_of_none e nL)]
            exact kG z o e n
          · rw [upd_ne nLL.symm]
            exact dG
          · rcases List.mem_append.mp h with h | h
            · exact oG y h
            · rw [List.mem_singleton.mp h]
              exact sgB_ok (by decide +kernel)
      · rintro σ G ⟨o2, o3, o4, o5, o6, o7, o8, o9, o10, o11, ss, rfl, kG, dG, LG, oG, cG⟩
        refine ⟨dG, ?_⟩
        have sE : Same H (upd G Ln (.dK ll)) := lock_same bt.hl kG
        have LE : (upd G Ln (.dK ll)) L = some (.lst (ss.map V.str)) := by rw [upd_ne nLL]; exact LG
        have hll2 := bt.ll.1
        generalize upd G Ln (.dK ll) = GE at sE LE ⊢
        refine ⟨.ref L, rfl, by show 1 ≤ sizeLine; decide, fun B nB => ?_⟩
        obtain ⟨sB, fB, _⟩ := grow (o := .lst (([Str.ofString "document"] : List Str).map V.str)) nB
        refine ⟨L, B, _, ([Str.ofString "document"] : List Str).map V.str, rfl, rfl, sB _ _ LE, fB, by simp only [List.length_map, List.length_cons, List.length_nil]; omega, fun C nC => ?_⟩
        obtain ⟨sC, fC, _⟩ := grow (o := .lst (ss.map V.str ++ ([Str.ofString "document"] : List Str).map V.str)) nC
        have s0C := sTr (sTr sE sB) sC
        obtain ⟨t, d, rfl, atH, hdb⟩ := bt.doc
        have new : putK tt (.inr "") (.ref t) = tt' := by
          rw [htt]
          refine K2.putK_new fun kv h z => ?_
          obtain ⟨⟨s, es, ws⟩, _⟩ := bt.tt kv h
          rw [es] at z
          have z : s = "" := Sum.inr.inj z
          rw [z] at ws
          exact ws.1 (by decide +kernel)
        have hv : valV tt' (.inr "") = some (.ref t) := by rw [← new, valV_put, if_pos rfl]
        refine ⟨.ref bk, rfl, bk, .ref Tn, rfl, bt.tn ▸ DGet.k (k := .inr "templates") (s0C _ _ bt.hb), Tn, .ref t, rfl, hv ▸ DGet.k (k := .inr "") (s0C _ _ hT), t, _, 1, .ref d, rfl, rfl, SqT.of (s0C _ _ atH.2), atI_nat (j := 1) rfl, d, S, 2, 5218, rfl, .inr ⟨by decide, 2, hdb.mono (tr_same s0C), rfl⟩, by decide, fun G4 l4 s4 n4 ⟨ss4, e4, o4', c4⟩ => ?_⟩
        refine ⟨C, l4, _, _, rfl, rfl, s4 _ _ fC, e4, by simp only [List.length_append, List.length_map, List.length_cons, List.length_nil]; omega, fun l nl => ?_⟩
        obtain ⟨sl, fl, _⟩ := grow (o := .lst (ss.map V.str ++ ([Str.ofString "document"] : List Str).map V.str ++ ss4.map V.str)) nl
        refine q _ l (sTr (sTr s0C s4) sl) (same_free (sTr s0C s4) nl) ⟨ss ++ [Str.ofString "document"] ++ ss4, by rw [List.map_append, List.map_append]; exact fl, fun x h => ?_, by
          show _ ≤ 8800
          simp only [List.length_append, List.length_cons, List.length_nil]
          omega⟩
        rcases List.mem_append.mp h with h | h
        · rcases List.mem_append.mp h with h | h
          · exact oG x h
          · rw [List.mem_singleton.mp h]
            exact sgB_ok (by decide +kernel)
        · exact o4' x h
end
end K2

set_option maxHeartbeats 2000000
/-! The text of a drawn project. -/
namespace K2
open PySem PySem.Spec PyProof.Rows L2

theorem scText : FnScope ["_law_box_here", "_law_book_here", "_law_found", "_law_sign"] ["_law_box_here", "_law_book_here"] (defScope sText) := ⟨rfl, rfl, rfl, by decide +kernel, rfl, by decide +kernel, by decide +kernel⟩
def spText : Sp := fun vs H Q _ => ∃ (b bk Tn Ln : Addr) (S : Addr → Prop) (kvb tt ll : List (Key × V)) (v : V) (c : Int), vs = [.ref b, .ref bk] ∧ Box c H b ∧ c ≤ 80000 ∧ BookT S H bk Tn Ln kvb tt ll v ∧ ∀ H' x, Kept b H H' → Box (c + 8800) H' b →
  Page (cp x) → Q (.str x) H'

structure GapS (g : List Nat) : Prop where
  gap : GapT g
  hd : ∃ y, g.head? = some y ∧ isGap y = true
  lt : ∀ c ∈ g, c < 128
  ln : g.length ≤ 12
theorem gapsT {g : Str} (h : g ∈ ([" ", " ", " ", " ", "\n", "  ", " # note { 1\n"] : List Str)) : GapS (cp g) := by
  have e1 : cp (Str.ofString " ") = [32] := by decide +kernel
  have e2 : cp (Str.ofString "\n") = [10] := by decide +kernel
  have e3 : cp (Str.ofString "  ") = [32, 32] := by decide +kernel
  have e4 : cp (Str.ofString " # note { 1\n") = 32 :: 35 :: ([32, 110, 111, 116, 101, 32, 123, 32, 49] ++ 10 :: []) := by decide +kernel
  have g1 : GapS [32] := ⟨gap_cons (by decide) gap_nil, ⟨32, rfl, by decide⟩, by decide, by decide⟩
  simp only [List.mem_cons, List.not_mem_nil, or_false] at h
  rcases h with rfl | rfl | rfl | rfl | rfl | rfl | rfl
  · rw [e1]; exact g1
  · rw [e1]; exact g1
  · rw [e1]; exact g1
  · rw [e1]; exact g1
  · rw [e2]; exact ⟨gap_cons (by decide) gap_nil, ⟨10, rfl, by decide⟩, by decide, by decide⟩
  · rw [e3]; exact ⟨gap_cons (by decide) (gap_cons (by decide) gap_nil), ⟨32, rfl, by decide⟩, by decide, by decide⟩
  · rw [e4]; exact ⟨gap_cons (by decide) (gap_rem (by decide) gap_nil), ⟨32, rfl, by decide⟩, by decide, by decide⟩
theorem gap_clean {g : List Nat} (h : GapT g) (r : List Nat) : clean (g ++ r) = clean r := by
  have := (sofar_gap h r (fun x y hx _ => nomatch hx)).2
  exact this
theorem sg_step {p s g : List Nat} (hp : ∀ r, clean (p ++ r) = clean r) (hs : Sg s) (hg : GapS g) : ∀ r, clean (p ++ s ++ g ++ r) = clean r := by
  intro r
  obtain ⟨y, hy, hyg⟩ := hg.hd
  rw [List.append_assoc, List.append_assoc, hp, hs (g ++ r) y (by
    cases g with
    | nil => cases hy
    | cons a t => exact hy) hyg, gap_clean hg.gap]

section
variable {P : Program} {w : World} {K : PySem.W.Frag} {mg : Str → Option Value} {base : Heap}
theorem ok_text {f fO fS : Addr} {fd fdO fdS : FuncData} (F : Fun K "_law_text" "_law_text" sText f fd) (Z : Bare mg)
    (FO : Fun K "_law_of" "_law_of" sOf fO fdO) (bO : Binds K fdO ["_law_box_here", "_law_some"] []) (gO : mg "_law_of" = some (.ref fO))
    (GO : FnOk P w K mg base CX0 2 fO fdO ["_law_box_here", "_law_some"] spOf)
    (FS : Fun K "_law_signs" "_law_signs" sSigns fS fdS) (bS : Binds K fdS ["_law_book_here"] []) (gS : mg "_law_signs" = some (.ref fS))
    (GS : FnOk P w K mg base CX0 17 fS fdS ["_law_book_here"] spSigns) :
    FnOk P w K mg base CX0 18 f fd ["_law_box_here", "_law_book_here"] spText := by
  refine F.ok scText (fun vs H Q E h => ?_) (fun cdv A outer s H vs Q E hr h => ?_)
  · obtain ⟨b, bk, Tn, Ln, S, kvb, tt, ll, v, c, rfl, _⟩ := h
    rfl
  · obtain ⟨b, bk, Tn, Ln, S, kvb, tt, ll, v, c, rfl, hb, hc, bt, q⟩ := h
    have hr2 : Room 2 _ := hr.mono (by decide)
    refine ⟨_, pss_cons (ps_set (i := 2) scText.nd rfl (.inl rfl) pe_str)
      (pss_cons (ps_for PassesOwn.never rfl (pi_list (pe_call GS hr (by rfl) gS FS.kp bS .nil pass0 (pa_cons (pv 1) pa_nil))) (pg_name (i := 3) scText.nd rfl (.inl rfl))
        (pss_one (ps_set (i := 2) scText.nd rfl (.inl rfl) (pe_op op_add_str (pe_op op_add_str (pv 2) (pv 3)) (pe_call GO hr2 (by rfl) gO FO.kp bO .nil pass0 (pa_cons (pv 0)
          (pa_cons (pe_lst (pa_cons pe_str (pa_cons pe_str (pa_cons pe_str (pa_cons pe_str (pa_cons pe_str (pa_cons pe_str (pa_cons pe_str pa_nil)))))))) pa_nil)))))))
      (pss_one (ps_ret (pv 2)))), ?_⟩
    refine ⟨.ref bk, rfl, bk, Tn, Ln, S, kvb, tt, ll, v, rfl, bt, fun H1 l s1 nl ⟨ss, el, oss, lss⟩ => ?_⟩
    have b1 := hb.same s1
    have nlb : l ≠ b := hb.ne nl
    have lss : ss.length ≤ 8800 := lss
    refine ⟨l, rfl, ⟨_, SqL.of el⟩, for_list (xs := ss.map V.str) (fun i σ G => ∃ (x : Str) (o3 : Option V), σ = [some (.ref b), some (.ref bk), some (.str x), o3] ∧ Kept b H1 G ∧ Box (c + (i : Int)) G b ∧ (∀ r, clean (cp x ++ r) = clean r) ∧ (∀ d ∈ cp x, d < 128) ∧ (cp x).length ≤ 42 * i) ?_ ?_ ?_ ?_⟩
    · have e0 : cp (Str.ofString "") = [] := by decide +kernel
      refine ⟨Str.ofString "", none, rfl, Kept.refl _ _, b1.le (by rw [Int.natCast_zero]; omega), fun r => by rw [e0]; rfl, fun d h => by rw [e0] at h; exact (List.not_mem_nil h).elim, by rw [e0]; exact Nat.zero_le _⟩
    · rintro i σ G _ ⟨_, _, _, z, _⟩
      exact SqL.of (z _ _ el nlb)
    · rintro i x0 σ G hx ⟨x, o3, rfl, kG, bG, clx, ltx, lnx⟩
      rw [List.getElem?_map] at hx
      obtain ⟨sg, hs, rfl⟩ := Option.map_eq_some_iff.mp hx
      have ok := oss sg (List.mem_of_getElem? hs)
      have hi : i < ss.length := (List.getElem?_eq_some_iff.mp hs).1
      have l1 := ok.ln
      have line24 : sizeLine = 2 ^ 24 := rfl
      have lx2 := lnx
      have ls2 := l1
      rw [cp_len] at lx2 ls2
      refine ⟨.str x, rfl, .str sg, rfl, _, _, rfl, rfl, by omega, .ref b, rfl, by show 7 ≤ sizeLine; decide, fun l4 nl4 => ?_⟩
      obtain ⟨s4, f4, _⟩ := grow (o := .lst (([" ", " ", " ", " ", "\n", "  ", " # note { 1\n"] : List Str).map V.str)) nl4
      refine ⟨b, l4, _, _, rfl, bG.same s4, f4, bG.ne nl4, by decide, by decide, by omega, fun G2 vv kp2 b2 hm => ?_⟩
      obtain ⟨g, hg, rfl⟩ := texts_mem hm
      have gs := gapsT hg
      have lg2 := gs.ln
      rw [cp_len] at lg2
      refine ⟨_, _, rfl, rfl, by rw [strLen_append]; omega, ?_⟩
      refine ⟨x ++ sg ++ g, _, rfl, (kG.trans (sKept s4)).trans kp2, b2.le (by rw [Int.natCast_add]; omega), fun r => ?_, fun d h => ?_, ?_⟩
      · rw [cp_app, cp_app]
        exact sg_step clx ok.sg gs r
      · rw [cp_app, cp_app] at h
        rcases List.mem_append.mp h with h | h
        · rcases List.mem_append.mp h with h | h
          · exact ltx d h
          · exact ok.lt d h
        · exact gs.lt d h
      · rw [cp_app, cp_app, List.length_append, List.length_append]
        have := gs.ln
        omega
    · rintro σ G ⟨x, o3, rfl, kG, bG, clx, ltx, lnx⟩
      rw [List.length_map] at bG lnx
      refine ⟨.str x, rfl, ?_⟩
      refine q G x ((sKept s1).trans kG) (bG.le (by omega)) ⟨by omega, ltx, ?_⟩
      have := clx []
      rw [List.append_nil] at this
      rw [this]
      decide +kernel
end
end K2

set_option maxHeartbeats 4000000
/-! The law itself. -/
namespace K2
open PySem PySem.Spec PyProof.Rows L2 GF

theorem scLaw : FnScope ["_law_script", "_law_k", "_law_box_here", "_law_turn", "_law_page", "_law_due"] ["_law_script"] (defScope sLaw) :=
  ⟨rfl, rfl, rfl, by decide +kernel, rfl, by decide +kernel, by decide +kernel⟩
def spLaw (K : PySem.W.Frag) : Sp := fun vs H Q _ => ∃ (a : Addr) (ns : List Int), vs = [.ref a] ∧ SqL K H a (ns.map V.int) ∧ ns.length ≤ 63 ∧ ∀ H', Q (.bl true) H'

theorem cut_last (xs : List V) : cutV xs none (some (-1)) = xs.take (xs.length - 1) := by
  unfold cutV
  rw [HT.sIx_none, List.drop_zero, Nat.sub_zero]
  congr 1
  show (if (-1 : Int) < 0 then ((-1 : Int) + (xs.length : Int)).toNat else min (-1 : Int).toNat xs.length) = _
  rw [if_pos (by decide)]
  omega
theorem Kept.sameN {b : Addr} {H G : Hp} (k : Kept b H G) (n : ∀ o, H b ≠ some o) : Same H G := fun a o e => k a o e (by rintro rfl; exact n o e)

section
variable {P : Program} {w : World} {K : PySem.W.Frag} {mg : Str → Option Value} {base : Heap}
theorem ok_law {f fX fP fR fT fK fS fL : Addr} {fd fdX fdP fdR fdT fdK fdL : FuncData} (F : Fun K "law" "law" sLaw f fd) (Z : Bare mg)
    (FX : Fun K "_law_box" "_law_box" sBox fX fdX) (bX : Binds K fdX ["_law_script", "_law_k"] []) (gX : mg "_law_box" = some (.ref fX))
    (FP : Fun K "_law_put_together" "_law_put_together" sPut fP fdP) (bP : Binds K fdP ["_law_box_here"] []) (gP : mg "_law_put_together" = some (.ref fP))
    (GP : FnOk P w K mg base CX0 4 fP fdP ["_law_box_here"] spPut)
    (FR : Fun K "_law_right" "_law_right" sRight fR fdR) (bR : Binds K fdR ["_law_box_here", "_law_page", "_law_due"] []) (gR : mg "_law_right" = some (.ref fR))
    (GR : FnG P w K mg base 9 fR fdR ["_law_box_here", "_law_page", "_law_due"] spRight)
    (FT : Fun K "_law_text" "_law_text" sText fT fdT) (bT : Binds K fdT ["_law_box_here", "_law_book_here"] []) (gT : mg "_law_text" = some (.ref fT))
    (GT : FnOk P w K mg base CX0 18 fT fdT ["_law_box_here", "_law_book_here"] spText)
    (FK : Fun K "_law_book" "_law_book" sBook fK fdK) (bK : Binds K fdK ["_law_box_here", "_law_most"] []) (gK : mg "_law_book" = some (.ref fK))
    (GK : FnOk P w K mg base CX0 11 fK fdK ["_law_box_here", "_law_most"] spBook)
    (FL : Fun K "_law_tokens" "_law_tokens" sTokensL fL fdL) (bL : Binds K fdL ["_law_page"] []) (gL : mg "_law_tokens" = some (.ref fL))
    (GL : FnOk P w K mg base CX0 3 fL fdL ["_law_page"] spTL)
    {oc od kV doc pm an cdv ct osl} (look : K.lookup fS = some ⟨oc, od, .func (PySem.W.fnOf "tokens" "tokens" (defArgs sTokens) (defBody sTokens) (defScope sTokens) .none kV doc pm an cdv ct), osl⟩) (code : PySem.W.codeIn K cdv "tokens" = true)
    (keep : PySem.W.keepIn K (.ref fS) = true) (gS : mg "tokens" = some (.ref fS))
    (bS : Binds K (PySem.W.fnOf "tokens" "tokens" (defArgs sTokens) (defBody sTokens) (defScope sTokens) .none kV doc pm an cdv ct) ["text"] [])
    (GS : GFn P w K mg base 4 fS (PySem.W.fnOf "tokens" "tokens" (defArgs sTokens) (defBody sTokens) (defScope sTokens) .none kV doc pm an cdv ct) ["text"] spGTok) :
    FnG P w K mg base 20 f fd ["_law_script"] (spLaw K) := by
  have GX : FnOk P w K mg base CX0 1 fX fdX ["_law_script", "_law_k"] (spBox K) := ok_box FX Z
  refine FnG.mk' F scLaw (fun vs H Q E h => ?_) (fun cdv' A outer s H vs Q E hG hr h => ?_)
  · obtain ⟨a, ns, rfl, _⟩ := h
    rfl
  · obtain ⟨a, ns, rfl, hS, hl, q⟩ := h
    have hr1 : Room 1 _ := hr.mono (by decide)
    have hr3 : Room 3 _ := hr.mono (by decide)
    have hr4 : Room 4 _ := hr.mono (by decide)
    have hr7 := hr.mono (j := 7) (by decide)
    have hr9 : Room 9 _ := hr.mono (by decide)
    have hr11 : Room 11 _ := hr.mono (by decide)
    have hr18 : Room 18 _ := hr.mono (by decide)
    refine ⟨_, pss_cons (ps_for PassesOwn.never rfl (pi_range1 (by rfl) Z.range (pa_cons (pe_callB (call_max2 rfl) (by rfl) Z.max (by decide +kernel) (pa_cons pe_int
            (pa_cons (pe_callB (call_min2 rfl) (by rfl) Z.min (by decide +kernel) (pa_cons pe_int
              (pa_cons (pe_callB call_len_seq (by rfl) Z.len PySem.boot_len (pa_cons (pv 0) pa_nil)) pa_nil))) pa_nil))) pa_nil))
          (pg_name (i := 1) scLaw.nd rfl (.inl rfl))
        (pss_cons (ps_set (i := 2) scLaw.nd rfl (.inl rfl) (pe_call GX hr1 (by rfl) gX FX.kp bX .nil pass0 (pa_cons (pv 0) (pa_cons (pv 1) pa_nil))))
        (pss_cons (ps_for PassesOwn.never rfl (pi_range1 (by rfl) Z.range (pa_cons pe_int pa_nil)) (pg_name (i := 3) scLaw.nd rfl (.inl rfl))
          (pss_cons (ps_asg (pe_call GP hr4 (by rfl) gP FP.kp bP .nil pass0 (pa_cons (pv 2) pa_nil)) (pg_tup rfl (pgs_cons (pg_name (i := 4) scLaw.nd rfl (.inl rfl)) (pgs_cons (pg_name (i := 5) scLaw.nd rfl (.inl rfl)) pgs_nil))))
          (pss_one (ps_if (pt_not (pt_val (pe_callG GR hG hr9 (by rfl) gR FR.kp bR pass0 (pa_cons (pv 2) (pa_cons (pv 4) (pa_cons (pv 5) pa_nil)))))) (pss_one (ps_ret pe_bl)) pss_nil))))
        (pss_cons (ps_set (i := 4) scLaw.nd rfl (.inl rfl) (pe_call GT hr18 (by rfl) gT FT.kp bT .nil pass0 (pa_cons (pv 2) (pa_cons (pe_call GK hr11 (by rfl) gK FK.kp bK .nil pass0 (pa_cons (pv 2) (pa_cons pe_int pa_nil))) pa_nil))))
        (pss_one (ps_if (pt_not (pt_val (pe_callG GR hG hr9 (by rfl) gR FR.kp bR pass0 (pa_cons (pv 2) (pa_cons (pv 4) (pa_cons (pe_slice sl_list (pe_call GL hr3 (by rfl) gL FL.kp bL .nil pass0 (pa_cons (pv 4) pa_nil)) po_none (po_some (pe_un un_neg pe_int))) pa_nil))))))
          (pss_one (ps_ret pe_bl)) pss_nil))))))
      (pss_one (ps_ret (pe_and (pe_cmpR (op_eqD hr.units) (pe_listG (pgen_call GS hr4 (by rfl) gS keep bS .nil (pa_cons pe_str pa_nil)) passes_never noStop_never hr7 (by rfl) Z.list boot_list) (pe_lst pa_nil) (nomark _))
        (pe_one (pe_cmpR (op_eqD hr.units) (pe_listG (pgen_call GS hr4 (by rfl) gS keep bS .nil (pa_cons pe_str pa_nil)) passes_never noStop_never hr7 (by rfl) Z.list boot_list)
          (pe_lst (pa_cons (pe_tup (pa_cons pe_int (pa_cons pe_str pa_nil))) (pa_cons (pe_tup (pa_cons pe_int (pa_cons pe_str pa_nil))) (pa_cons (pe_tup (pa_cons pe_int (pa_cons pe_str pa_nil))) pa_nil)))) (nomark _)))))), ?_⟩
    have line24 : sizeLine = 2 ^ 24 := rfl
    have page_most : ∀ {l : List Nat}, Page l → l.length ≤ most := fun p => Nat.le_trans p.len (by decide)
    refine ⟨.ref a, rfl, a, _, rfl, .inl hS, _, _, rfl, _, _, rfl, _, rfl, ?_⟩
    rw [List.length_map]
    generalize hn : (if (if (ns.length : Int) < 3 then (ns.length : Int) else 3) > 1 then (if (ns.length : Int) < 3 then (ns.length : Int) else 3) else 1) = n
    have n0 : 1 ≤ n ∧ n ≤ 3 := by
      rw [← hn]
      split <;> split <;> omega
    refine ⟨by omega, by omega, for_range (lo := 0) (n := n.toNat) (fun j σ G => ∃ o1 o2 o3 o4 o5, σ = [some (.ref a), o1, o2, o3, o4, o5] ∧ Same H G) ?_ ?_ ?_⟩
    · exact ⟨none, none, none, none, none, rfl, Same.rf H⟩
    · rintro j σ G hj ⟨o1, o2, o3, o4, o5, rfl, sG⟩
      refine ⟨.ref a, rfl, .int (0 + j), rfl, a, ns, 0 + j, rfl, sG.seq hS, by omega, by omega, fun G1 p s1 np bp => ?_⟩
      refine ⟨6, rfl, by decide, by decide, for_range (lo := 0) (n := 6) (fun t σ G' => ∃ o3 o4 o5, σ = [some (.ref a), some (.int (0 + j)), some (.ref p), o3, o4, o5] ∧ Kept p G1 G' ∧ Box (6001 * (t : Int)) G' p) ?_ ?_ ?_⟩
      · exact ⟨_, _, _, rfl, Kept.refl _ _, bp.le (by rw [Int.natCast_zero]; omega)⟩
      · rintro t σ G2 ht ⟨o3, o4, o5, rfl, k2, b2⟩
        refine ⟨.ref p, rfl, p, _, rfl, b2, by omega, fun G3 t' l x ds kp3 b3 ft fl tk pg => ?_⟩
        refine ⟨t', _, rfl, SqT.of ft, rfl, _, _, rfl, _, _, rfl, rfl, ?_⟩
        refine ⟨.ref p, rfl, .str x, rfl, .ref l, rfl, p, l, x, ds, _, rfl, b3, fl, tk, pg, by omega, fun G4 kp4 b4 => ?_⟩
        refine ⟨true, rfl, iteF ?_⟩
        exact ⟨_, _, _, rfl, (k2.trans kp3).trans kp4, b4.le (by rw [Int.natCast_add]; omega)⟩
      · rintro σ G2 ⟨o3, o4, o5, rfl, k2, b2⟩
        refine ⟨.ref p, rfl, .ref p, rfl, p, _, rfl, b2, by decide, fun G3 bk Tn Ln S kvb tt ll v kp3 b3 Sp bt => ?_⟩
        refine ⟨p, bk, Tn, Ln, S, kvb, tt, ll, v, _, rfl, b3, by decide, bt, fun G4 x kp4 b4 pg => ?_⟩
        refine ⟨.ref p, rfl, .str x, rfl, .str x, rfl, x, rfl, pg.cl, page_most pg, fun ys l G5 s5 nl hl tk => ?_⟩
        refine ⟨1, rfl, -1, rfl, l, ys, rfl, SqL.of hl, fun l2 nl2 => ?_⟩
        rw [cut_last]
        obtain ⟨s6, f6, _⟩ := grow (o := .lst (ys.take (ys.length - 1))) nl2
        have tk6 : Toks (upd G5 l2 (.lst (ys.take (ys.length - 1)))) (ys.take (ys.length - 1)) (scan 0 (cp x)) := by
          have e := (tk.mono s6).take (ys.length - 1)
          have le := tk.length
          rw [List.length_append, List.length_singleton] at le
          rw [show ys.length - 1 = (scan 0 (cp x)).length by omega] at e ⊢
          rw [List.take_left' rfl] at e
          exact e
        refine ⟨p, l2, x, _, _, rfl, (b4.same s5).same s6, f6, tk6, pg, by decide, fun G7 kp7 b7 => ?_⟩
        refine ⟨true, rfl, iteF ?_⟩
        have kAll : Kept p G1 G7 := (((k2.trans kp3).trans kp4).trans ((sKept s5).trans (sKept s6))).trans kp7
        refine ⟨_, _, _, _, _, rfl, fun z o e => kAll _ _ (s1 _ _ (sG _ _ e)) ?_⟩
        rintro rfl
        have e2 := sG _ _ e
        rw [np] at e2
        cases e2
    · rintro σ G ⟨o1, o2, o3, o4, o5, rfl, sG⟩
      have e0 : cp (Str.ofString "") = [] := by decide +kernel
      have e3 : cp (Str.ofString "3b\"\"") = [51, 98, 34, 34] := by decide +kernel
      have z3 : scan 0 [51, 98, 34, 34] = [(0, [51]), (1, [98]), (2, [34, 34])] := by decide +kernel
      have z0 : scan 0 [] = [] := by decide +kernel
      refine ⟨Str.ofString "", rfl, by rw [e0]; exact Nat.zero_le _, fun ys5 H5 s5 k5 p5 hp5 => ?_⟩
      rw [e0, z0] at k5
      obtain ⟨s6, f6, _⟩ := grow (o := .lst ys5) hp5
      refine ⟨Nat.zero_le _, fun l7 nl7 => ?_⟩
      obtain ⟨s7, f7, _⟩ := grow (o := .lst []) nl7
      have ok0 : TokOk 0 [] := ⟨fun e h => (List.not_mem_nil h).elim, fun e h => (List.not_mem_nil h).elim, Nat.zero_le _⟩
      refine ⟨listD [], listD [], listD_dp (s7 _ _ f6) ((k5.mono s6).mono s7), listD_dp f7 .nil, shaped_list ok0, shaped_list ok0, true, ?_, iteT ?_⟩
      · rw [SeqAt.eqv_refl _ (SeqAt.canLay_of_shaped (shaped_list ok0))]
      refine ⟨Str.ofString "3b\"\"", rfl, by rw [e3]; decide, fun ys8 H8 s8 k8 p8 hp8 => ?_⟩
      rw [e3, z3] at k8
      obtain ⟨s9, f9, _⟩ := grow (o := .lst ys8) hp8
      refine ⟨by show 2 ≤ sizeLine; decide, fun t1 nt1 => ?_⟩
      obtain ⟨sa, fa, _⟩ := grow (o := .tup [.int 0, .str "3"]) nt1
      refine ⟨by show 2 ≤ sizeLine; decide, fun t2 nt2 => ?_⟩
      obtain ⟨sb, fb, _⟩ := grow (o := .tup [.int 1, .str "b"]) nt2
      refine ⟨by show 2 ≤ sizeLine; decide, fun t3 nt3 => ?_⟩
      obtain ⟨sc, fc, _⟩ := grow (o := .tup [.int 2, .str "\"\""]) nt3
      refine ⟨by show 3 ≤ sizeLine; decide, fun l4 nl4 => ?_⟩
      obtain ⟨sd, fd', _⟩ := grow (o := .lst [.ref t1, .ref t2, .ref t3]) nl4
      have sAll := sTr (sTr (sTr sa sb) sc) sd
      have ok3 : TokOk 4 [(0, [51]), (1, [98]), (2, [34, 34])] := by
        have := scan_tokOk (l := [51, 98, 34, 34]) (by decide)
        rw [z3] at this
        exact this
      have c1 : (Str.ofString "3") = ⟨([51] : List Nat).toArray⟩ := by decide +kernel
      have c2 : (Str.ofString "b") = ⟨([98] : List Nat).toArray⟩ := by decide +kernel
      have c3 : (Str.ofString "\"\"") = ⟨([34, 34] : List Nat).toArray⟩ := by decide +kernel
      have tk : Toks (upd (upd (upd (upd (upd H8 p8 (.lst ys8)) t1 (.tup [.int 0, .str "3"])) t2 (.tup [.int 1, .str "b"])) t3 (.tup [.int 2, .str "\"\""])) l4 (.lst [.ref t1, .ref t2, .ref t3])) [.ref t1, .ref t2, .ref t3] [(0, [51]), (1, [98]), (2, [34, 34])] :=
        .cons ⟨t1, rfl, by rw [← c1]; exact sd _ _ (sc _ _ (sb _ _ fa))⟩ (.cons ⟨t2, rfl, by rw [← c2]; exact sd _ _ (sc _ _ fb)⟩ (.cons ⟨t3, rfl, by rw [← c3]; exact sd _ _ fc⟩ .nil))
      refine ⟨listD _, listD _, listD_dp (sAll _ _ f9) ((k8.mono s9).mono sAll), listD_dp fd' tk, shaped_list ok3, shaped_list ok3, ?_⟩
      rw [SeqAt.eqv_refl _ (SeqAt.canLay_of_shaped (shaped_list ok3))]
      exact q _
end
end K2

set_option maxHeartbeats 4000000
namespace K2
open PySem PySem.Spec PyProof.Rows L2

section
variable {P : Program} {w : World} {K : PySem.W.Frag} {mg mb : Str → Option Value} {k : Nat} {fa a : Addr} {fd : FuncData} {x : Str} {sp : Sp}
  {s₁ : Shared} {vs : List Value} {ns : List Int}

/-- the law's call from an abstract heap that tracks the script alone, or nothing -/
theorem from_heap (KX : K.In s₁.heap) (hns : s₁.heap.Ns mainGlobals mg) (hb : s₁.heap.Ns builtinsNs mb)
    (hbb : ∀ y : Str, y ≠ "__name__" → mb y = bootBuiltins y) (nol : s₁.heap.NoLimit) (gens : s₁.gens = #[])
    (obj : s₁.heap.get? a = some { cls := .type "list", data := .seq vs.toArray }) (room : Room k callerA)
    (F : ∀ base : Heap, K.In base → base.Ns mainGlobals mg → FnG P w K mg base k fa fd [x] sp)
    (bd : ∀ (s : Shared) (u : Value), BindsTo s fd ⟨[u], []⟩ [(x, u)]) (H : Hp)
    (only : ∀ b, H b = none ∨ (b = a ∧ K.lookup a = none ∧ ∃ o xs, H b = some (.frz o (.lst xs)))) (ok : HOk P w H s₁.heap)
    (want : sp [.ref a] H (fun v _ => v = .bl true) fun _ _ _ => False) :
    codeAny (model P w) callerA (.call (.ref fa) ⟨[.ref a], []⟩)
      (fun r s' => r = .ok (.ret (.bool true)) ∧ OldK s₁.heap s'.heap ∧ s'.os = s₁.os ∧ AllBare s'.gens) s₁ := by
  -- what stands in the heap and is not tracked stands in the base, too
  have stay : ∀ {b : Addr} {o : Obj}, s₁.heap.get? b = some o → H b = none → (hidT s₁.heap H).get? b = some o := fun h n => hidT_get h n
  have dict : ∀ {b : Addr} {o : Obj} {es : Array DictEntry} {ep : Nat}, s₁.heap.get? b = some o → o.data = .dict es ep → H b = none := by
    intro b o es ep h d
    rcases only b with z | ⟨rfl, _⟩
    · exact z
    · rw [obj] at h
      cases h
      exact absurd d (by intro q; cases q)
  have names : ∀ {b : Addr} {m : Str → Option Value}, s₁.heap.Ns b m → (hidT s₁.heap H).Ns b m := by
    rintro b m ⟨o, es, ep, h, d, r⟩
    exact ⟨o, es, ep, stay h (dict h d), d, r⟩
  have kin : K.In (hidT s₁.heap H) := fun b o h => by
    refine stay (KX b o h) ?_
    rcases only b with z | ⟨rfl, n, _⟩
    · exact z
    · rw [n] at h
      cases h
  obtain ⟨mc, c1, c2⟩ := nol
  have mod : Mod K mg (hidT s₁.heap H) := ⟨kin, names hns, ⟨mb, names hb, hbb⟩, ⟨mc, names c1, c2⟩⟩
  have e0 : Env0 P w K mg (hidT s₁.heap H) callerA [] s₁ H := by
    refine ⟨rfl, mod, fun b o h => of_hidT h, Nat.le_of_eq (hidT_size _ _), trivial, fun b h => ?_, ok, .of_eq gens⟩
    exact absurd (show b ∈ ([] : List Addr) from h) List.not_mem_nil
  refine codeAny_mono ((F _ kin (names hns)).run callerA [] s₁ H ⟨[.ref a], []⟩ [.ref a] [.ref a] _ _ rfl room e0
    (bd s₁ (.ref a)) (.cons rfl .nil) want) ?_
  rintro (⟨e⟩ | ⟨fl⟩) s' h
  · exact False.elim h
  · rcases fl with _ | _ | _ | u
    · exact False.elim h
    · exact False.elim h
    · exact False.elim h
    · obtain ⟨v, H', os, bare, un, ok', r', q⟩ := h
      obtain rfl : v = .bl true := q
      obtain rfl : u = Value.bool true := r'
      refine ⟨rfl, OldK.of_keep fun b o h => ?_, os, bare⟩
      rcases only b with z | ⟨rfl, _, ob, xs, z⟩
      · exact un.keep b o h z (fun y => absurd (show b ∈ ([] : List Addr) from y) List.not_mem_nil) List.not_mem_nil
      · have z2 := un.frzs b ob _ z
        obtain ⟨e1, _⟩ := ok b _ z
        obtain ⟨e2, _⟩ := ok' b _ z2
        rw [h] at e1
        cases e1
        exact e2

/-- the same from the script alone -/
theorem from_script (KX : K.In s₁.heap) (hns : s₁.heap.Ns mainGlobals mg) (hb : s₁.heap.Ns builtinsNs mb)
    (hbb : ∀ y : Str, y ≠ "__name__" → mb y = bootBuiltins y) (nol : s₁.heap.NoLimit) (gens : s₁.gens = #[])
    (obj : s₁.heap.get? a = some { cls := .type "list", data := .seq vs.toArray }) (nums : IntsAre vs ns) (len : ns.length ≤ sizeLine)
    (room : Room k callerA) (F : ∀ base : Heap, K.In base → base.Ns mainGlobals mg → FnG P w K mg base k fa fd [x] sp)
    (bd : ∀ (s : Shared) (u : Value), BindsTo s fd ⟨[u], []⟩ [(x, u)])
    (want : ∀ H : Hp, SqL K H a (ns.map V.int) → sp [.ref a] H (fun v _ => v = .bl true) fun _ _ _ => False) :
    codeAny (model P w) callerA (.call (.ref fa) ⟨[.ref a], []⟩)
      (fun r s' => r = .ok (.ret (.bool true)) ∧ OldK s₁.heap s'.heap ∧ s'.os = s₁.os ∧ AllBare s'.gens) s₁ := by
  have rel := vals_ints nums
  have size := nums.length
  cases kl : K.lookup a with
  | some o =>
    have e := KX a o kl
    rw [obj] at e
    cases e
    refine from_heap KX hns hb hbb nol gens obj room F bd (fun _ => none) (fun b => .inl rfl) (fun b u z => by cases (show (none : Option HO) = some u from z))
      (want _ (.inr ⟨_, vs.toArray, _, kl, rfl, rfl, rfl, ?_, by simpa using rel⟩))
    rw [List.size_toArray, size]
    exact len
  | none =>
    refine from_heap KX hns hb hbb nol gens obj room F bd
      (fun b => if b = a then some (.frz { cls := .type "list", data := .seq vs.toArray } (.lst (ns.map V.int))) else none) (fun b => ?_) (fun b u z => ?_)
      (want _ (.inl (.inr ⟨{ cls := .type "list", data := .seq vs.toArray }, if_pos rfl⟩)))
    · by_cases h : b = a
      · exact .inr ⟨h, kl, _, _, if_pos h⟩
      · exact .inl (if_neg h)
    · by_cases h : b = a
      · have z2 := (if_pos h).symm.trans z
        cases z2
        subst h
        exact ⟨obj, by rw [List.length_map]; exact len, vs, _, rel, obj⟩
      · have z2 := (if_neg h).symm.trans z
        cases z2
end

theorem walkG {l : PySem.W.OpenLaw} {n k : Nat} {q : Program} {loose : List Str} {XP : (Str → Option Value) → Heap → Prop}
    {YP : World → Heap → Prop} {d : DefRec} {K : Params → PySem.W.Frag} {sp : PySem.W.Frag → Sp} {x : Str}
    (most : l.most = some n) (small : n ≤ sizeLine) (plain : d.params.defaults = []) (room : Room k callerA)
    (hY : ∀ (w : World) (h : Heap), YP w h → (K w.params).In h)
    (F : ∀ (w : World) (mg : Str → Option Value) (fa : Addr) (h : Heap), (K w.params).In h → h.Ns mainGlobals mg → mg d.name = some (.ref fa) →
      ∃ fd : FuncData, (∀ (s : Shared) (u : Value), BindsTo s fd ⟨[u], []⟩ [(x, u)]) ∧
        ∀ base : Heap, (K w.params).In base → base.Ns mainGlobals mg → FnG l.prog w (K w.params) mg base k fa fd [x] (sp (K w.params)))
    (want : ∀ (K : PySem.W.Frag) (H : Hp) (a : Addr) (ns : List Int), ns.length ≤ n → SqL K H a (ns.map V.int) →
      sp K [.ref a] H (fun v _ => v = .bl true) fun _ _ _ => False) :
    PySem.W.WalkO q loose XP YP l.row.toRowW d [] (fun f vs => PySem.call f vs) := by
  refine Att.attach_call most plain fun w s₀ s₁ mg mb fa o pm cd doc a vs ns G Y ho hd hcd hmg obj nums len gens => ?_
  have KX := hY w _ Y
  obtain ⟨fd, bd, FF⟩ := F w mg fa _ KX G.T.g hmg
  exact from_script KX G.T.g G.T.b G.T.builtins G.T.nolimit gens obj nums (Nat.le_trans len small) room FF bd fun H hS => want _ H a ns len hS

theorem fn_none5 {P : Program} {w : World} {K : PySem.W.Frag} {mg : Str → Option Value} {base : Heap} {f : Addr} {fd : FuncData} {ps : List Str} : FnOk P w K mg base CX0 (5 + 0) f fd ps (spPrev 0) :=
  ⟨fun _ _ _ _ h => False.elim h, fun _ _ _ _ _ _ _ _ _ _ _ _ _ h => False.elim h⟩
/-! ### what the top has written -/
theorem all_mk {l : PySem.W.OpenLaw} {w : World} {K : PySem.W.Frag} {h : Heap} {mg : Str → Option Value} {fa : Addr} (X : K.In h)
    (G : h.Ns mainGlobals mg) (hfa : mg "law" = some (.ref fa)) {f6 f7 f8 f9 f10 f11 f12 f14 f15 f16 f17 f18 f19 f20 f21 f22 f23 f24 f25 f26 f27 f28 f29 f30 f31 f32 f33 f34 f35 f36 f37 : Addr}
    {od6 od7 od8 od9 od10 od11 od12 od14 od15 od16 od17 od18 od19 od20 od21 od22 od23 od24 od25 od26 od27 od28 od29 od30 od31 od32 od33 od34 od35 od36 od37 an6 an7 an8 an9 an10 an11 an12 an14 an15 an16 an17 an18 an19 an20 an21 an22 an23 an24 an25 an26 an27 an28 an29 an30 an31 an32 an33 an34 an35 an36 an37 : Option Addr}
    {sl6 sl7 sl8 sl9 sl10 sl11 sl12 sl14 sl15 sl16 sl17 sl18 sl19 sl20 sl21 sl22 sl23 sl24 sl25 sl26 sl27 sl28 sl29 sl30 sl31 sl32 sl33 sl34 sl35 sl36 sl37 : Array (Option Value)}
    {oc6 oc7 oc8 oc9 oc10 oc11 oc12 oc14 oc15 oc16 oc17 oc18 oc19 oc20 oc21 oc22 oc23 oc24 oc25 oc26 oc27 oc28 oc29 oc30 oc31 oc32 oc33 oc34 oc35 oc36 oc37 kV6 kV7 kV8 kV9 kV10 kV11 kV12 kV14 kV15 kV16 kV17 kV18 kV19 kV20 kV21 kV22 kV23 kV24 kV25 kV26 kV27 kV28 kV29 kV30 kV31 kV32 kV33 kV34 kV35 kV36 kV37 dc6 dc7 dc8 dc9 dc10 dc11 dc12 dc14 dc15 dc16 dc17 dc18 dc19 dc20 dc21 dc22 dc23 dc24 dc25 dc26 dc27 dc28 dc29 dc30 dc31 dc32 dc33 dc34 dc35 dc36 dc37 pm6 pm7 pm8 pm9 pm10 pm11 pm12 pm14 pm15 pm16 pm17 pm18 pm19 pm20 pm21 pm22 pm23 pm24 pm25 pm26 pm27 pm28 pm29 pm30 pm31 pm32 pm33 pm34 pm35 pm36 pm37 cd6 cd7 cd8 cd9 cd10 cd11 cd12 cd14 cd15 cd16 cd17 cd18 cd19 cd20 cd21 cd22 cd23 cd24 cd25 cd26 cd27 cd28 cd29 cd30 cd31 cd32 cd33 cd34 cd35 cd36 cd37 ct6 ct7 ct8 ct9 ct10 ct11 ct12 ct14 ct15 ct16 ct17 ct18 ct19 ct20 ct21 ct22 ct23 ct24 ct25 ct26 ct27 ct28 ct29 ct30 ct31 ct32 ct33 ct34 ct35 ct36 ct37 : Value}
    {t1 t2 t3 t4 t5 : Tok}
    (a6 : PySem.W.nsIn K mainGlobals "is_inner" = some (some (.ref f6)))
    (l6 : K.lookup f6 = some ⟨oc6, od6, .func (PySem.W.fnOf "is_inner" "is_inner" (defArgs sInner) (defBody sInner) (defScope sInner) .none kV6 dc6 pm6 an6 cd6 ct6), sl6⟩)
    (c6 : PySem.W.codeIn K cd6 "is_inner" = true) (k6 : PySem.W.keepIn K (.ref f6) = true)
    (a7 : PySem.W.nsIn K mainGlobals "tokens" = some (some (.ref f7)))
    (l7 : K.lookup f7 = some ⟨oc7, od7, .func (PySem.W.fnOf "tokens" "tokens" (defArgs sTokens) (defBody sTokens) (defScope sTokens) .none kV7 dc7 pm7 an7 cd7 ct7), sl7⟩)
    (c7 : PySem.W.codeIn K cd7 "tokens" = true) (k7 : PySem.W.keepIn K (.ref f7) = true)
    (a8 : PySem.W.nsIn K mainGlobals "next_start" = some (some (.ref f8)))
    (l8 : K.lookup f8 = some ⟨oc8, od8, .func (PySem.W.fnOf "next_start" "next_start" (defArgs sNext) (defBody sNext) (defScope sNext) .none kV8 dc8 pm8 an8 cd8 ct8), sl8⟩)
    (c8 : PySem.W.codeIn K cd8 "next_start" = true) (k8 : PySem.W.keepIn K (.ref f8) = true)
    (a9 : PySem.W.nsIn K mainGlobals "line_end" = some (some (.ref f9)))
    (l9 : K.lookup f9 = some ⟨oc9, od9, .func (PySem.W.fnOf "line_end" "line_end" (defArgs sLine) (defBody sLine) (defScope sLine) .none kV9 dc9 pm9 an9 cd9 ct9), sl9⟩)
    (c9 : PySem.W.codeIn K cd9 "line_end" = true) (k9 : PySem.W.keepIn K (.ref f9) = true)
    (a10 : PySem.W.nsIn K mainGlobals "token_end" = some (some (.ref f10)))
    (l10 : K.lookup f10 = some ⟨oc10, od10, .func (PySem.W.fnOf "token_end" "token_end" (defArgs sEnd) (defBody sEnd) (defScope sEnd) .none kV10 dc10 pm10 an10 cd10 ct10), sl10⟩)
    (c10 : PySem.W.codeIn K cd10 "token_end" = true) (k10 : PySem.W.keepIn K (.ref f10) = true)
    (a11 : PySem.W.nsIn K mainGlobals "run_end" = some (some (.ref f11)))
    (l11 : K.lookup f11 = some ⟨oc11, od11, .func (PySem.W.fnOf "run_end" "run_end" (defArgs sRun) (defBody sRun) (defScope sRun) .none kV11 dc11 pm11 an11 cd11 ct11), sl11⟩)
    (c11 : PySem.W.codeIn K cd11 "run_end" = true) (k11 : PySem.W.keepIn K (.ref f11) = true)
    (a12 : PySem.W.nsIn K mainGlobals "string_end" = some (some (.ref f12)))
    (l12 : K.lookup f12 = some ⟨oc12, od12, .func (PySem.W.fnOf "string_end" "string_end" (defArgs sStrEnd) (defBody sStrEnd) (defScope sStrEnd) .none kV12 dc12 pm12 an12 cd12 ct12), sl12⟩)
    (c12 : PySem.W.codeIn K cd12 "string_end" = true) (k12 : PySem.W.keepIn K (.ref f12) = true)
    (a14 : PySem.W.nsIn K mainGlobals "_law_box" = some (some (.ref f14)))
    (l14 : K.lookup f14 = some ⟨oc14, od14, .func (PySem.W.fnOf "_law_box" "_law_box" (defArgs sBox) (defBody sBox) (defScope sBox) .none kV14 dc14 pm14 an14 cd14 ct14), sl14⟩)
    (c14 : PySem.W.codeIn K cd14 "_law_box" = true) (k14 : PySem.W.keepIn K (.ref f14) = true)
    (a15 : PySem.W.nsIn K mainGlobals "_law_take" = some (some (.ref f15)))
    (l15 : K.lookup f15 = some ⟨oc15, od15, .func (PySem.W.fnOf "_law_take" "_law_take" (defArgs sTake) (defBody sTake) (defScope sTake) .none kV15 dc15 pm15 an15 cd15 ct15), sl15⟩)
    (c15 : PySem.W.codeIn K cd15 "_law_take" = true) (k15 : PySem.W.keepIn K (.ref f15) = true)
    (a16 : PySem.W.nsIn K mainGlobals "_law_of" = some (some (.ref f16)))
    (l16 : K.lookup f16 = some ⟨oc16, od16, .func (PySem.W.fnOf "_law_of" "_law_of" (defArgs sOf) (defBody sOf) (defScope sOf) .none kV16 dc16 pm16 an16 cd16 ct16), sl16⟩)
    (c16 : PySem.W.codeIn K cd16 "_law_of" = true) (k16 : PySem.W.keepIn K (.ref f16) = true)
    (a17 : PySem.W.nsIn K mainGlobals "_law_plain" = some (some (.ref f17)))
    (l17 : K.lookup f17 = some ⟨oc17, od17, .func (PySem.W.fnOf "_law_plain" "_law_plain" (defArgs sPlain) (defBody sPlain) (defScope sPlain) .none kV17 dc17 pm17 an17 cd17 ct17), sl17⟩)
    (c17 : PySem.W.codeIn K cd17 "_law_plain" = true) (k17 : PySem.W.keepIn K (.ref f17) = true)
    (a18 : PySem.W.nsIn K mainGlobals "_law_simple" = some (some (.ref f18)))
    (l18 : K.lookup f18 = some ⟨oc18, od18, .func (PySem.W.fnOf "_law_simple" "_law_simple" (defArgs sSimple) (defBody sSimple) (defScope sSimple) .none kV18 dc18 pm18 an18 cd18 ct18), sl18⟩)
    (c18 : PySem.W.codeIn K cd18 "_law_simple" = true) (k18 : PySem.W.keepIn K (.ref f18) = true)
    (a19 : PySem.W.nsIn K mainGlobals "_law_value" = some (some (.ref f19)))
    (l19 : K.lookup f19 = some ⟨oc19, od19, .func (PySem.W.fnOf "_law_value" "_law_value" (defArgs sValue) (defBody sValue) (defScope sValue) .none kV19 dc19 pm19 an19 cd19 ct19), sl19⟩)
    (c19 : PySem.W.codeIn K cd19 "_law_value" = true) (k19 : PySem.W.keepIn K (.ref f19) = true)
    (a20 : PySem.W.nsIn K mainGlobals "_law_paths" = some (some (.ref f20)))
    (l20 : K.lookup f20 = some ⟨oc20, od20, .func (PySem.W.fnOf "_law_paths" "_law_paths" (defArgs sPaths) (defBody sPaths) (defScope sPaths) .none kV20 dc20 pm20 an20 cd20 ct20), sl20⟩)
    (c20 : PySem.W.codeIn K cd20 "_law_paths" = true) (k20 : PySem.W.keepIn K (.ref f20) = true)
    (a21 : PySem.W.nsIn K mainGlobals "_law_body" = some (some (.ref f21)))
    (l21 : K.lookup f21 = some ⟨oc21, od21, .func (PySem.W.fnOf "_law_body" "_law_body" (defArgs sBody) (defBody sBody) (defScope sBody) .none kV21 dc21 pm21 an21 cd21 ct21), sl21⟩)
    (c21 : PySem.W.codeIn K cd21 "_law_body" = true) (k21 : PySem.W.keepIn K (.ref f21) = true)
    (a22 : PySem.W.nsIn K mainGlobals "_law_loop" = some (some (.ref f22)))
    (l22 : K.lookup f22 = some ⟨oc22, od22, .func (PySem.W.fnOf "_law_loop" "_law_loop" (defArgs sLoop) (defBody sLoop) (defScope sLoop) .none kV22 dc22 pm22 an22 cd22 ct22), sl22⟩)
    (c22 : PySem.W.codeIn K cd22 "_law_loop" = true) (k22 : PySem.W.keepIn K (.ref f22) = true)
    (a23 : PySem.W.nsIn K mainGlobals "_law_entries" = some (some (.ref f23)))
    (l23 : K.lookup f23 = some ⟨oc23, od23, .func (PySem.W.fnOf "_law_entries" "_law_entries" (defArgs sEntries) (defBody sEntries) (defScope sEntries) .none kV23 dc23 pm23 an23 cd23 ct23), sl23⟩)
    (c23 : PySem.W.codeIn K cd23 "_law_entries" = true) (k23 : PySem.W.keepIn K (.ref f23) = true)
    (a24 : PySem.W.nsIn K mainGlobals "_law_book" = some (some (.ref f24)))
    (l24 : K.lookup f24 = some ⟨oc24, od24, .func (PySem.W.fnOf "_law_book" "_law_book" (defArgs sBook) (defBody sBook) (defScope sBook) .none kV24 dc24 pm24 an24 cd24 ct24), sl24⟩)
    (c24 : PySem.W.codeIn K cd24 "_law_book" = true) (k24 : PySem.W.keepIn K (.ref f24) = true)
    (a25 : PySem.W.nsIn K mainGlobals "_law_literal_signs" = some (some (.ref f25)))
    (l25 : K.lookup f25 = some ⟨oc25, od25, .func (PySem.W.fnOf "_law_literal_signs" "_law_literal_signs" (defArgs sLitS) (defBody sLitS) (defScope sLitS) .none kV25 dc25 pm25 an25 cd25 ct25), sl25⟩)
    (c25 : PySem.W.codeIn K cd25 "_law_literal_signs" = true) (k25 : PySem.W.keepIn K (.ref f25) = true)
    (a26 : PySem.W.nsIn K mainGlobals "_law_value_signs" = some (some (.ref f26)))
    (l26 : K.lookup f26 = some ⟨oc26, od26, .func (PySem.W.fnOf "_law_value_signs" "_law_value_signs" (defArgs sValS) (defBody sValS) (defScope sValS) .none kV26 dc26 pm26 an26 cd26 ct26), sl26⟩)
    (c26 : PySem.W.codeIn K cd26 "_law_value_signs" = true) (k26 : PySem.W.keepIn K (.ref f26) = true)
    (a27 : PySem.W.nsIn K mainGlobals "_law_body_signs" = some (some (.ref f27)))
    (l27 : K.lookup f27 = some ⟨oc27, od27, .func (PySem.W.fnOf "_law_body_signs" "_law_body_signs" (defArgs sBodyS) (defBody sBodyS) (defScope sBodyS) .none kV27 dc27 pm27 an27 cd27 ct27), sl27⟩)
    (c27 : PySem.W.codeIn K cd27 "_law_body_signs" = true) (k27 : PySem.W.keepIn K (.ref f27) = true)
    (a28 : PySem.W.nsIn K mainGlobals "_law_signs" = some (some (.ref f28)))
    (l28 : K.lookup f28 = some ⟨oc28, od28, .func (PySem.W.fnOf "_law_signs" "_law_signs" (defArgs sSigns) (defBody sSigns) (defScope sSigns) .none kV28 dc28 pm28 an28 cd28 ct28), sl28⟩)
    (c28 : PySem.W.codeIn K cd28 "_law_signs" = true) (k28 : PySem.W.keepIn K (.ref f28) = true)
    (a29 : PySem.W.nsIn K mainGlobals "_law_text" = some (some (.ref f29)))
    (l29 : K.lookup f29 = some ⟨oc29, od29, .func (PySem.W.fnOf "_law_text" "_law_text" (defArgs sText) (defBody sText) (defScope sText) .none kV29 dc29 pm29 an29 cd29 ct29), sl29⟩)
    (c29 : PySem.W.codeIn K cd29 "_law_text" = true) (k29 : PySem.W.keepIn K (.ref f29) = true)
    (a30 : PySem.W.nsIn K mainGlobals "_law_string_end" = some (some (.ref f30)))
    (l30 : K.lookup f30 = some ⟨oc30, od30, .func (PySem.W.fnOf "_law_string_end" "_law_string_end" (defArgs sStrEndL) (defBody sStrEndL) (defScope sStrEndL) .none kV30 dc30 pm30 an30 cd30 ct30), sl30⟩)
    (c30 : PySem.W.codeIn K cd30 "_law_string_end" = true) (k30 : PySem.W.keepIn K (.ref f30) = true)
    (a31 : PySem.W.nsIn K mainGlobals "_law_token_end" = some (some (.ref f31)))
    (l31 : K.lookup f31 = some ⟨oc31, od31, .func (PySem.W.fnOf "_law_token_end" "_law_token_end" (defArgs sTokEndL) (defBody sTokEndL) (defScope sTokEndL) .none kV31 dc31 pm31 an31 cd31 ct31), sl31⟩)
    (c31 : PySem.W.codeIn K cd31 "_law_token_end" = true) (k31 : PySem.W.keepIn K (.ref f31) = true)
    (a32 : PySem.W.nsIn K mainGlobals "_law_tokens" = some (some (.ref f32)))
    (l32 : K.lookup f32 = some ⟨oc32, od32, .func (PySem.W.fnOf "_law_tokens" "_law_tokens" (defArgs sTokensL) (defBody sTokensL) (defScope sTokensL) .none kV32 dc32 pm32 an32 cd32 ct32), sl32⟩)
    (c32 : PySem.W.codeIn K cd32 "_law_tokens" = true) (k32 : PySem.W.keepIn K (.ref f32) = true)
    (a33 : PySem.W.nsIn K mainGlobals "_law_token" = some (some (.ref f33)))
    (l33 : K.lookup f33 = some ⟨oc33, od33, .func (PySem.W.fnOf "_law_token" "_law_token" (defArgs sToken) (defBody sToken) (defScope sToken) .none kV33 dc33 pm33 an33 cd33 ct33), sl33⟩)
    (c33 : PySem.W.codeIn K cd33 "_law_token" = true) (k33 : PySem.W.keepIn K (.ref f33) = true)
    (a34 : PySem.W.nsIn K mainGlobals "_law_parts" = some (some (.ref f34)))
    (l34 : K.lookup f34 = some ⟨oc34, od34, .func (PySem.W.fnOf "_law_parts" "_law_parts" (defArgs sParts) (defBody sParts) (defScope sParts) .none kV34 dc34 pm34 an34 cd34 ct34), sl34⟩)
    (c34 : PySem.W.codeIn K cd34 "_law_parts" = true) (k34 : PySem.W.keepIn K (.ref f34) = true)
    (a35 : PySem.W.nsIn K mainGlobals "_law_put_together" = some (some (.ref f35)))
    (l35 : K.lookup f35 = some ⟨oc35, od35, .func (PySem.W.fnOf "_law_put_together" "_law_put_together" (defArgs sPut) (defBody sPut) (defScope sPut) .none kV35 dc35 pm35 an35 cd35 ct35), sl35⟩)
    (c35 : PySem.W.codeIn K cd35 "_law_put_together" = true) (k35 : PySem.W.keepIn K (.ref f35) = true)
    (a36 : PySem.W.nsIn K mainGlobals "_law_right" = some (some (.ref f36)))
    (l36 : K.lookup f36 = some ⟨oc36, od36, .func (PySem.W.fnOf "_law_right" "_law_right" (defArgs sRight) (defBody sRight) (defScope sRight) .none kV36 dc36 pm36 an36 cd36 ct36), sl36⟩)
    (c36 : PySem.W.codeIn K cd36 "_law_right" = true) (k36 : PySem.W.keepIn K (.ref f36) = true)
    (a37 : PySem.W.nsIn K mainGlobals "law" = some (some (.ref f37)))
    (l37 : K.lookup f37 = some ⟨oc37, od37, .func (PySem.W.fnOf "law" "law" (defArgs sLaw) (defBody sLaw) (defScope sLaw) .none kV37 dc37 pm37 an37 cd37 ct37), sl37⟩)
    (c37 : PySem.W.codeIn K cd37 "law" = true) (k37 : PySem.W.keepIn K (.ref f37) = true)
    (y1 : PySem.W.nsIn K mainGlobals "LETTERS" = some (some (.str "abcdefghijklmnopqrstuvwxyz" t1)))
    (y2 : PySem.W.nsIn K mainGlobals "DIGITS" = some (some (.str "0123456789" t2)))
    (y3 : PySem.W.nsIn K mainGlobals "SIGNS" = some (some (.str "{}[]():.,=+-*" t3)))
    (y4 : PySem.W.nsIn K mainGlobals "QUOTE" = some (some (.str "\"" t4)))
    (y5 : PySem.W.nsIn K mainGlobals "LONGEST_STRING" = some (some (.int 60 t5)))
    (z1 : PySem.W.nsIn K mainGlobals "len" = some none)
    (z2 : PySem.W.nsIn K mainGlobals "abs" = some none)
    (z3 : PySem.W.nsIn K mainGlobals "int" = some none)
    (z4 : PySem.W.nsIn K mainGlobals "isinstance" = some none)
    (z5 : PySem.W.nsIn K mainGlobals "str" = some none)
    (z6 : PySem.W.nsIn K mainGlobals "all" = some none)
    (z7 : PySem.W.nsIn K mainGlobals "range" = some none)
    (z8 : PySem.W.nsIn K mainGlobals "list" = some none)
    (z9 : PySem.W.nsIn K mainGlobals "repr" = some none)
    (z10 : PySem.W.nsIn K mainGlobals "max" = some none)
    (z11 : PySem.W.nsIn K mainGlobals "min" = some none)
    (z12 : PySem.W.nsIn K mainGlobals "sorted" = some none)
    (z13 : PySem.W.nsIn K mainGlobals "tuple" = some none)
    (z14 : PySem.W.nsIn K mainGlobals "dict" = some none)
    (z15 : PySem.W.nsIn K mainGlobals "enumerate" = some none)
    (z16 : PySem.W.nsIn K mainGlobals "bool" = some none) :
    ∃ fd : FuncData, (∀ (s : Shared) (v : Value), BindsTo s fd ⟨[v], []⟩ [("_law_script", v)]) ∧
      ∀ base : Heap, K.In base → base.Ns mainGlobals mg → FnG l.prog w K mg base 20 fa fd ["_law_script"] (spLaw K) := by
  have e := hfa.symm.trans (PySem.W.mg_of X G a37)
  cases e
  have non : ∀ {y : Str}, PySem.W.nsIn K mainGlobals y = some none → mg y = none := fun z => PySem.W.mg_none_of X G z
  have Z : Bare mg := ⟨non z1, non z2, non z3, non z4, non z5, non z6, non z7, non z8, non z9, non z10, non z11⟩
  have N : Names mg := ⟨⟨t1, PySem.W.mg_of X G y1⟩, ⟨t2, PySem.W.mg_of X G y2⟩, ⟨t3, PySem.W.mg_of X G y3⟩, ⟨t4, PySem.W.mg_of X G y4⟩, ⟨t5, PySem.W.mg_of X G y5⟩⟩
  have F6 := fun_mk (st := sInner) l6 c6 k6
  have F7 := fun_mk (st := sTokens) l7 c7 k7
  have F8 := fun_mk (st := sNext) l8 c8 k8
  have F9 := fun_mk (st := sLine) l9 c9 k9
  have F10 := fun_mk (st := sEnd) l10 c10 k10
  have F11 := fun_mk (st := sRun) l11 c11 k11
  have F12 := fun_mk (st := sStrEnd) l12 c12 k12
  have F14 := fun_mk (st := sBox) l14 c14 k14
  have F15 := fun_mk (st := sTake) l15 c15 k15
  have F16 := fun_mk (st := sOf) l16 c16 k16
  have F17 := fun_mk (st := sPlain) l17 c17 k17
  have F18 := fun_mk (st := sSimple) l18 c18 k18
  have F19 := fun_mk (st := sValue) l19 c19 k19
  have F20 := fun_mk (st := sPaths) l20 c20 k20
  have F21 := fun_mk (st := sBody) l21 c21 k21
  have F22 := fun_mk (st := sLoop) l22 c22 k22
  have F23 := fun_mk (st := sEntries) l23 c23 k23
  have F24 := fun_mk (st := sBook) l24 c24 k24
  have F25 := fun_mk (st := sLitS) l25 c25 k25
  have F26 := fun_mk (st := sValS) l26 c26 k26
  have F27 := fun_mk (st := sBodyS) l27 c27 k27
  have F28 := fun_mk (st := sSigns) l28 c28 k28
  have F29 := fun_mk (st := sText) l29 c29 k29
  have F30 := fun_mk (st := sStrEndL) l30 c30 k30
  have F31 := fun_mk (st := sTokEndL) l31 c31 k31
  have F32 := fun_mk (st := sTokensL) l32 c32 k32
  have F33 := fun_mk (st := sToken) l33 c33 k33
  have F34 := fun_mk (st := sParts) l34 c34 k34
  have F35 := fun_mk (st := sPut) l35 c35 k35
  have F36 := fun_mk (st := sRight) l36 c36 k36
  have F37 := fun_mk (st := sLaw) l37 c37 k37
  have b6 := F6.binds (ps := ["sign"]) fun _ _ _ _ _ _ us hl => match us, hl with | [_], _ => rfl
  have g6 := PySem.W.mg_of X G a6
  have b7 := F7.binds (ps := ["text"]) fun _ _ _ _ _ _ us hl => match us, hl with | [_], _ => rfl
  have g7 := PySem.W.mg_of X G a7
  have b8 := F8.binds (ps := ["text", "at"]) fun _ _ _ _ _ _ us hl => match us, hl with | [_, _], _ => rfl
  have g8 := PySem.W.mg_of X G a8
  have b9 := F9.binds (ps := ["text", "at"]) fun _ _ _ _ _ _ us hl => match us, hl with | [_, _], _ => rfl
  have g9 := PySem.W.mg_of X G a9
  have b10 := F10.binds (ps := ["text", "start"]) fun _ _ _ _ _ _ us hl => match us, hl with | [_, _], _ => rfl
  have g10 := PySem.W.mg_of X G a10
  have b11 := F11.binds (ps := ["text", "at", "letters"]) fun _ _ _ _ _ _ us hl => match us, hl with | [_, _, _], _ => rfl
  have g11 := PySem.W.mg_of X G a11
  have b12 := F12.binds (ps := ["text", "start"]) fun _ _ _ _ _ _ us hl => match us, hl with | [_, _], _ => rfl
  have g12 := PySem.W.mg_of X G a12
  have b14 := F14.binds (ps := ["_law_script", "_law_k"]) fun _ _ _ _ _ _ us hl => match us, hl with | [_, _], _ => rfl
  have g14 := PySem.W.mg_of X G a14
  have b15 := F15.binds (ps := ["_law_box_here", "_law_many"]) fun _ _ _ _ _ _ us hl => match us, hl with | [_, _], _ => rfl
  have g15 := PySem.W.mg_of X G a15
  have b16 := F16.binds (ps := ["_law_box_here", "_law_some"]) fun _ _ _ _ _ _ us hl => match us, hl with | [_, _], _ => rfl
  have g16 := PySem.W.mg_of X G a16
  have b17 := F17.binds (ps := ["_law_box_here", "_law_kind"]) fun _ _ _ _ _ _ us hl => match us, hl with | [_, _], _ => rfl
  have g17 := PySem.W.mg_of X G a17
  have b18 := F18.binds (ps := ["_law_box_here", "_law_some", "_law_kind"]) fun _ _ _ _ _ _ us hl => match us, hl with | [_, _, _], _ => rfl
  have g18 := PySem.W.mg_of X G a18
  have b19 := F19.binds (ps := ["_law_box_here", "_law_some", "_law_kind"]) fun _ _ _ _ _ _ us hl => match us, hl with | [_, _, _], _ => rfl
  have g19 := PySem.W.mg_of X G a19
  have b20 := F20.binds (ps := ["_law_book_here", "_law_kinds"]) fun _ _ _ _ _ _ us hl => match us, hl with | [_, _], _ => rfl
  have g20 := PySem.W.mg_of X G a20
  have b21 := F21.binds (ps := ["_law_box_here", "_law_book_here", "_law_name", "_law_some", "_law_is_own"]) fun _ _ _ _ _ _ us hl => match us, hl with | [_, _, _, _, _], _ => rfl
  have g21 := PySem.W.mg_of X G a21
  have b22 := F22.binds (ps := ["_law_box_here", "_law_book_here", "_law_name", "_law_some"]) fun _ _ _ _ _ _ us hl => match us, hl with | [_, _, _, _], _ => rfl
  have g22 := PySem.W.mg_of X G a22
  have b23 := F23.binds (ps := ["_law_box_here", "_law_book_here", "_law_most"]) fun _ _ _ _ _ _ us hl => match us, hl with | [_, _, _], _ => rfl
  have g23 := PySem.W.mg_of X G a23
  have b24 := F24.binds (ps := ["_law_box_here", "_law_most"]) fun _ _ _ _ _ _ us hl => match us, hl with | [_, _], _ => rfl
  have g24 := PySem.W.mg_of X G a24
  have b25 := F25.binds (ps := ["_law_value_here"]) fun _ _ _ _ _ _ us hl => match us, hl with | [_], _ => rfl
  have g25 := PySem.W.mg_of X G a25
  have b26 := F26.binds (ps := ["_law_value_here"]) fun _ _ _ _ _ _ us hl => match us, hl with | [_], _ => rfl
  have g26 := PySem.W.mg_of X G a26
  have b27 := F27.binds (ps := ["_law_body_here"]) fun _ _ _ _ _ _ us hl => match us, hl with | [_], _ => rfl
  have g27 := PySem.W.mg_of X G a27
  have b28 := F28.binds (ps := ["_law_book_here"]) fun _ _ _ _ _ _ us hl => match us, hl with | [_], _ => rfl
  have g28 := PySem.W.mg_of X G a28
  have b29 := F29.binds (ps := ["_law_box_here", "_law_book_here"]) fun _ _ _ _ _ _ us hl => match us, hl with | [_, _], _ => rfl
  have g29 := PySem.W.mg_of X G a29
  have b30 := F30.binds (ps := ["_law_page", "_law_at"]) fun _ _ _ _ _ _ us hl => match us, hl with | [_, _], _ => rfl
  have g30 := PySem.W.mg_of X G a30
  have b31 := F31.binds (ps := ["_law_page", "_law_at"]) fun _ _ _ _ _ _ us hl => match us, hl with | [_, _], _ => rfl
  have g31 := PySem.W.mg_of X G a31
  have b32 := F32.binds (ps := ["_law_page"]) fun _ _ _ _ _ _ us hl => match us, hl with | [_], _ => rfl
  have g32 := PySem.W.mg_of X G a32
  have b33 := F33.binds (ps := ["_law_box_here"]) fun _ _ _ _ _ _ us hl => match us, hl with | [_], _ => rfl
  have g33 := PySem.W.mg_of X G a33
  have b34 := F34.binds (ps := ["_law_ahead", "_law_token_here"]) fun _ _ _ _ _ _ us hl => match us, hl with | [_, _], _ => rfl
  have g34 := PySem.W.mg_of X G a34
  have b35 := F35.binds (ps := ["_law_box_here"]) fun _ _ _ _ _ _ us hl => match us, hl with | [_], _ => rfl
  have g35 := PySem.W.mg_of X G a35
  have b36 := F36.binds (ps := ["_law_box_here", "_law_page", "_law_due"]) fun _ _ _ _ _ _ us hl => match us, hl with | [_, _, _], _ => rfl
  have g36 := PySem.W.mg_of X G a36
  have bk : ∀ (s : Shared) (u : Value), BindsTo s (PySem.W.fnOf "tokens" "tokens" (defArgs sTokens) (defBody sTokens) (defScope sTokens) .none kV7 dc7 pm7 an7 cd7 ct7)
      ⟨[], [("text", u)]⟩ [("text", u)] := fun s u => .of_eq rfl
  refine ⟨PySem.W.fnOf "law" "law" (defArgs sLaw) (defBody sLaw) (defScope sLaw) .none kV37 dc37 pm37 an37 cd37 ct37, fun s v => .of_eq rfl, fun base _ _ => ?_⟩
  have G8 : FnOk l.prog w K mg base CX0 2 f8 _ ["text", "at"] spNext := ok_next F8 Z F9 b9 g9
  have G10 : FnOk l.prog w K mg base CX0 3 f10 _ ["text", "start"] spEnd := ok_end F10 Z N F6 b6 g6 F11 b11 g11 F12 b12 g12
  have G7 : GFn l.prog w K mg base 4 f7 _ ["text"] spGTok := gfn_tokens F7 Z F8 b8 g8 G8 F10 b10 g10 G10
  have G15 : FnOk l.prog w K mg base CX0 1 f15 _ ["_law_box_here", "_law_many"] spTake := ok_take F15
  have G16 : FnOk l.prog w K mg base CX0 2 f16 _ ["_law_box_here", "_law_some"] spOf := ok_of F16 F15 b15 g15 Z
  have G17 : FnOk l.prog w K mg base CX0 3 f17 _ ["_law_box_here", "_law_kind"] spPlain := ok_plain F17 Z F16 b16 g16 G16
  have G19 : FnOk l.prog w K mg base CX0 5 f19 _ ["_law_box_here", "_law_some", "_law_kind"] spValue := ok_value F19 Z F16 b16 g16 G16 F15 b15 g15 G15 F17 b17 g17 F18 b18 g18
  have B0 : FnOk l.prog w K mg base CX0 6 f21 _ ["_law_box_here", "_law_book_here", "_law_name", "_law_some", "_law_is_own"] (spBody 0) := ok_body_step 0 F21 Z b21 g21 F15 b15 g15 G15 F19 b19 g19 G19 F20 b20 g20 fn_none5
  have B1 : FnOk l.prog w K mg base CX0 7 f21 _ ["_law_box_here", "_law_book_here", "_law_name", "_law_some", "_law_is_own"] (spBody 1) := ok_body_step 1 F21 Z b21 g21 F15 b15 g15 G15 F19 b19 g19 G19 F20 b20 g20 B0
  have B2 : FnOk l.prog w K mg base CX0 8 f21 _ ["_law_box_here", "_law_book_here", "_law_name", "_law_some", "_law_is_own"] (spBody 2) := ok_body_step 2 F21 Z b21 g21 F15 b15 g15 G15 F19 b19 g19 G19 F20 b20 g20 B1
  have L1 : FnOk l.prog w K mg base CX0 8 f22 _ ["_law_box_here", "_law_book_here", "_law_name", "_law_some"] (spLoop 1) := ok_loop 1 F22 Z (non z12) F16 b16 g16 G16 F15 b15 g15 G15 F17 b17 g17 G17 F21 b21 g21 B1
  have L2 : FnOk l.prog w K mg base CX0 9 f22 _ ["_law_box_here", "_law_book_here", "_law_name", "_law_some"] (spLoop 2) := ok_loop 2 F22 Z (non z12) F16 b16 g16 G16 F15 b15 g15 G15 F17 b17 g17 G17 F21 b21 g21 B2
  have E1 : FnOk l.prog w K mg base CX0 9 f23 _ ["_law_box_here", "_law_book_here", "_law_most"] (spEntries 1) := ok_entries 1 F23 Z (non z12) (non z13) F16 b16 g16 G16 F15 b15 g15 G15 F20 b20 g20 F19 b19 g19 G19 F21 b21 g21 B1 F22 b22 g22 L1
  have E2 : FnOk l.prog w K mg base CX0 10 f23 _ ["_law_box_here", "_law_book_here", "_law_most"] (spEntries 2) := ok_entries 2 F23 Z (non z12) (non z13) F16 b16 g16 G16 F15 b15 g15 G15 F20 b20 g20 F19 b19 g19 G19 F21 b21 g21 B2 F22 b22 g22 L2
  have G24 : FnOk l.prog w K mg base CX0 11 f24 _ ["_law_box_here", "_law_most"] spBook := ok_book F24 Z (non z12) (non z14) F16 b16 g16 G16 F15 b15 g15 G15 F17 b17 g17 G17 F21 b21 g21 B1 F23 b23 g23 E1 E2
  have G27 : FnOk l.prog w K mg base CX0 16 f27 _ ["_law_body_here"] (spB 3) := ok_bodyS F26 Z (non z15) (non z16) b26 g26 F25 b25 g25 F27 b27 g27 3
  have G28 : FnOk l.prog w K mg base CX0 17 f28 _ ["_law_book_here"] spSigns := ok_signs F28 Z (non z14) F27 b27 g27 G27
  have G29 : FnOk l.prog w K mg base CX0 18 f29 _ ["_law_box_here", "_law_book_here"] spText := ok_text F29 Z F16 b16 g16 G16 F28 b28 g28 G28
  have G31 : FnOk l.prog w K mg base CX0 2 f31 _ ["_law_page", "_law_at"] spTEL := ok_TEL F31 Z F30 b30 g30
  have G32 : FnOk l.prog w K mg base CX0 3 f32 _ ["_law_page"] spTL := ok_TL F32 Z F31 b31 g31 G31
  have G33 : FnOk l.prog w K mg base CX0 3 f33 _ ["_law_box_here"] spToken := ok_token F33 Z F16 b16 g16 G16 F15 b15 g15 G15
  have G35 : FnOk l.prog w K mg base CX0 4 f35 _ ["_law_box_here"] spPut := ok_put F35 Z F16 b16 g16 G16 F33 b33 g33 G33 F34 b34 g34
  have G36 : FnG l.prog w K mg base 9 f36 _ ["_law_box_here", "_law_page", "_law_due"] spRight :=
    ok_right (fdT := PySem.W.fnOf "tokens" "tokens" (defArgs sTokens) (defBody sTokens) (defScope sTokens) .none kV7 dc7 pm7 an7 cd7 ct7) F36 Z (non z13) F15 b15 g15 G15 F32 b32 g32 G32 F8 b8 g8 G8 F10 b10 g10 G10 l7 c7 k7 g7 b7 bk G7
  exact ok_law F37 Z F14 b14 g14 F35 b35 g35 G35 F36 b36 g36 G36 F29 b29 g29 G29 F24 b24 g24 G24 F32 b32 g32 G32 l7 c7 k7 g7 b7 G7
end K2

open PySem PySem.W PyProof.Rows
set_option maxHeartbeats 0 in
theorem PySem.Challenge.cw_sourceback_k02_tokens_of_texts_holds : PySem.Challenge.rw_sourceback_k02_tokens_of_texts.Holds := by
  w_on; o_law; k_head; (case hw => w_witness2)
  k_fill
  refine K2.walkG (l := PySem.Challenge.rw_sourceback_k02_tokens_of_texts) (n := 63) (k := 20) (x := "_law_script") (sp := fun K => K2.spLaw K) rfl (by decide) rfl ⟨rfl, by decide, by decide⟩ (fun w h Y => PySem.W.kIn_of Y) ?F (fun K H a ns hl hS => ⟨a, ns, rfl, hS, hl, fun _ => rfl⟩)
  case F =>
    intro w mg fa h KX G hmg
    refine' K2.all_mk KX G hmg ?a6 ?l6 ?c6 ?k6 ?a7 ?l7 ?c7 ?k7 ?a8 ?l8 ?c8 ?k8 ?a9 ?l9 ?c9 ?k9 ?a10 ?l10 ?c10 ?k10 ?a11 ?l11 ?c11 ?k11 ?a12 ?l12 ?c12 ?k12 ?a14 ?l14 ?c14 ?k14 ?a15 ?l15 ?c15 ?k15 ?a16 ?l16 ?c16 ?k16 ?a17 ?l17 ?c17 ?k17 ?a18 ?l18 ?c18 ?k18 ?a19 ?l19 ?c19 ?k19 ?a20 ?l20 ?c20 ?k20 ?a21 ?l21 ?c21 ?k21 ?a22 ?l22 ?c22 ?k22 ?a23 ?l23 ?c23 ?k23 ?a24 ?l24 ?c24 ?k24 ?a25 ?l25 ?c25 ?k25 ?a26 ?l26 ?c26 ?k26 ?a27 ?l27 ?c27 ?k27 ?a28 ?l28 ?c28 ?k28 ?a29 ?l29 ?c29 ?k29 ?a30 ?l30 ?c30 ?k30 ?a31 ?l31 ?c31 ?k31 ?a32 ?l32 ?c32 ?k32 ?a33 ?l33 ?c33 ?k33 ?a34 ?l34 ?c34 ?k34 ?a35 ?l35 ?c35 ?k35 ?a36 ?l36 ?c36 ?k36 ?a37 ?l37 ?c37 ?k37 ?y1 ?y2 ?y3 ?y4 ?y5 ?z1 ?z2 ?z3 ?z4 ?z5 ?z6 ?z7 ?z8 ?z9 ?z10 ?z11 ?z12 ?z13 ?z14 ?z15 ?z16
    (case a6 => k_is); (case l6 => k_is); (case c6 => k_is); (case k6 => k_is)
    (case a7 => k_is); (case l7 => k_is); (case c7 => k_is); (case k7 => k_is)
    (case a8 => k_is); (case l8 => k_is); (case c8 => k_is); (case k8 => k_is)
    (case a9 => k_is); (case l9 => k_is); (case c9 => k_is); (case k9 => k_is)
    (case a10 => k_is); (case l10 => k_is); (case c10 => k_is); (case k10 => k_is)
    (case a11 => k_is); (case l11 => k_is); (case c11 => k_is); (case k11 => k_is)
    (case a12 => k_is); (case l12 => k_is); (case c12 => k_is); (case k12 => k_is)
    (case a14 => k_is); (case l14 => k_is); (case c14 => k_is); (case k14 => k_is)
    (case a15 => k_is); (case l15 => k_is); (case c15 => k_is); (case k15 => k_is)
    (case a16 => k_is); (case l16 => k_is); (case c16 => k_is); (case k16 => k_is)
    (case a17 => k_is); (case l17 => k_is); (case c17 => k_is); (case k17 => k_is)
    (case a18 => k_is); (case l18 => k_is); (case c18 => k_is); (case k18 => k_is)
    (case a19 => k_is); (case l19 => k_is); (case c19 => k_is); (case k19 => k_is)
    (case a20 => k_is); (case l20 => k_is); (case c20 => k_is); (case k20 => k_is)
    (case a21 => k_is); (case l21 => k_is); (case c21 => k_is); (case k21 => k_is)
    (case a22 => k_is); (case l22 => k_is); (case c22 => k_is); (case k22 => k_is)
    (case a23 => k_is); (case l23 => k_is); (case c23 => k_is); (case k23 => k_is)
    (case a24 => k_is); (case l24 => k_is); (case c24 => k_is); (case k24 => k_is)
    (case a25 => k_is); (case l25 => k_is); (case c25 => k_is); (case k25 => k_is)
    (case a26 => k_is); (case l26 => k_is); (case c26 => k_is); (case k26 => k_is)
    (case a27 => k_is); (case l27 => k_is); (case c27 => k_is); (case k27 => k_is)
    (case a28 => k_is); (case l28 => k_is); (case c28 => k_is); (case k28 => k_is)
    (case a29 => k_is); (case l29 => k_is); (case c29 => k_is); (case k29 => k_is)
    (case a30 => k_is); (case l30 => k_is); (case c30 => k_is); (case k30 => k_is)
    (case a31 => k_is); (case l31 => k_is); (case c31 => k_is); (case k31 => k_is)
    (case a32 => k_is); (case l32 => k_is); (case c32 => k_is); (case k32 => k_is)
    (case a33 => k_is); (case l33 => k_is); (case c33 => k_is); (case k33 => k_is)
    (case a34 => k_is); (case l34 => k_is); (case c34 => k_is); (case k34 => k_is)
    (case a35 => k_is); (case l35 => k_is); (case c35 => k_is); (case k35 => k_is)
    (case a36 => k_is); (case l36 => k_is); (case c36 => k_is); (case k36 => k_is)
    (case a37 => k_is); (case l37 => k_is); (case c37 => k_is); (case k37 => k_is)
    (case y1 => k_is); (case y2 => k_is); (case y3 => k_is); (case y4 => k_is); (case y5 => k_is)
    (case z1 => k_is); (case z2 => k_is); (case z3 => k_is); (case z4 => k_is); (case z5 => k_is); (case z6 => k_is); (case z7 => k_is); (case z8 => k_is); (case z9 => k_is); (case z10 => k_is); (case z11 => k_is); (case z12 => k_is); (case z13 => k_is); (case z14 => k_is); (case z15 => k_is); (case z16 => k_is)

