import PyProof.Rows.All
import Wide.All
import OpenK.AllK
import Wide.FinOn
import HandS.ForMost
import HandS.Wide
import HandS.Walk
import HandS.Conv
import HandS.RaiseMore
import HandS.EndBits
import HandS.Strs
import KE.KIndexOf
import KE.KEqDeep
import HandS.SortKw
import KE.DataMinMax
import PySem.Challenge.RW_sourceback_k66_moves_of_lists
set_option Elab.async false
set_option linter.all false
set_option maxRecDepth 100000
set_option autoImplicit true
namespace K6
/-! The longest rising row of a list, by a table and by all lots. -/

def Inc (l : List Int) : Prop := l.Pairwise (· < ·)
/-- n is how many items a longest rising sublist has -/
def IsLis (s : List Int) (n : Nat) : Prop := (∃ t, t.Sublist s ∧ Inc t ∧ t.length = n) ∧ ∀ t, t.Sublist s → Inc t → t.length ≤ n

theorem IsLis.uniq {s : List Int} {n m : Nat} (h : IsLis s n) (k : IsLis s m) : n = m := by
  obtain ⟨⟨t, a, b, c⟩, d⟩ := h
  obtain ⟨⟨u, a', b', c'⟩, d'⟩ := k
  have := d u a' b'
  have := d' t a b
  omega

theorem IsLis.le {s : List Int} {n : Nat} (h : IsLis s n) : n ≤ s.length := by
  obtain ⟨⟨t, a, b, c⟩, d⟩ := h
  have := a.length_le
  omega

theorem IsLis.of_inc {s : List Int} (h : Inc s) : IsLis s s.length := ⟨⟨s, List.Sublist.refl s, h, rfl⟩, fun t ht _ => ht.length_le⟩

/-- the longest rising sublist that ends with the item at j -/
def Ends (s : List Int) (j : Nat) (y : Int) (n : Int) : Prop :=
  (∃ t : List Int, t.Sublist (s.take j) ∧ Inc (t ++ [y]) ∧ (t.length : Int) + 1 = n) ∧ ∀ t : List Int, t.Sublist (s.take j) → Inc (t ++ [y]) → (t.length : Int) + 1 ≤ n

/-- the table of a part of the list -/
def Tab (s : List Int) (b : List Int) : Prop := b.length ≤ s.length ∧ ∀ j y n, s[j]? = some y → b[j]? = some n → Ends s j y n

theorem sub_snoc {l t : List Int} {y : Int} (h : (t ++ [y]).Sublist l) : ∃ k : Nat, l[k]? = some y ∧ t.Sublist (l.take k) := by
  obtain ⟨r1, r2, e, h1, h2⟩ := List.append_sublist_iff.mp h
  have m : y ∈ r2 := List.singleton_sublist.mp h2
  obtain ⟨as, bs, e2⟩ := List.append_of_mem m
  refine ⟨(r1 ++ as).length, ?_, ?_⟩
  · rw [e, e2, ← List.append_assoc]
    simp
  · rw [e, e2, ← List.append_assoc, List.take_left]
    exact h1.trans (List.sublist_append_left r1 as)

theorem inc_snoc {t : List Int} {x y : Int} (h : Inc (t ++ [x])) (lt : x < y) : Inc ((t ++ [x]) ++ [y]) := by
  refine List.pairwise_append.mpr ⟨h, List.pairwise_singleton _ _, fun a ha b hb => ?_⟩
  rw [List.mem_singleton.mp hb]
  rcases List.mem_append.mp ha with m | m
  · have := (List.pairwise_append.mp h).2.2 a m x (List.mem_singleton.mpr rfl)
    omega
  · rw [List.mem_singleton.mp m]
    exact lt

theorem inc_init {t : List Int} {y : Int} (h : Inc (t ++ [y])) : Inc t := (List.pairwise_append.mp h).1
theorem inc_last {t : List Int} {x y : Int} (h : Inc ((t ++ [x]) ++ [y])) : x < y :=
  (List.pairwise_append.mp h).2.2 x (List.mem_append.mpr (.inr (List.mem_singleton.mpr rfl))) y (List.mem_singleton.mpr rfl)

/-- m is the greatest of the numbers and 0 -/
def Top (l : List Int) (m : Int) : Prop := (m = 0 ∨ m ∈ l) ∧ 0 ≤ m ∧ ∀ x ∈ l, x ≤ m
theorem Top.uniq {l : List Int} {m n : Int} (h : Top l m) (k : Top l n) : m = n := by
  obtain ⟨a, b, c⟩ := h
  obtain ⟨a', b', c'⟩ := k
  rcases a with a | a <;> rcases a' with a' | a'
  · omega
  · have := c _ a'; omega
  · have := c' _ a; omega
  · have := c _ a'; have := c' _ a; omega
theorem top_of {l : List Int} {m : Int} (h : m ∈ ((0 : Int) :: l)) (k : ∀ x ∈ ((0 : Int) :: l), x ≤ m) : Top l m := by
  refine ⟨?_, k 0 List.mem_cons_self, fun x hx => k x (List.mem_cons_of_mem _ hx)⟩
  rcases List.mem_cons.mp h with h | h
  · exact .inl h
  · exact .inr h

/-- the numbers of the table ahead of an item that is greater -/
def Ahead (s b : List Int) (i : Nat) (y : Int) : List Int := ((List.range i).filter fun j => decide (s.getD j 0 < y)).map fun j => b.getD j 0

theorem mem_ahead {s b : List Int} {i : Nat} {y x : Int} (h : x ∈ Ahead s b i y) : ∃ j, j < i ∧ s.getD j 0 < y ∧ x = b.getD j 0 := by
  obtain ⟨j, hj, e⟩ := List.mem_map.mp h
  obtain ⟨m, d⟩ := List.mem_filter.mp hj
  exact ⟨j, List.mem_range.mp m, of_decide_eq_true d, e.symm⟩
theorem ahead_mem {s b : List Int} {i j : Nat} {y : Int} (h : j < i) (k : s.getD j 0 < y) : b.getD j 0 ∈ Ahead s b i y :=
  List.mem_map.mpr ⟨j, List.mem_filter.mpr ⟨List.mem_range.mpr h, decide_eq_true k⟩, rfl⟩

theorem getD_of {l : List Int} {j : Nat} {y : Int} (h : l[j]? = some y) : l.getD j 0 = y := by
  rw [List.getD_eq_getElem?_getD, h]
  rfl
theorem get_of {l : List Int} {j : Nat} (h : j < l.length) : l[j]? = some (l.getD j 0) := by
  rw [List.getD_eq_getElem?_getD, List.getElem?_eq_getElem h]
  rfl

/-- one more item of the table -/
theorem Tab.step {s b : List Int} {y m : Int} (h : Tab s b) (hy : s[b.length]? = some y) (hm : Top (Ahead s b b.length y) m) : Tab s (b ++ [1 + m]) := by
  obtain ⟨hl, ht⟩ := h
  have lt := (List.getElem?_eq_some_iff.mp hy).1
  refine ⟨by rw [List.length_append]; exact lt, fun j z n hz hn => ?_⟩
  by_cases c : j < b.length
  · exact ht j z n hz (by rw [List.getElem?_append_left c] at hn; exact hn)
  · have e : j = b.length := by
      have := (List.getElem?_eq_some_iff.mp hn).1
      rw [List.length_append] at this
      have : ([1 + m] : List Int).length = 1 := rfl
      omega
    subst e
    rw [hy] at hz
    cases hz
    have en : n = 1 + m := by
      rw [List.getElem?_append_right (Nat.le_refl _), Nat.sub_self] at hn
      exact (Option.some.inj hn).symm
    subst en
    obtain ⟨h1, h2, h3⟩ := hm
    refine ⟨?_, fun t st it => ?_⟩
    · rcases h1 with h1 | h1
      · exact ⟨[], List.nil_sublist _, List.pairwise_singleton _ _, by rw [h1]; rfl⟩
      · obtain ⟨k, hk, hs, e⟩ := mem_ahead h1
        have hb := get_of hk
        have hs' := get_of (l := s) (j := k) (by omega)
        obtain ⟨⟨t, st, it, et⟩, _⟩ := ht k _ _ hs' hb
        refine ⟨t ++ [s.getD k 0], ?_, inc_snoc it hs, ?_⟩
        · have e1 : t ++ [s.getD k 0] |>.Sublist (s.take (k + 1)) := by
            rw [List.take_add_one, hs']
            exact st.append (List.Sublist.refl _)
          refine e1.trans ?_
          have e2 : s.take (k + 1) = (s.take b.length).take (k + 1) := by
            rw [List.take_take, Nat.min_eq_left (by omega)]
          rw [e2]
          exact List.take_sublist _ _
        · rw [List.length_append, e, ← et]
          show ((t.length + 1 : Nat) : Int) + 1 = _
          omega
    · rcases List.eq_nil_or_concat t with e | ⟨u, x, e⟩
      · subst e
        show ((0 : Nat) : Int) + 1 ≤ 1 + m
        omega
      · subst e
        rw [List.concat_eq_append] at st it ⊢
        obtain ⟨k, hk, sk⟩ := sub_snoc st
        have hkb : k < b.length := by
          have := (List.getElem?_eq_some_iff.mp hk).1
          rw [List.length_take] at this
          omega
        rw [List.getElem?_take_of_lt hkb] at hk
        rw [List.take_take, Nat.min_eq_left (by omega)] at sk
        obtain ⟨_, up⟩ := ht k _ _ hk (get_of hkb)
        have := up u sk (inc_init it)
        have := h3 _ (ahead_mem (b := b) hkb (by rw [getD_of hk]; exact inc_last it))
        rw [List.length_append]
        show ((u.length + 1 : Nat) : Int) + 1 ≤ _
        omega

theorem tab_nil (s : List Int) : Tab s [] := ⟨Nat.zero_le _, fun j y n _ h => by simp at h⟩

theorem Tab.lis {s b : List Int} {m : Int} (h : Tab s b) (hl : b.length = s.length) (hm : Top b m) : ∃ n : Nat, m = (n : Int) ∧ IsLis s n := by
  obtain ⟨_, ht⟩ := h
  obtain ⟨h1, h2, h3⟩ := hm
  refine ⟨m.toNat, by omega, ?_, fun t st it => ?_⟩
  · rcases h1 with h1 | h1
    · exact ⟨[], List.nil_sublist _, List.Pairwise.nil, by rw [h1]; rfl⟩
    · obtain ⟨k, hk, e⟩ := List.getElem_of_mem h1
      have hb : b[k]? = some m := by rw [List.getElem?_eq_getElem hk, e]
      have hs := get_of (l := s) (j := k) (by omega)
      obtain ⟨⟨t, st, it, et⟩, _⟩ := ht k _ _ hs hb
      refine ⟨t ++ [s.getD k 0], ?_, it, ?_⟩
      · have e1 : t ++ [s.getD k 0] |>.Sublist (s.take (k + 1)) := by
          rw [List.take_add_one, hs]
          exact st.append (List.Sublist.refl _)
        exact e1.trans (List.take_sublist _ _)
      · rw [List.length_append]
        show t.length + 1 = _
        omega
  · rcases List.eq_nil_or_concat t with e | ⟨u, x, e⟩
    · subst e
      exact Nat.zero_le _
    · subst e
      rw [List.concat_eq_append] at st it ⊢
      obtain ⟨k, hk, sk⟩ := sub_snoc st
      have hkb : k < b.length := by
        have := (List.getElem?_eq_some_iff.mp hk).1
        omega
      obtain ⟨_, up⟩ := ht k _ _ hk (get_of hkb)
      have := up u sk it
      have := h3 _ (List.mem_of_getElem? (get_of hkb))
      rw [List.length_append]
      show u.length + 1 ≤ _
      omega

/-! ### by all lots -/
def bit (l : Nat) (i : Nat) : Bool := decide (l / 2 ^ i % 2 = 1)
/-- the items whose bits stand in the lot, the first one at off -/
def pick (l : Nat) : Nat → List Int → List Int
  | _, [] => []
  | off, x :: xs => if bit l off = true then x :: pick l (off + 1) xs else pick l (off + 1) xs

theorem pick_sub (l : Nat) : ∀ (off : Nat) (s : List Int), (pick l off s).Sublist s
  | _, [] => List.Sublist.refl _
  | off, x :: xs => by
    unfold pick
    split
    · exact (pick_sub l (off + 1) xs).cons_cons x
    · exact (pick_sub l (off + 1) xs).cons x

theorem pick_snoc (l : Nat) (x : Int) : ∀ (off : Nat) (s : List Int), pick l off (s ++ [x]) = pick l off s ++ if bit l (off + s.length) = true then [x] else []
  | off, [] => by
    simp [pick]
  | off, y :: ys => by
    have e := pick_snoc l x (off + 1) ys
    have e2 : off + 1 + ys.length = off + (y :: ys).length := by
      rw [List.length_cons]
      omega
    rw [e2] at e
    rw [List.cons_append]
    unfold pick
    rw [e]
    split <;> rfl

theorem bit_succ (l off : Nat) : bit l (off + 1) = bit (l / 2) off := by
  unfold bit
  rw [Nat.div_div_eq_div_mul, Nat.pow_succ, Nat.mul_comm 2]

theorem pick_half (l : Nat) : ∀ (off : Nat) (s : List Int), pick l (off + 1) s = pick (l / 2) off s
  | _, [] => rfl
  | off, x :: xs => by
    unfold pick
    rw [bit_succ, pick_half l (off + 1) xs]

theorem pick_all : ∀ (s t : List Int), t.Sublist s → ∃ l, l < 2 ^ s.length ∧ pick l 0 s = t := by
  intro s t h
  induction h with
  | slnil => exact ⟨0, by decide, rfl⟩
  | @cons u v x h ih =>
    obtain ⟨l, a, b⟩ := ih
    refine ⟨2 * l, by rw [List.length_cons, Nat.pow_succ]; omega, ?_⟩
    have e : bit (2 * l) 0 = false := by
      unfold bit
      rw [Nat.pow_zero, Nat.div_one]
      exact decide_eq_false (by omega)
    unfold pick
    rw [e, pick_half, if_neg (by decide), Nat.mul_div_cancel_left _ (by decide)]
    exact b
  | @cons_cons u v x h ih =>
    obtain ⟨l, a, b⟩ := ih
    refine ⟨2 * l + 1, by rw [List.length_cons, Nat.pow_succ]; omega, ?_⟩
    have e : bit (2 * l + 1) 0 = true := by
      unfold bit
      rw [Nat.pow_zero, Nat.div_one]
      exact decide_eq_true (by omega)
    unfold pick
    rw [e, pick_half, if_pos rfl, show (2 * l + 1) / 2 = l by omega, b]

theorem inc_of_le {s : List Int} (h : s.Pairwise (· ≤ ·)) (n : s.Nodup) : Inc s := by
  refine (h.and n).imp fun {a b} z => ?_
  have := z.1
  have := z.2
  omega
theorem le_of_inc {s : List Int} (h : Inc s) : s.Pairwise (· ≤ ·) := h.imp fun {a b} z => by omega

/-- what the turns over the lots have found so far -/
def Best (s : List Int) (k : Nat) (m : Nat) : Prop := (∃ t, t.Sublist s ∧ Inc t ∧ t.length = m) ∧ ∀ l, l < k → Inc (pick l 0 s) → (pick l 0 s).length ≤ m
theorem best_zero (s : List Int) : Best s 0 0 := ⟨⟨[], List.nil_sublist _, List.Pairwise.nil, rfl⟩, fun l h _ => absurd h (Nat.not_lt_zero _)⟩
theorem Best.skip {s : List Int} {k m : Nat} (h : Best s k m) (n : ¬ Inc (pick k 0 s)) : Best s (k + 1) m := by
  refine ⟨h.1, fun l hl i => ?_⟩
  by_cases c : l = k
  · rw [c] at i
    exact absurd i n
  · exact h.2 l (by omega) i
theorem Best.keep {s : List Int} {k m : Nat} (h : Best s k m) (n : Inc (pick k 0 s)) : Best s (k + 1) (max m (pick k 0 s).length) := by
  refine ⟨?_, fun l hl i => ?_⟩
  · rcases Nat.le_total m (pick k 0 s).length with z | z
    · exact ⟨_, pick_sub k 0 s, n, by rw [Nat.max_eq_right z]⟩
    · obtain ⟨t, a, b, c⟩ := h.1
      exact ⟨t, a, b, by rw [Nat.max_eq_left z, c]⟩
  · by_cases c : l = k
    · rw [c]
      exact Nat.le_max_right _ _
    · exact Nat.le_trans (h.2 l (by omega) i) (Nat.le_max_left _ _)
theorem Best.lis {s : List Int} {m : Nat} (h : Best s (2 ^ s.length) m) : IsLis s m := by
  refine ⟨h.1, fun t st it => ?_⟩
  obtain ⟨l, a, b⟩ := pick_all s t st
  have := h.2 l a (by rw [b]; exact it)
  rw [b] at this
  exact this
theorem Best.bound {s : List Int} {k m : Nat} (h : Best s k m) : m ≤ s.length := by
  obtain ⟨t, a, _, c⟩ := h.1
  have := a.length_le
  omega

/-! ### places of items -/
theorem pick_map (l : Nat) (f : Int → Int) : ∀ (off : Nat) (s : List Int), pick l off (s.map f) = (pick l off s).map f
  | _, [] => rfl
  | off, x :: xs => by
    rw [List.map_cons]
    unfold pick
    rw [pick_map l f (off + 1) xs]
    split <;> rfl

def place (early : List Int) (x : Int) : Int := (early.idxOf x : Int)
def both (early late : List Int) : List Int := late.filter fun x => decide (x ∈ early)
def spots (early late : List Int) : List Int := (both early late).map (place early)

theorem place_inj {early : List Int} {x y : Int} (hx : x ∈ early) (hy : y ∈ early) (h : place early x = place early y) : x = y := by
  have e : early.idxOf x = early.idxOf y := by
    unfold place at h
    omega
  have lx := List.idxOf_lt_length_of_mem hx
  have ly := List.idxOf_lt_length_of_mem hy
  rw [← List.getElem_idxOf lx, ← List.getElem_idxOf ly]
  simp only [e]

theorem mem_both {early late : List Int} {x : Int} (h : x ∈ both early late) : x ∈ late ∧ x ∈ early := by
  obtain ⟨a, b⟩ := List.mem_filter.mp h
  exact ⟨a, of_decide_eq_true b⟩

theorem both_nodup {early late : List Int} (n : late.Nodup) : (both early late).Nodup := n.filter _
theorem spots_nodup {early late : List Int} (n : late.Nodup) : (spots early late).Nodup := by
  unfold spots
  refine List.pairwise_map.mpr (List.Pairwise.imp_of_mem (R := (· ≠ ·)) ?_ (both_nodup n))
  intro a b ha hb hab e
  exact hab (place_inj (mem_both ha).2 (mem_both hb).2 e)

theorem both_self (early : List Int) : both early early = early := by
  unfold both
  exact List.filter_eq_self.mpr fun x hx => decide_eq_true hx

theorem inc_self : ∀ {early : List Int}, early.Nodup → Inc (spots early early) := by
  intro early n
  unfold spots
  rw [both_self]
  refine List.pairwise_iff_getElem.mpr fun i j hi hj hij => ?_
  rw [List.length_map] at hi hj
  rw [List.getElem_map, List.getElem_map]
  unfold place
  rw [n.idxOf_getElem i hi, n.idxOf_getElem j hj]
  omega
end K6
namespace K6
open PySem PySem.Spec PyProof.Rows L2

def topS (i : Nat) : Stmt :=
  PySem.Challenge.pw_sourceback_k66_moves_of_lists.main.body.getD i (.Pass ⟨0, 0, 0, 0⟩)
abbrev sMoves : Stmt := topS 1
abbrev sBox : Stmt := topS 3
abbrev sTake : Stmt := topS 4
abbrev sOf : Stmt := topS 5
abbrev sStir : Stmt := topS 6
abbrev sKept : Stmt := topS 7
abbrev sLong : Stmt := topS 8
abbrev sLaw : Stmt := topS 9

theorem scTake : FnScope ["_law_box_here", "_law_many", "_law_digit", "_law_mixed"] ["_law_box_here", "_law_many"]
    (defScope sTake) := ⟨rfl, rfl, rfl, by decide +kernel, rfl, by decide +kernel, by decide +kernel⟩

/-- a box of digits at b: what is left of the cell, the mixed number, the count of draws -/
def Box (c : Int) (H : Hp) (b : Addr) : Prop :=
  ∃ o m k : Int, H b = some (.lst [.int o, .int m, .int k]) ∧ (0 ≤ o ∧ o < 2 ^ 1100) ∧ (0 ≤ m ∧ m < 2 ^ 61) ∧ (0 ≤ k ∧ k ≤ c)
/-- all but b stands as before -/
def Kept (b : Addr) (H H' : Hp) : Prop := ∀ a o, H a = some o → a ≠ b → H' a = some o

theorem Kept.refl (b : Addr) (H : Hp) : Kept b H H := fun _ _ e _ => e
theorem Kept.trans {b : Addr} {H H' H'' : Hp} (x : Kept b H H') (y : Kept b H' H'') : Kept b H H'' :=
  fun a o e n => y a o (x a o e n) n
theorem Kept.upd {b : Addr} {H H' : Hp} {o : HO} (x : Kept b H H') : Kept b H (upd H' b o) := fun a u e n => by
  rw [upd_ne n]
  exact x a u e n

theorem small64 {x : Int} (h0 : 0 ≤ x) (h1 : x < 2 ^ 64) : -(2 ^ 64) < x ∧ x < 2 ^ 64 := ⟨by omega, h1⟩

theorem bits_le {x : Int} {n : Nat} (h : x.natAbs < 2 ^ n) (hn : 0 < n) : x.natAbs.log2 < n := PySem.Flt.log2_lt_of hn h

theorem pass_int {Q : V → Hp → Prop} {z : Int} {H : Hp} (h : ∀ x, x = z → Q (.int x) H) : Q (.int z) H := h z rfl

def spTake : Sp := fun vs H Q _ => ∃ (b : Addr) (n c : Int), vs = [.ref b, .int n] ∧ Box c H b ∧ 1 ≤ n ∧ n ≤ 1000 ∧
  c ≤ 100000 ∧ ∀ H' r, Kept b H H' → Box (c + 1) H' b → 0 ≤ r → r < n → Q (.int r) H'

section
variable {P : Program} {w : World} {K : PySem.W.Frag} {mg : Str → Option Value} {base : Heap}

theorem ok_take {f : Addr} {fd : FuncData} (F : Fun K "_law_take" "_law_take" sTake f fd) :
    FnOk P w K mg base CX0 1 f fd ["_law_box_here", "_law_many"] spTake := by
  refine F.ok scTake (fun vs H Q E h => ?_) (fun cdv A outer s H vs Q E hr h => ?_)
  · obtain ⟨b, n, c, rfl, _⟩ := h
    rfl
  · obtain ⟨b, n, c, rfl, ⟨o, m, k, hb, ho, hm, hk⟩, n1, n2, hc, q⟩ := h
    refine ⟨_, pss_cons (ps_if (pt_cmpR op_gt (pe_ix ix_list (pv 0) pe_int (fun _ _ => rfl)) pe_int (nomark _))
        (pss_cons (ps_set (i := 2) scTake.nd rfl (.inl rfl)
            (pe_op op_mod (pe_ix ix_list (pv 0) pe_int (fun _ _ => rfl)) (pv 1)))
          (pss_cons (ps_asg (pe_op op_fdivW (pe_ix ix_list (pv 0) pe_int (fun _ _ => rfl)) (pv 1))
              (pg_sub (pv 0) pe_int set_list))
            (pss_one (ps_ret (pv 2))))) pss_nil)
      (pss_cons (ps_asg (pe_op op_add (pe_ix ix_list (pv 0) pe_int (fun _ _ => rfl)) pe_int)
          (pg_sub (pv 0) pe_int set_list))
      (pss_cons (ps_set (i := 3) scTake.nd rfl (.inl rfl)
          (pe_op op_mod (pe_op op_mul (pe_op op_add (pe_op op_add (pe_ix ix_list (pv 0) pe_int (fun _ _ => rfl))
              (pe_op op_mul (pe_op op_mul pe_int (pe_ix ix_list (pv 0) pe_int (fun _ _ => rfl)))
                (pe_ix ix_list (pv 0) pe_int (fun _ _ => rfl)))) pe_int) pe_int) pe_int))
      (pss_cons (ps_set (i := 3) scTake.nd rfl (.inl rfl)
          (pe_op op_mod (pe_op op_mul (pv 3) (pe_op op_add (pe_op op_mod (pv 3) pe_int)
            (pe_op op_mul pe_int (pe_ix ix_list (pv 0) pe_int (fun _ _ => rfl))))) pe_int))
      (pss_one (ps_ret (pe_op op_mod (pe_op op_add (pe_op op_fdiv (pv 3) pe_int) (pe_op op_fdiv (pv 3) pe_int))
        (pv 1))))))), ?_⟩
    have hB : SqL K H b [.int o, .int m, .int k] := SqL.of hb
    -- if box[0] > 0
    refine ⟨.ref b, rfl, b, _, 0, .int o, rfl, rfl, hB, atI_nat (j := 0) rfl, o, 0, rfl, rfl, _, rfl, ?_⟩
    refine ite2 (fun e => ?_) (fun e => ?_)
    · have ho0 : 0 < o := of_decide_eq_true e
      have hn0 : 0 < n := by omega
      refine ⟨.ref b, rfl, b, _, 0, .int o, rfl, rfl, hB, atI_nat (j := 0) rfl, .int n, rfl, o, n, rfl, rfl, hn0, ?_⟩
      -- box[0] = box[0] // many
      refine ⟨.ref b, rfl, b, _, 0, .int o, rfl, rfl, hB, atI_nat (j := 0) rfl, .int n, rfl, o, n, rfl, rfl,
        ⟨hn0, bits_le (n := 9000) (by omega) (by decide)⟩, ?_⟩
      refine ⟨.ref b, rfl, b, _, 0, 0, rfl, rfl, hb, rfl, ?_⟩
      refine ⟨.int (o % n), rfl, ?_⟩
      have d0 : 0 ≤ o / n := Int.ediv_nonneg ho.1 (by omega)
      have d1 : o / n ≤ o := Int.ediv_le_self _ ho.1
      exact q _ _ (Kept.refl b H).upd ⟨o / n, m, k, upd_same, ⟨d0, by omega⟩, hm, ⟨hk.1, by omega⟩⟩
        (Int.emod_nonneg _ (by omega)) (Int.emod_lt_of_pos _ hn0)
    · have hn0 : 0 < n := by omega
      -- box[2] = box[2] + 1
      refine ⟨.ref b, rfl, b, _, 2, .int k, rfl, rfl, hB, atI_nat (j := 2) rfl, k, 1, rfl, rfl, ?_⟩
      refine ⟨.ref b, rfl, b, _, 2, 2, rfl, rfl, hb, rfl, ?_⟩
      generalize hH1 : upd H b _ = H1
      have hb1 : H1 b = some (.lst [.int o, .int m, .int (k + 1)]) := by
        rw [← hH1, upd_same]
        rfl
      have hB1 : SqL K H1 b [.int o, .int m, .int (k + 1)] := SqL.of hb1
      have kp : Kept b H H1 := by
        rw [← hH1]
        exact (Kept.refl b H).upd
      have hk1 : 0 ≤ k + 1 := by omega
      have hk2 : k + 1 ≤ 100001 := by omega
      -- mixed
      refine ⟨.ref b, rfl, b, _, 1, .int m, rfl, rfl, hB1, atI_nat (j := 1) rfl, .ref b, rfl, b, _, 2, .int (k + 1), rfl, rfl,
        hB1, atI_nat (j := 2) rfl, 65551, k + 1, rfl, rfl, .inl ⟨by decide, by decide⟩, ?_⟩
      refine ⟨.ref b, rfl, b, _, 2, .int (k + 1), rfl, rfl, hB1, atI_nat (j := 2) rfl, 65551 * (k + 1), k + 1, rfl, rfl,
        .inr ⟨by omega, by omega⟩, ?_⟩
      refine ⟨m, 65551 * (k + 1) * (k + 1), rfl, rfl, m + 65551 * (k + 1) * (k + 1), 29, rfl, rfl, _, 48281, rfl, rfl,
        .inr ⟨by decide, by decide⟩, _, 2305843009213693921, rfl, rfl, by show (0 : Int) < 2305843009213693921; decide, ?_⟩
      show gName 3 (V.int ((m + 65551 * (k + 1) * (k + 1) + 29) * 48281 % 2305843009213693921)) _ H1 _
      generalize hx : (m + 65551 * (k + 1) * (k + 1) + 29) * 48281 % 2305843009213693921 = x
      have hx0 : 0 ≤ x := by
        rw [← hx]
        exact Int.emod_nonneg _ (by decide)
      have hx1 : x < 2305843009213693921 := by
        rw [← hx]
        exact Int.emod_lt_of_pos _ (by decide)
      -- mixed again
      refine ⟨.int x, rfl, .int x, rfl, x, 1000039, rfl, rfl, by show (0 : Int) < 1000039; decide, .ref b, rfl, b, _, 2, .int (k + 1), rfl, rfl,
        hB1, atI_nat (j := 2) rfl, 99989, k + 1, rfl, rfl, .inl ⟨by decide, by decide⟩, _, _, rfl, rfl, x, _, rfl, rfl,
        .inl ⟨by omega, by omega⟩, _, 2305843009213693907, rfl, rfl, by show (0 : Int) < 2305843009213693907; decide, ?_⟩
      show gName 3 (V.int (x * (x % 1000039 + 99989 * (k + 1)) % 2305843009213693907)) _ H1 _
      generalize hy : x * (x % 1000039 + 99989 * (k + 1)) % 2305843009213693907 = y
      -- the end
      refine ⟨.int y, rfl, y, 109, rfl, rfl, ⟨by decide, by decide⟩, .int y, rfl, y, 1000081, rfl, rfl, ⟨by decide, by decide⟩,
        _, _, rfl, rfl, .int n, rfl, _, n, rfl, rfl, hn0, ?_⟩
      exact q H1 _ kp ⟨o, m, k + 1, hb1, ho, hm, ⟨hk1, by omega⟩⟩ (Int.emod_nonneg _ (by omega)) (Int.emod_lt_of_pos _ hn0)
end
end K6
namespace K6
open PySem PySem.Spec PyProof.Rows L2

theorem scOf : FnScope ["_law_box_here", "_law_some"] ["_law_box_here", "_law_some"] (defScope sOf) :=
  ⟨rfl, rfl, rfl, by decide +kernel, rfl, by decide +kernel, by decide +kernel⟩
theorem scBox : FnScope ["_law_script", "_law_k", "_law_digits", "_law_own"] ["_law_script", "_law_k"] (defScope sBox) :=
  ⟨rfl, rfl, rfl, by decide +kernel, rfl, by decide +kernel, by decide +kernel⟩

/-- the names of the built-in things that the text reads: none is a name of its own -/
structure Bare (mg : Str → Option Value) : Prop where
  len : mg "len" = none
  abs : mg "abs" = none
  int : mg "int" = none
  isin : mg "isinstance" = none
  str : mg "str" = none
  all : mg "all" = none
  range : mg "range" = none
  list : mg "list" = none
  repr : mg "repr" = none
  max : mg "max" = none
  min : mg "min" = none

def spOf : Sp := fun vs H Q _ => ∃ (b l : Addr) (xs : List V) (c : Int), vs = [.ref b, .ref l] ∧ Box c H b ∧
  H l = some (.lst xs) ∧ l ≠ b ∧ 1 ≤ xs.length ∧ xs.length ≤ 1000 ∧ c ≤ 100000 ∧
  ∀ H' v, Kept b H H' → Box (c + 1) H' b → v ∈ xs → Q v H'

def spBox (K : PySem.W.Frag) : Sp := fun vs H Q _ => ∃ (a : Addr) (ns : List Int) (k : Int), vs = [.ref a, .int k] ∧
  SqL K H a (ns.map V.int) ∧ 0 ≤ k ∧ k ≤ 2 ∧ ∀ H' p, Same H H' → H p = none → Box 0 H' p → Q (.ref p) H'

section
variable {P : Program} {w : World} {K : PySem.W.Frag} {mg : Str → Option Value} {base : Heap}

theorem op_powB {X : Cx} : OpR X (binaryOp .Pow)
    (rI (fun i j => 0 ≤ j ∧ (Builtin.Int.intBits i : Int) * j ≤ 2 ^ 27) fun i j => .int (i ^ j.toNat)) :=
  opI fun _ _ _ _ _ _ _ hc q => pow_int hc.1 hc.2 q

theorem any_val {t : TE} {σ : L2.St} {H : Hp} {Q : VK} (h : ∀ Q' : VK, (∀ d : Int, Q' (.int d) H) → t σ H Q')
    (hq : ∀ d, Q (.int d) H) : t σ H Q := h Q hq
theorem same_upd {H : Hp} {p : Addr} {o : HO} (h : H p = none) : Same H (upd H p o) := fun b x e => by
  rw [upd_ne (ne_of_none e h)]
  exact e

theorem atI_toNat {xs : List V} {i : Int} {v : V} (h0 : 0 ≤ i) (h : xs[i.toNat]? = some v) : atI xs i = some v := by
  have e : i = ((i.toNat : Nat) : Int) := by omega
  rw [e]
  exact atI_nat h

theorem b01 (t : Bool) : -(2 ^ 64) < (if t then (1 : Int) else 0) ∧ (if t then (1 : Int) else 0) < 2 ^ 64 := by
  cases t <;> decide

theorem ok_of {f fT : Addr} {fd fdT : FuncData} (F : Fun K "_law_of" "_law_of" sOf f fd)
    (FT : Fun K "_law_take" "_law_take" sTake fT fdT) (bT : Binds K fdT ["_law_box_here", "_law_many"] [])
    (gT : mg "_law_take" = some (.ref fT)) (Z : Bare mg) :
    FnOk P w K mg base CX0 2 f fd ["_law_box_here", "_law_some"] spOf := by
  have GT : FnOk P w K mg base CX0 1 fT fdT ["_law_box_here", "_law_many"] spTake := ok_take FT
  refine F.ok scOf (fun vs H Q E h => ?_) (fun cdv A outer s H vs Q E hr h => ?_)
  · obtain ⟨b, l, xs, c, rfl, _⟩ := h
    rfl
  · obtain ⟨b, l, xs, c, rfl, hb, hl, nlb, n1, n2, hc, q⟩ := h
    refine ⟨_, pss_one (ps_ret (pe_ix ix_list (pv 1) (pe_call GT hr (by rfl) gT FT.kp bT .nil pass0
      (pa_cons (pv 0) (pa_cons (pe_callB call_len_seq (by rfl) Z.len PySem.boot_len (pa_cons (pv 1) pa_nil)) pa_nil)))
      (fun _ _ => rfl))), ?_⟩
    refine ⟨.ref l, rfl, .ref b, rfl, .ref l, rfl, l, xs, rfl, .inl (SqL.of hl), b, _, c, rfl, hb, by omega, by omega, hc, fun H' r kp hb' r0 r1 => ?_⟩
    have hl' : H' l = some (.lst xs) := kp _ _ hl nlb
    have hi : r.toNat < xs.length := by omega
    have er : r = ((r.toNat : Nat) : Int) := by omega
    refine ⟨l, xs, r, xs[r.toNat], rfl, rfl, SqL.of hl', ?_, q H' _ kp hb' (List.getElem_mem hi)⟩
    exact atI_toNat r0 (by simp [hi])

/-- own and mixed, for any digits -/
theorem own_lt (d : Int) (t : Bool) : 0 ≤ (if d < 0 then -d else d) % ((10 : Int) ^ (60 : Int).toNat) ^ (5 : Int).toNat * (if t then 1 else 0) ∧
    (if d < 0 then -d else d) % ((10 : Int) ^ (60 : Int).toNat) ^ (5 : Int).toNat * (if t then 1 else 0) < 2 ^ 1100 := by
  have h1 : (0 : Int) < ((10 : Int) ^ (60 : Int).toNat) ^ (5 : Int).toNat := by decide +kernel
  have h2 : ((10 : Int) ^ (60 : Int).toNat) ^ (5 : Int).toNat < 2 ^ 1100 := by decide +kernel
  generalize ((10 : Int) ^ (60 : Int).toNat) ^ (5 : Int).toNat = B at h1 h2 ⊢
  generalize (if d < 0 then -d else d) = x
  have h3 : 0 ≤ x % B := Int.emod_nonneg _ (by omega)
  have h4 : x % B < B := Int.emod_lt_of_pos _ h1
  cases t
  · simp only [Bool.false_eq_true, if_false, Int.mul_zero]
    exact ⟨Int.le_refl 0, by omega⟩
  · simp only [if_true, Int.mul_one]
    exact ⟨h3, by omega⟩

theorem ok_box {f : Addr} {fd : FuncData} (F : Fun K "_law_box" "_law_box" sBox f fd) (Z : Bare mg) :
    FnOk P w K mg base CX0 1 f fd ["_law_script", "_law_k"] (spBox K) := by
  refine F.ok scBox (fun vs H Q E h => ?_) (fun cdv A outer s H vs Q E hr h => ?_)
  · obtain ⟨a, ns, k, rfl, _⟩ := h
    rfl
  · obtain ⟨a, ns, k, rfl, hS, k0, k2, q⟩ := h
    refine ⟨_, pss_cons (ps_set (i := 2) scBox.nd rfl (.inl rfl)
        (pe_ifExp (pt_cmpR op_lt (pv 1) (pe_callB call_len_seq (by rfl) Z.len PySem.boot_len (pa_cons (pv 0) pa_nil)) (nomark _))
          (pe_ix ix_list (pv 0) (pv 1) (fun _ _ => rfl)) (pe_op op_add (pe_op op_mul pe_int (pv 1)) pe_int)))
      (pss_cons (ps_set (i := 3) scBox.nd rfl (.inl rfl)
        (pe_op op_mul (pe_op op_mod (pe_callB call_abs (by rfl) Z.abs (by decide +kernel) (pa_cons (pv 2) pa_nil))
            (pe_op op_powB (pe_op op_pow pe_int pe_int) pe_int))
          (pe_callTy call_int1 (by rfl) Z.int (by decide +kernel) (pa_cons (pe_cmpR op_ge
            (pe_callB call_abs (by rfl) Z.abs (by decide +kernel) (pa_cons (pv 2) pa_nil)) (pe_op op_pow pe_int pe_int) (nomark _)) pa_nil))))
      (pss_one (ps_ret (pe_lst (pa_cons (pv 3) (pa_cons
        (pe_op op_mod (pe_op op_add (pe_op op_add (pe_op op_mul (pe_op op_mod (pv 2) pe_int) pe_int)
          (pe_op op_mul (pe_op op_mul pe_int (pv 1)) (pv 1))) pe_int) pe_int) (pa_cons pe_int pa_nil))))))), ?_⟩
    show tIf _ _ _ _ _ _
    refine any_val (fun Qc hq => ?_) (fun d => ?_)
    · refine ⟨.int k, rfl, .ref a, rfl, a, _, rfl, .inl hS, k, _, rfl, rfl, _, rfl, ?_⟩
      refine ite2 (fun e => ?_) (fun e => ?_)
      · have e' : k < ((ns.map V.int).length : Int) := of_decide_eq_true e
        rw [List.length_map] at e'
        have hi : k.toNat < ns.length := by omega
        exact ⟨.ref a, rfl, .int k, rfl, a, _, k, .int ns[k.toNat], rfl, rfl, hS, atI_toNat k0 (by simp [hi]), hq _⟩
      · exact ⟨.int k, rfl, 37, k, rfl, rfl, .inl ⟨by decide, by decide⟩, 37 * k, 5, rfl, rfl, hq _⟩
    · -- own
      refine ⟨.int d, rfl, d, rfl, 10, 60, rfl, rfl, ⟨by decide, by decide, by decide⟩, _, 5, rfl, rfl, ⟨by decide, by decide +kernel⟩, _, _, rfl, rfl,
        (by show (0 : Int) < ((10 : Int) ^ (60 : Int).toNat) ^ (5 : Int).toNat; decide +kernel), ?_⟩
      refine ⟨.int d, rfl, d, rfl, 10, 18, rfl, rfl, ⟨by decide, by decide, by decide⟩, _, _, rfl, rfl, .inr ⟨_, rfl, _, _, rfl, rfl, .inr (b01 _), ?_⟩⟩
      show gName 3 (.int ((if d < 0 then -d else d) % ((10 : Int) ^ (60 : Int).toNat) ^ (5 : Int).toNat *
        (if decide ((10 : Int) ^ (18 : Int).toNat ≤ (if d < 0 then -d else d)) = true then 1 else 0))) _ H _
      have B := own_lt d (decide ((10 : Int) ^ (18 : Int).toNat ≤ (if d < 0 then -d else d)))
      revert B
      generalize (if d < 0 then -d else d) % ((10 : Int) ^ (60 : Int).toNat) ^ (5 : Int).toNat *
        (if decide ((10 : Int) ^ (18 : Int).toNat ≤ (if d < 0 then -d else d)) = true then 1 else 0) = o
      intro B
      -- the list
      refine ⟨.int o, rfl, .int d, rfl, d, 2305843009213693951, rfl, rfl, (by show (0 : Int) < 2305843009213693951; decide), _, 70079, rfl, rfl, .inr ⟨by decide, by decide⟩,
        .int k, rfl, 4799, k, rfl, rfl, .inl ⟨by decide, by decide⟩, .int k, rfl, 4799 * k, k, rfl, rfl, .inr ⟨by omega, by omega⟩, _, _, rfl, rfl, _, 71, rfl, rfl,
        _, 2305843009213693921, rfl, rfl, (by show (0 : Int) < 2305843009213693921; decide), (by show 3 ≤ sizeLine; decide), fun p hp => ?_⟩
      refine q _ p (same_upd hp) hp ⟨o, _, 0, upd_same, B, ⟨Int.emod_nonneg _ (by decide), ?_⟩, ⟨by decide, by decide⟩⟩
      exact Int.lt_trans (Int.emod_lt_of_pos _ (by decide)) (by decide)
end
end K6
/-! Tuples of which it is told that they have no dict of their own: their methods may be called. -/
namespace K6
open PySem PySem.Spec PyProof.Rows L2

/-- a tuple at p without a dict of its own -/
def FTup (H : Hp) (p : Addr) (xs : List V) : Prop := ∃ o : Obj, H p = some (.frz o (.tup xs)) ∧ o.cls = .type "tuple" ∧ o.dict = none
theorem FTup.sq {K : PySem.W.Frag} {H : Hp} {p : Addr} {xs : List V} (h : FTup H p xs) : SqT K H p xs := by
  obtain ⟨o, e, _⟩ := h
  exact .inl (.inr ⟨o, e⟩)
theorem FTup.keep {H H' : Hp} {p : Addr} {xs : List V} (h : FTup H p xs) (k : ∀ o, H p = some o → H' p = some o) : FTup H' p xs := by
  obtain ⟨o, e, r⟩ := h
  exact ⟨o, k _ e, r⟩

section
variable {X : Cx} {pins : List (Addr × Obj)} {σ : L2.St} {H : Hp} {s : Shared}

/-- tuple(a list), told with the object -/
theorem call_tupleF : CallR X (.type "tuple") (fun xs H Q => ∃ p ys, xs = [.ref p] ∧ SqL X.K H p ys ∧ ∀ l H', H l = none → Same H H' → (∀ q, q ≠ l → H' q = H q) → FTup H' l ys → Q (.ref l) H') := by
  intro pins s σ H xs us Q I r h
  obtain ⟨p, ys, rfl, hq, q⟩ := h
  obtain ⟨u, rfl, rx⟩ := vals1 r
  cases rx
  obtain ⟨its, r', pl, hz⟩ := I.list hq
  have hlen := r'.length
  refine call_tuple_list pl.isList (fun h' kp => ?_) (by simp only [List.size_toArray] <;> omega)
  have I1 : Inv X pins σ H { s with heap := h' } := I.kept (t' := s.toks) kp
  have hf : H h'.objs.size = none := I1.hok.fresh (Nat.le_refl _)
  have I2 : Inv X pins σ (upd H h'.objs.size (.frz { cls := .type "tuple", data := .seq its.toArray } (.tup ys))) { s with heap := h'.push { cls := .type "tuple", data := .seq its.toArray } } :=
    I1.laid (t' := s.toks) (fun b o e => Heap.get?_push_of_some _ e) (Nat.le_refl _) (show ObjOk X.prog X.w _ _ _ (.frz _ (.tup ys)) from
      ⟨Heap.get?_push_size _ rfl, hz, its, r', IsTup.new _ _⟩)
  exact ⟨.ref h'.objs.size, _, I2, rfl, q _ _ hf (same_upd hf) (fun q hq => upd_ne hq) ⟨_, upd_same, rfl, rfl⟩⟩

/-- a tuple of written items, told with the object -/
def tTupF (t : TA) : TE := fun σ H Q => t σ H fun xs H1 => xs.length ≤ sizeLine ∧ ∀ p H', H1 p = none → Same H1 H' → (∀ q, q ≠ p → H' q = H1 q) → FTup H' p xs → Q (.ref p) H'
theorem pe_tupF {es : List Expr} {t : TA} {pos : Pos} {x1} (h : PA X es t) : PE X (.Tuple es x1 pos) (tTupF t) := by
  refine ⟨fun pins s σ H Q I hq => ?_⟩
  refine wpAny_Tuple_spliced (thn (h.run pos pins s σ H _ I hq) fun us s1 ⟨xs, H1, I1, r, z, q⟩ => ⟨by rw [← r.length]; exact z, ?_⟩)
  have hf : H1 s1.heap.objs.size = none := I1.hok.fresh (Nat.le_refl _)
  refine ⟨.ref s1.heap.objs.size, upd H1 s1.heap.objs.size (.frz { cls := .type "tuple", data := .seq us.toArray } (.tup xs)), I1.laid (t' := s1.toks) (fun b u e => Heap.get?_push_of_some _ e) (Nat.le_refl _) ?_, rfl,
    q _ _ hf (same_upd hf) (fun q hq => upd_ne hq) ⟨_, upd_same, rfl, rfl⟩⟩
  exact ⟨Heap.get?_push_size _ rfl, z, us, r, ⟨_, Heap.get?_push_size _ rfl, rfl, _, rfl⟩⟩

section
variable {id : String} {r : V → List V → Hp → VK → Prop} {o e : Expr} {es : List Expr} {to : TE} {t : TA} {name : Str} {apos cpos : Pos}
/-- t.m(..), t such a tuple -/
def tBMT (r : V → List V → Hp → VK → Prop) (to : TE) (t : TA) : TE := fun σ H Q => to σ H fun x H1 => (∃ p xs, x = .ref p ∧ FTup H1 p xs) ∧ t σ H1 fun xs H2 => r x xs H2 Q
theorem pe_bmT (slot : Slot "tuple" name id) (hty : typeOf (.builtin id) = pure (.type "method_descriptor")) (hm : MtR X id r) (ho : PE X o to) (ha : PA X (e :: es) t)
    (hbase : attributeBase o name X.env (eval o X.env) = eval o X.env := by rfl)
    (hfew : ((backTo cpos (starEach (e :: es) X.env)).all (fun x => !x.1) && (backToKw cpos (keywordEach [] X.env)).all (fun x => x.1.isSome)
      && decide ((e :: es).length + ([] : List Keyword).length + (if ([] : List Keyword).isEmpty then 0 else 1) < 30)) = true := by rfl)
    (hline : (apos.endLine == cpos.line) = true := by rfl) (hs : starEach (e :: es) X.env = (false, eval e X.env) :: starEach es X.env := by rfl) (hplain : (backTo cpos (starEach es X.env)).any (·.1) = false := by rfl) :
    PE X (.Call (.Attribute o name apos) (e :: es) [] cpos) (tBMT r to t) := by
  refine ⟨fun pins s σ H Q I h => ?_⟩
  refine wpAny_Call_method_late hbase hfew hline rfl (thn (ho.run pins s σ H _ I h) fun v s1 ⟨x, H1, I1, r1, ty, q1⟩ => ?_)
  obtain ⟨p, xs, ex, ob, eo, hc, hd⟩ := ty
  subst ex
  cases r1
  have ho : s1.heap.get? p = some ob := (I1.hok p _ eo).1
  have h1 : s1.TypeIs (.ref p) "tuple" := ⟨ob, ho, hc⟩
  have h2 : ∀ a, Value.ref p = .ref a → ∃ ob, s1.heap.get? a = some ob ∧ ob.dict = none := fun a e => by
    cases e
    exact ⟨ob, ho, hd⟩
  refine ⟨"tuple", id, PySem.F.plainAttrs_tuple, slot, hty, h1, h2, ?_⟩
  have hA := ha.run cpos pins s1 σ H1 _ I1 q1
  rw [hs] at hA ⊢
  refine Calls.callWith_builtin (by show (false || (backTo cpos (starEach es X.env)).any (·.1)) = false; rw [hplain] <;> rfl) (Calls.evalArgs_plain ?_)
  exact thn hA fun us s2 ⟨vs, H2, I2, r2, q2⟩ => hm pins s2 σ H2 (.ref p) vs (.ref p) us Q I2 rfl r2 q2
end

theorem flat_ints (ys : List Int) : (ys.map V.int).all flatV = true := by
  rw [List.all_map]
  exact List.all_eq_true.mpr fun _ _ => rfl

/-- t.index(n), the first place, among whole numbers -/
def rTupIx (K : PySem.W.Frag) : V → List V → Hp → VK → Prop := fun x xs H Q => ∃ p, ∃ ys : List Int, ∃ z : Int, x = .ref p ∧ xs = [.int z] ∧ SqT K H p (ys.map V.int) ∧ z ∈ ys ∧ Q (.int (ys.idxOf z : Nat)) H
def rLstIx (K : PySem.W.Frag) : V → List V → Hp → VK → Prop := fun x xs H Q => ∃ a, ∃ ys : List Int, ∃ z : Int, x = .ref a ∧ xs = [.int z] ∧ SqL K H a (ys.map V.int) ∧ z ∈ ys ∧ Q (.int (ys.idxOf z : Nat)) H
theorem mt_tup_indexI : MtR X "tuple.index" (rTupIx X.K) := by
  intro pins s σ H x xs v us Q I rx rs h
  obtain ⟨p, ys, z, rfl, rfl, hq, hz, q⟩ := h
  cases rx
  obtain ⟨u, rfl, t, rfl⟩ := vals1 rs
  obtain ⟨its, r, pl, _⟩ := I.tuple hq
  obtain ⟨o, ho, hc, n, hd⟩ := pl
  exact PySem.SeqAt.tuple_index_ints ⟨o, ho, hc, n, hd⟩ r.ints hz ⟨.int _, H, I.tok _, ⟨_, rfl⟩, q⟩

/-- l.index(n), the first place, among whole numbers -/
theorem mt_indexI : MtR X "list.index" (rLstIx X.K) := by
  intro pins s σ H x xs v us Q I rx rs h
  obtain ⟨a, ys, z, rfl, rfl, hq, hz, q⟩ := h
  refine mt_index pins s σ H _ _ v us Q I rx rs ⟨a, ys.map V.int, .int z, ys.idxOf z, .int z, rfl, rfl, hq, rfl, flat_ints ys, ?_, ?_, ?_, q⟩
  · have l := List.idxOf_lt_length_of_mem hz
    rw [List.getElem?_map, List.getElem?_eq_getElem l, List.getElem_idxOf]
    rfl
  · show (z == z) = true
    exact beq_self_eq_true z
  · intro m z' hm he
    have l := List.idxOf_lt_length_of_mem hz
    have hm' : m < ys.length := by omega
    rw [List.getElem?_map, List.getElem?_eq_getElem hm'] at he
    cases he
    show (ys[m] == z) = false
    exact ne_of_lt_idxOf hm hm'
end

section
variable {X : Cx} {k : Nat} {f : Addr} {fd : FuncData} {ps : List Str} {sp : Sp} {E : XK} {x nm nm2 : Str} {p pos kpos kpos2 : Pos} {e e2 : Expr} {te te2 : TE}
/-- two values, in the other order -/
def kw2 (sp : Sp) (Q : VK) (E : XK) : List V → Hp → Prop
  | [v, v2], H2 => sp [v2, v] H2 Q E
  | _, _ => False
theorem kw2_two {sp : Sp} {Q : VK} {E : XK} : ∀ {zs : List V} {H : Hp}, kw2 sp Q E zs H → ∃ v v2, zs = [v, v2]
  | [v, v2], _, _ => ⟨v, v2, rfl⟩
  | [], _, h => h.elim
  | [_], _, h => h.elim
  | _ :: _ :: _ :: _, _, h => h.elim
/-- f(nm = e, nm2 = e2): g tells in which order the parameters stand -/
theorem pe_callKw2 (F : FnOk X.prog X.w X.K X.mg X.base CX0 k f fd ps sp) (room : Room k X.A) (hg : Gl X x) (hm : X.mg x = some (.ref f)) (hps : ps = [nm2, nm])
    (keep : PySem.W.keepIn X.K (.ref f) = true) (bd : ∀ (s : Shared) (u u2 : Value), BindsTo s fd ⟨[], [(nm, u), (nm2, u2)]⟩ [(nm2, u2), (nm, u)]) (hx : Passes CX0 X E) (he : PE X e te) (he2 : PE X e2 te2)
    (hall : (backToKw pos (keywordEach [⟨some nm, e, kpos⟩, ⟨some nm2, e2, kpos2⟩] X.env)).all (·.1.isSome) = true := by rfl)
    (hks : (backToKw pos (keywordEach [⟨some nm, e, kpos⟩, ⟨some nm2, e2, kpos2⟩] X.env)).filterMap (·.1) = [nm, nm2] := by rfl)
    (hdb : (x == ("__debug__" : Str)) = false := by decide)
    (hpl : ((backTo pos (starEach [] X.env)).any (·.1) || (backToKw pos (keywordEach [⟨some nm, e, kpos⟩, ⟨some nm2, e2, kpos2⟩] X.env)).any (·.1.isNone)) = false := by rfl) :
    PE X (.Call (.Name x p) [] [⟨some nm, e, kpos⟩, ⟨some nm2, e2, kpos2⟩] pos) (fun σ H Q => te σ H fun v H1 => te2 σ H1 fun v2 H2 => sp [v2, v] H2 Q E) := by
  refine ⟨fun pins s σ H Q I h => wpAny_Call_Name_kw (ld_glob I hg hm ?_ hdb)⟩
  refine PySem.W.callWith_KW0 (h₀ := X.base) I.ok.mod.kin keep hall ?_ hpl
  refine thn ((pk_cons he (pk_cons he2 pk_nil)).run pos pins s σ H (kw2 sp Q E) I h) ?_
  rintro ws s2 ⟨zs, H2, I2, rz, q2⟩
  obtain ⟨v, v2, rfl⟩ := kw2_two q2
  have q2 : sp [v2, v] H2 Q E := q2
  refine ⟨I2.kIn, ?_⟩
  rw [hks]
  obtain ⟨u, u2, rfl, r1, r2⟩ := vals2 rz
  subst hps
  refine wpAny_call (codeAny_mono (F.run X.A X.stack s2 H2 ⟨[], [(nm, u), (nm2, u2)]⟩ [u2, u] _ Q E room I2.env0 (bd s2 u u2) (.cons r2 (.cons r1 .nil)) q2) ?_)
  rintro (⟨er⟩ | ⟨fl⟩) s' hq
  · exact hx pins σ H2 s2 er s' I2 hq
  · rcases fl with _ | _ | _ | u
    · exact hq.elim
    · exact hq.elim
    · exact hq.elim
    · exact I2.after hq
end
end K6
namespace K6
open PySem PySem.Spec PyProof.Rows L2

theorem scStir : FnScope ["_law_box_here", "_law_some", "_law_left", "_law_found"] ["_law_box_here", "_law_some"] (defScope sStir) :=
  ⟨rfl, rfl, rfl, by decide +kernel, rfl, by decide +kernel, by decide +kernel⟩

theorem Box.at {c : Int} {H H' : Hp} {b : Addr} (x : Box c H b) (s : Same H H') : Box c H' b := by
  obtain ⟨o, m, k, e, r⟩ := x
  exact ⟨o, m, k, s _ _ e, r⟩
theorem Box.some {c : Int} {H : Hp} {b : Addr} (x : Box c H b) : H b ≠ none := by
  obtain ⟨o, m, k, e, _⟩ := x
  rw [e]
  simp
theorem Box.le {c c' : Int} {H : Hp} {b : Addr} (x : Box c H b) (h : c ≤ c') : Box c' H b := by
  obtain ⟨o, m, k, e, h1, h2, h3, h4⟩ := x
  exact ⟨o, m, k, e, h1, h2, h3, by omega⟩
theorem keptS {b : Addr} {H H' : Hp} (s : Same H H') : Kept b H H' := fun a o e _ => s a o e
theorem grow {H : Hp} {p : Addr} {o : HO} (n : H p = none) : Same H (upd H p o) ∧ (upd H p o) p = some o ∧
    ∀ a, (upd H p o) a = none → H a = none := ⟨same_upd n, upd_same, fun a z => (same_upd n).free z⟩
theorem len_le {n : Nat} {k : Nat} (h : n ≤ 100) (e : k = n) : k ≤ sizeLine := by
  have z : 100 ≤ sizeLine := by decide
  omega
theorem tiny {n : Nat} (h : n ≤ 1000) : n ≤ sizeLine := Nat.le_of_lt (small1000 h)
theorem Kept.new {b p : Addr} {H G : Hp} {o : HO} (k : Kept b H G) (n : H p = none) : Kept b H (L2.upd G p o) := fun a u e ab => by
  rw [upd_ne (ne_of_none e n)]
  exact k a u e ab
theorem Box.off {c : Int} {G : Hp} {b p : Addr} {o : HO} (x : Box c G b) (n : p ≠ b) : Box c (upd G p o) b := by
  obtain ⟨u, m, k, e, r⟩ := x
  exact ⟨u, m, k, by rw [upd_ne n.symm]; exact e, r⟩
theorem Kept.fresh {b p : Addr} {H G : Hp} (k : Kept b H G) (n : G p = none) (nb : p ≠ b) : H p = none := by
  cases e : H p with
  | none => rfl
  | some u =>
    rw [k _ _ e nb] at n
    cases n

/-- a list of whole numbers at p -/
def LI (H : Hp) (p : Addr) (xs : List Int) : Prop := H p = some (.lst (xs.map V.int))
theorem LI.some {H : Hp} {p : Addr} {xs : List Int} (h : LI H p xs) : H p ≠ none := by
  rw [show H p = _ from h]
  simp
theorem LI.ne {H : Hp} {p q : Addr} {xs : List Int} (h : LI H p xs) (n : H q = none) : p ≠ q := fun e => h.some (e ▸ n)
theorem LI.at {H H' : Hp} {p : Addr} {xs : List Int} (h : LI H p xs) (s : Same H H') : LI H' p xs := s _ _ h
theorem LI.off {H : Hp} {p q : Addr} {xs : List Int} {o : HO} (h : LI H p xs) (n : p ≠ q) : LI (upd H q o) p xs := by
  show upd H q o p = _
  rw [upd_ne n]
  exact h
theorem Box.ne {c : Int} {H : Hp} {b q : Addr} (h : Box c H b) (n : H q = none) : q ≠ b := fun e => h.some (e ▸ n)

theorem dp_ints {K : PySem.W.Frag} {H : Hp} : ∀ (xs : List Int), DpAll K H (xs.map V.int) (xs.map PyData.int)
  | [] => .nil
  | x :: xs => .cons (.int x) (dp_ints xs)
theorem LI.dp {K : PySem.W.Frag} {H : Hp} {p : Addr} {xs : List Int} (h : LI H p xs) : Dp K H (.ref p) (.list (xs.map PyData.int)) := .lst (SqL.of h) (dp_ints xs)
theorem eqv_li (xs ys : List Int) : PyData.eqv (.list (xs.map PyData.int)) (.list (ys.map PyData.int)) = decide (xs = ys) := by
  rw [PyData.eqv]
  exact PySem.W.ked_eqvAll xs ys

theorem canAll_li : ∀ xs : List Int, PyData.canLayAll0 (xs.map PyData.int) = true
  | [] => by rw [List.map_nil, PyData.canLayAll0]
  | x :: xs => by rw [List.map_cons, PyData.canLayAll0, canAll_li xs, PyData.canLay0]; rfl
theorem depthAll_li : ∀ xs : List Int, PyData.depthAll (xs.map PyData.int) = 0
  | [] => by rw [List.map_nil, PyData.depthAll]
  | x :: xs => by rw [List.map_cons, PyData.depthAll, depthAll_li xs, PyData.depth]; rfl
theorem shaped_li (xs : List Int) : SeqAt.shaped (.list (xs.map PyData.int)) = true := by
  unfold SeqAt.shaped
  rw [PyData.canLay0, canAll_li, PyData.depth, depthAll_li]
  rfl

def spStir : Sp := fun vs H Q _ => ∃ (b l : Addr) (xs : List Int) (c : Int), vs = [.ref b, .ref l] ∧ Box c H b ∧ LI H l xs ∧ l ≠ b ∧ xs.length ≤ 20 ∧ 0 ≤ c ∧ c ≤ 50000 ∧
  ∀ H' p ys, Kept b H H' → Box (c + 40) H' b → H p = none → p ≠ b → LI H' p ys → ys.Perm xs → Q (.ref p) H'

theorem map_erase : ∀ (ls : List Int) (k : Nat), (ls.map V.int).eraseIdx k = (ls.eraseIdx k).map V.int
  | [], _ => rfl
  | _ :: _, 0 => rfl
  | x :: ls, k + 1 => by
    show V.int x :: (ls.map V.int).eraseIdx k = _
    rw [map_erase ls k]
    rfl
theorem erase_perm : ∀ {ls : List Int} {k : Nat} (h : k < ls.length), (ls[k] :: ls.eraseIdx k).Perm ls
  | _ :: _, 0, _ => List.Perm.refl _
  | x :: ls, k + 1, h => by
    have h' : k < ls.length := by simpa using h
    have ih := erase_perm h'
    show (ls[k] :: x :: ls.eraseIdx k).Perm (x :: ls)
    exact (List.Perm.swap x ls[k] _).trans (ih.cons x)

theorem seqIx {i : Int} {n : Nat} (h0 : 0 ≤ i) (h1 : i < n) : seqIndex? i n = some i.toNat := by
  have e : ¬ i < 0 := by omega
  simp [seqIndex?, e, h0, h1]

section
variable {P : Program} {w : World} {K : PySem.W.Frag} {mg : Str → Option Value} {base : Heap}

theorem ok_stir {f fO fT : Addr} {fd fdO fdT : FuncData} (F : Fun K "_law_stirred" "_law_stirred" sStir f fd)
    (FO : Fun K "_law_of" "_law_of" sOf fO fdO) (bO : Binds K fdO ["_law_box_here", "_law_some"] [])
    (gO : mg "_law_of" = some (.ref fO)) (Z : Bare mg)
    (GO : FnOk P w K mg base CX0 2 fO fdO ["_law_box_here", "_law_some"] spOf)
    (FT : Fun K "_law_take" "_law_take" sTake fT fdT) (bT : Binds K fdT ["_law_box_here", "_law_many"] [])
    (gT : mg "_law_take" = some (.ref fT)) (GT : FnOk P w K mg base CX0 1 fT fdT ["_law_box_here", "_law_many"] spTake) :
    FnOk P w K mg base CX0 3 f fd ["_law_box_here", "_law_some"] spStir := by
  refine F.ok scStir (fun vs H Q E h => ?_) (fun cdv A outer s H vs Q E hr h => ?_)
  · obtain ⟨b, l, xs, c, rfl, _⟩ := h
    rfl
  · obtain ⟨b, l, xs, c, rfl, hb, hl, nlb, n1, c0, hc, q⟩ := h
    have hr1 : Room 1 _ := hr.mono (by decide)
    refine ⟨_, pss_cons (ps_par (i := 2) (j := 3) rfl scStir.nd rfl rfl (by decide) rfl rfl
        (pa_cons (pe_callTy call_list_of (by rfl) Z.list (by decide +kernel) (pa_cons (pv 1) pa_nil)) (pa_cons (pe_lst pa_nil) pa_nil)) (by rfl))
      (pss_cons (ps_while PassesOwn.never (pt_cmpR (op_neD hr.units) (pv 2) (pe_lst pa_nil) (nomark _))
        (pss_one (ps_expr (pe_bm PySem.F.plainAttrs_list PySem.F.slot_list_append PySem.F.type_list_append mt_append (pv 3)
          (pa_cons (pe_bm PySem.F.plainAttrs_list PySem.F.slot_list_pop PySem.F.type_list_pop mt_popAt (pv 2)
            (pa_cons (pe_call GO hr (by rfl) gO FO.kp bO .nil pass0 (pa_cons (pv 0) (pa_cons (pe_lst (pa_cons pe_int (pa_cons pe_int (pa_cons
              (pe_call GT hr1 (by rfl) gT FT.kp bT .nil pass0 (pa_cons (pv 0) (pa_cons
                (pe_callB call_len_seq (by rfl) Z.len PySem.boot_len (pa_cons (pv 2) pa_nil)) pa_nil))) pa_nil)))) pa_nil))) pa_nil)) pa_nil)))))
      (pss_one (ps_ret (pv 3)))), ?_⟩
    -- the two lists
    refine ⟨.ref l, rfl, l, xs.map V.int, rfl, .inl (SqL.of hl), fun L nL => ?_⟩
    obtain ⟨s1, f1, u1⟩ := grow (o := .lst (xs.map V.int)) nL
    have hb1 := hb.at s1
    generalize upd H L (.lst (xs.map V.int)) = H1 at s1 f1 u1 hb1 ⊢
    refine ⟨len_le (n := 0) (by decide) rfl, fun D nD => ?_⟩
    obtain ⟨s2, f2, u2⟩ := grow (o := .lst []) nD
    have hb2 := hb1.at s2
    have nLb : L ≠ b := hb.ne nL
    have nDb : D ≠ b := hb1.ne nD
    have nLD : L ≠ D := (show LI H1 L xs from f1).ne nD
    have nD0 : H D = none := u1 _ nD
    have l2 : LI (upd H1 D (.lst [])) L xs := s2 _ _ f1
    generalize upd H1 D (.lst []) = H2 at s2 f2 u2 hb2 l2 ⊢
    refine ⟨.ref L, .ref D, rfl, ?_⟩
    refine ⟨fun m σ G => ∃ ls fs : List Int, m = ls.length ∧ σ = [some (.ref b), some (.ref l), some (.ref L), some (.ref D)] ∧ Kept b H G ∧ Box (c + 2 * fs.length) G b ∧
      LI G L ls ∧ LI G D fs ∧ (fs ++ ls).Perm xs, ⟨_, xs, [], rfl, rfl, keptS (s1.trans s2), by simpa using hb2, l2, f2, List.Perm.refl _⟩, ?_⟩
    rintro m σ G ⟨ls, fs, rfl, rfl, kG, bG, lG, dG, pm⟩
    have lens : fs.length + ls.length = xs.length := by
      have := pm.length_eq
      rw [List.length_append] at this
      exact this
    refine ⟨.ref L, rfl, len_le (n := 0) (by decide) rfl, fun p np => ?_⟩
    obtain ⟨s3, f3, u3⟩ := grow (o := .lst []) np
    have bG3 := bG.at s3
    have lG3 := lG.at s3
    have dG3 := dG.at s3
    have kG3 := kG.trans (keptS s3)
    have e3 : LI (upd G p (.lst [])) p [] := f3
    generalize upd G p (.lst []) = G3 at s3 f3 u3 bG3 lG3 dG3 kG3 e3 ⊢
    refine ⟨_, _, lG3.dp, e3.dp, shaped_li _, shaped_li _, _, rfl, ?_⟩
    rw [eqv_li]
    refine ite2 (fun e => ?_) (fun e => ?_)
    · have ne : ls ≠ [] := by
        intro z
        rw [z] at e
        simp at e
      have pos : 1 ≤ ls.length := List.length_pos_iff.mpr ne
      refine ⟨_, fun _ _ h => h, ?_⟩
      refine ⟨.ref D, rfl, .inl ⟨rfl, _, SqL.of dG3⟩, .ref L, rfl, .inl ⟨rfl, _, SqL.of lG3⟩, .ref b, rfl, .ref b, rfl, .ref L, rfl, L, _, rfl, .inl (SqL.of lG3), ?_⟩
      refine ⟨b, _, _, rfl, bG3, ?_, ?_, by omega, fun G4 r kp b4 r0 r1 => ?_⟩
      · rw [List.length_map]
        omega
      · rw [List.length_map]
        omega
      have r1 : r < ls.length := by
        rw [List.length_map] at r1
        exact r1
      refine ⟨len_le (n := 3) (by decide) rfl, fun t nt => ?_⟩
      obtain ⟨s5, f5, u5⟩ := grow (o := .lst [.int 0, .int 0, .int r]) nt
      have b5 := b4.at s5
      have l5 : LI _ L ls := s5 _ _ (kp _ _ lG3 nLb)
      have d5 : LI _ D fs := s5 _ _ (kp _ _ dG3 nDb)
      have k5 := (kG3.trans kp).trans (keptS s5)
      have ntb : t ≠ b := b4.ne nt
      generalize upd G4 t (.lst [.int 0, .int 0, .int r]) = G5 at s5 f5 u5 b5 l5 d5 k5 ⊢
      refine ⟨b, t, _, _, rfl, b5, f5, ntb, (show 1 ≤ 3 by decide), (show 3 ≤ 1000 by decide), by omega, fun G6 v kp6 b6 hv => ?_⟩
      obtain ⟨i, rfl, i0, i1⟩ : ∃ i : Int, v = .int i ∧ 0 ≤ i ∧ i < ls.length := by
        simp only [List.mem_cons, List.not_mem_nil, or_false] at hv
        rcases hv with z | z | z
        · exact ⟨0, z, by omega, by omega⟩
        · exact ⟨0, z, by omega, by omega⟩
        · exact ⟨r, z, r0, r1⟩
      have l6 : LI G6 L ls := kp6 _ _ l5 nLb
      have d6 : LI G6 D fs := kp6 _ _ d5 nDb
      have hk : i.toNat < ls.length := by omega
      refine ⟨L, ls.map V.int, i, i.toNat, .int ls[i.toNat], rfl, rfl, l6, by omega, by omega, ?_, ?_, ?_⟩
      · rw [List.length_map]
        exact seqIx i0 i1
      · simp [hk]
      rw [map_erase]
      have d7 : LI (upd G6 L (.lst ((ls.eraseIdx i.toNat).map V.int))) D fs := d6.off nLD.symm
      have b7 := b6.off (o := .lst ((ls.eraseIdx i.toNat).map V.int)) nLb
      have k7 : Kept b H (upd G6 L (.lst ((ls.eraseIdx i.toNat).map V.int))) := (k5.trans kp6).new nL
      have l7 : LI (upd G6 L (.lst ((ls.eraseIdx i.toNat).map V.int))) L (ls.eraseIdx i.toNat) := upd_same
      generalize upd G6 L (.lst ((ls.eraseIdx i.toNat).map V.int)) = G7 at d7 b7 k7 l7 ⊢
      refine ⟨D, _, _, rfl, rfl, d7, ?_, ?_⟩
      · rw [List.length_map]
        exact small1000 (by omega)
      refine ⟨_, ?_, ls.eraseIdx i.toNat, fs ++ [ls[i.toNat]], rfl, rfl, k7.new nD0, ?_, l7.off nLD, ?_, ?_⟩
      · rw [List.length_eraseIdx, if_pos hk]
        omega
      · refine (b7.off nDb).le ?_
        rw [List.length_append]
        show c + 2 * (fs.length : Int) + 1 + 1 ≤ c + 2 * ((fs.length + 1 : Nat) : Int)
        omega
      · show upd G7 D _ D = _
        rw [upd_same, List.map_append]
        rfl
      · rw [List.append_assoc]
        exact ((erase_perm hk).append_left fs).trans pm
    · have z : ls = [] := by
        by_cases z : ls = []
        · exact z
        · exact absurd (by rw [decide_eq_false z]; rfl) e
      subst z
      refine ⟨.ref D, rfl, q G3 D fs kG3 (bG3.le ?_) nD0 nDb dG3 ?_⟩
      · omega
      · rw [List.append_nil] at pm
        exact pm
end
end K6
namespace K6
open PySem PySem.Spec PyProof.Rows L2

theorem scLong : FnScope ["_law_early", "_law_late", "_law_spots", "_law_best", "_law_at", "_law_spot", "_law_one", "_law_ahead"] ["_law_early", "_law_late"] (defScope sLong) :=
  ⟨rfl, rfl, rfl, by decide +kernel, rfl, by decide +kernel, by decide +kernel⟩

theorem inV_ints (x : Int) (xs : List Int) : inV (.int x) (xs.map V.int) = decide (x ∈ xs) := by
  unfold inV
  rw [List.any_map]
  induction xs with
  | nil => rfl
  | cons y ys ih =>
    rw [List.any_cons, ih]
    show ((y == x) || decide (x ∈ ys)) = _
    by_cases h : x = y
    · subst h
      simp
    · have h2 : ¬ y = x := fun e => h e.symm
      simp [h, h2]

theorem sqT_upd {K : PySem.W.Frag} {H : Hp} {a p : Addr} {xs : List V} {o : HO} (h : SqT K H a xs) (n : H p = none) : SqT K (upd H p o) a xs := by
  rcases h with (h | ⟨u, h⟩) | h
  · exact .inl (.inl (same_upd n _ _ h))
  · exact .inl (.inr ⟨u, same_upd n _ _ h⟩)
  · exact .inr h
theorem FTup.at {H H' : Hp} {p : Addr} {xs : List V} (h : FTup H p xs) (s : Same H H') : FTup H' p xs := h.keep fun o e => s _ _ e

theorem _root_.L2.Same.put {H G : Hp} {p : Addr} {o : HO} (h : Same H G) (n : H p = none) : Same H (upd G p o) := fun a u e => by
  rw [upd_ne (ne_of_none e n)]
  exact h a u e
theorem both_take {early late : List Int} {i : Nat} {x : Int} (h : late[i]? = some x) :
    both early (late.take (i + 1)) = both early (late.take i) ++ (if x ∈ early then [x] else []) := by
  unfold both
  rw [List.take_add_one, h, List.filter_append]
  show _ ++ List.filter (fun x => decide (x ∈ early)) [x] = _
  by_cases m : x ∈ early
  · simp [m]
  · simp [m]
theorem spots_take {early late : List Int} {i : Nat} {x : Int} (h : late[i]? = some x) (m : x ∈ early) :
    spots early (late.take (i + 1)) = spots early (late.take i) ++ [place early x] := by
  unfold spots
  rw [both_take h, if_pos m, List.map_append]
  rfl
theorem spots_skip {early late : List Int} {i : Nat} {x : Int} (h : late[i]? = some x) (m : x ∉ early) :
    spots early (late.take (i + 1)) = spots early (late.take i) := by
  unfold spots
  rw [both_take h, if_neg m, List.append_nil]
theorem both_len (early late : List Int) : (both early late).length ≤ late.length := List.length_filter_le _ _
theorem spots_len (early late : List Int) : (spots early late).length ≤ late.length := by
  unfold spots
  rw [List.length_map]
  exact both_len early late
theorem take_len {xs : List Int} {i : Nat} : (xs.take i).length ≤ xs.length := by
  rw [List.length_take]
  omega
theorem get_int {xs : List Int} {i : Nat} {x : V} (h : (xs.map V.int)[i]? = some x) : ∃ z, x = .int z ∧ xs[i]? = some z := by
  rw [List.getElem?_map] at h
  cases e : xs[i]? with
  | none =>
    rw [e] at h
    cases h
  | some z =>
    rw [e] at h
    exact ⟨z, (Option.some.inj h).symm, rfl⟩
theorem get_map {xs : List Int} {i : Nat} {z : Int} (h : xs[i]? = some z) : (xs.map V.int)[i]? = some (.int z) := by
  rw [List.getElem?_map, h]
  rfl

/-- the numbers of the table ahead, up to a turn -/
def aheadTo (s b : List Int) (j : Nat) (y : Int) : List Int := Ahead s b j y
theorem ahead_take {s b : List Int} {j : Nat} {y : Int} (h : s.getD j 0 < y) : Ahead s b (j + 1) y = Ahead s b j y ++ [b.getD j 0] := by
  unfold Ahead
  rw [List.range_succ, List.filter_append, List.map_append]
  congr 1
  simp only [List.filter_cons, List.filter_nil, decide_eq_true h, if_true, List.map_cons, List.map_nil]
theorem ahead_skip {s b : List Int} {j : Nat} {y : Int} (h : ¬ s.getD j 0 < y) : Ahead s b (j + 1) y = Ahead s b j y := by
  unfold Ahead
  rw [List.range_succ, List.filter_append, List.map_append]
  simp only [List.filter_cons, List.filter_nil, decide_eq_false h, Bool.false_eq_true, if_false, List.map_nil, List.append_nil]
theorem ahead_len (s b : List Int) (j : Nat) (y : Int) : (Ahead s b j y).length ≤ j := by
  unfold Ahead
  rw [List.length_map]
  exact Nat.le_trans (List.length_filter_le _ _) (by rw [List.length_range]; exact Nat.le_refl _)

def spLong (K : PySem.W.Frag) : Sp := fun vs H Q _ => ∃ (e l : Addr) (early late : List Int), vs = [.ref e, .ref l] ∧ FTup H e (early.map V.int) ∧ SqT K H l (late.map V.int) ∧
  late.length ≤ 100 ∧ ∀ H' n, Same H H' → IsLis (spots early late) n → Q (.int (n : Nat)) H'

section
variable {P : Program} {w : World} {K : PySem.W.Frag} {mg : Str → Option Value} {base : Heap}

theorem ok_long {f : Addr} {fd : FuncData} (F : Fun K "_law_longest" "_law_longest" sLong f fd) (Z : Bare mg) (mE : mg "enumerate" = none) :
    FnOk P w K mg base CX0 1 f fd ["_law_early", "_law_late"] (spLong K) := by
  refine F.ok scLong (fun vs H Q E h => ?_) (fun cdv A outer s H vs Q E hr h => ?_)
  · obtain ⟨e, l, early, late, rfl, _⟩ := h
    rfl
  · obtain ⟨e, l, early, late, rfl, he, hl, n1, q⟩ := h
    refine ⟨_, pss_cons (ps_asg (pe_tup (pa_cons
          (pe_lc (own := [("_law_one", 6)]) (g := gName 6) rfl scLong.nd (pi_tup (pv 1))
            (blkOk_by (N := ["_law_early", "_law_late", "_law_spots", "_law_best", "_law_at", "_law_spot", "_law_one", "_law_ahead"]) (sc := defScope sLong) (by decide +kernel))
            (fun _ _ _ _ _ => pg_name (i := 6) scLong.nd rfl (Or.inl rfl))
            (fun _ _ _ _ _ => pts_one (pt_cmpR (r := rIn K false) op_in_seq (pv 6) (pv 0) (by with_unfolding_all rfl)))
            (fun _ _ _ _ _ => pe_bmT (r := rTupIx K) PySem.F.slot_tuple_index PySem.F.type_tuple_index mt_tup_indexI (pv 0) (pa_cons (pv 6) pa_nil)))
          (pa_cons (pe_lst pa_nil) pa_nil)))
        (pg_tup rfl (pgs_cons (pg_name (i := 2) scLong.nd rfl (.inr rfl)) (pgs_cons (pg_name (i := 3) scLong.nd rfl (.inr rfl)) pgs_nil))))
      (pss_cons (ps_for PassesOwn.never rfl (pi_enum (by rfl) mE (pa_cons (pv 2) pa_nil))
          (pg_tup rfl (pgs_cons (pg_name (i := 4) scLong.nd rfl (.inl rfl)) (pgs_cons (pg_name (i := 5) scLong.nd rfl (.inr rfl)) pgs_nil)))
        (pss_one (ps_expr (pe_bm PySem.F.plainAttrs_list PySem.F.slot_list_append PySem.F.type_list_append mt_append (pv 3)
          (pa_cons (pe_op op_add pe_int (pe_callB (cr_max rfl) (by rfl) Z.max (by decide +kernel) (pa_cons (pe_op op_cat (pe_lst (pa_cons pe_int pa_nil))
            (pe_lc (own := [("_law_ahead", 7)]) (g := gName 7) rfl scLong.nd (pi_range1 (by rfl) Z.range (pa_cons (pv 4) pa_nil))
              (blkOk_by (N := ["_law_early", "_law_late", "_law_spots", "_law_best", "_law_at", "_law_spot", "_law_one", "_law_ahead"]) (sc := defScope sLong) (by decide +kernel))
              (fun _ _ _ _ _ => pg_name (i := 7) scLong.nd rfl (Or.inl rfl))
              (fun _ _ _ _ _ => pts_one (pt_cmpR op_lt (pe_ix (r := rIxL K) ix_list (pv 2) (pv 7) (fun _ _ => rfl)) (pv 5) (nomark _)))
              (fun _ _ _ _ _ => pe_ix (r := rIxL K) ix_list (pv 3) (pv 7) (fun _ _ => rfl)))) pa_nil))) pa_nil)))))
      (pss_one (ps_ret (pe_callB (cr_max rfl) (by rfl) Z.max (by decide +kernel) (pa_cons (pe_op op_cat (pe_lst (pa_cons pe_int pa_nil)) (pv 3)) pa_nil))))), ?_⟩
    -- the spots
    refine ⟨.ref l, rfl, l, rfl, ⟨_, hl⟩, fun D nD => ?_⟩
    refine lc_it (walk_tup (K := K) (a := l) (xs := late.map V.int)) (fun i G => G = upd H D (.lst ((spots early (late.take i)).map V.int))) rfl (fun i G _ z => ?_) ?_ ?_
    · rw [z]
      exact sqT_upd hl nD
    · rintro i x G G' hi rfl ⟨rfl, hx⟩
      obtain ⟨z, rfl, hz⟩ := get_int hx
      refine ⟨rfl, ?_⟩
      have he' : FTup (upd H D (.lst ((spots early (late.take i)).map V.int))) e (early.map V.int) := he.at (same_upd nD)
      refine ⟨.int z, rfl, .ref e, rfl, e, _, rfl, .inr he'.sq, rfl, flat_ints _, _, rfl, ?_⟩
      show if inV (.int z) (early.map V.int) = true then _ else _
      rw [inV_ints]
      refine ite2 (fun m => ?_) (fun m => ?_)
      · have m := of_decide_eq_true m
        refine ⟨.ref e, rfl, ⟨e, _, rfl, he'⟩, .int z, rfl, e, early, z, rfl, rfl, he'.sq, m, _, upd_same, ?_, ?_⟩
        · rw [List.length_map]
          have := spots_len early (late.take i)
          have := take_len (xs := late) (i := i)
          exact small1000 (by omega)
        · rw [upd_upd, spots_take hz m, List.map_append]
          rfl
      · have m : z ∉ early := fun k => m (decide_eq_true k)
        rw [spots_skip hz m]
    · rintro G rfl
      rw [List.length_map, List.take_length]
      have hs1 : Same H (upd H D (.lst ((spots early late).map V.int))) := same_upd nD
      have hD1 : LI (upd H D (.lst ((spots early late).map V.int))) D (spots early late) := upd_same
      have sl := spots_len early late
      have fin : ∀ H' n, Same H H' → IsLis (spots early late) n → Q (.int (n : Nat)) H' := q
      revert hs1 hD1
      generalize upd H D (.lst ((spots early late).map V.int)) = H1
      generalize spots early late = s at sl fin
      intro hs1 hD1
      refine ⟨len_le (n := 0) (by decide) rfl, fun B nB => ?_⟩
      obtain ⟨s2, f2, u2⟩ := grow (o := .lst []) nB
      have d2 := hD1.at s2
      have hs2 := hs1.trans s2
      have b2 : LI (upd H1 B (.lst [])) B [] := f2
      have nDB : D ≠ B := hD1.ne nB
      generalize upd H1 B (.lst []) = H2 at s2 f2 u2 d2 hs2 b2 ⊢
      refine ⟨len_le (n := 2) (by decide) rfl, fun T nT => ?_⟩
      obtain ⟨s3, f3, u3⟩ := grow (o := .tup [.ref D, .ref B]) nT
      have d3 := d2.at s3
      have b3 := b2.at s3
      have hs3 := hs2.trans s3
      have hB0 : H B = none := hs1.free nB
      refine ⟨T, _, rfl, SqT.of f3, rfl, ?_⟩
      refine ⟨.ref D, _, rfl, .ref B, _, rfl, rfl, ?_⟩
      generalize upd H2 T (.tup [.ref D, .ref B]) = H3 at s3 f3 u3 d3 b3 hs3 ⊢
      refine ⟨.ref D, rfl, D, _, rfl, SqL.of d3, for_it (walk_enum (K := K) (a := D) (xs := s.map V.int))
        (fun i σ G => ∃ y4 y5 b, σ = [some (.ref e), some (.ref l), some (.ref D), some (.ref B), y4, y5, none, none] ∧ Same H G ∧ LI G D s ∧ LI G B b ∧ b.length = i ∧ Tab s b)
        ⟨none, none, [], rfl, hs3, d3, b3, rfl, tab_nil s⟩ (fun i σ G _ h => ?_) ?_ ?_⟩
      · obtain ⟨_, _, _, _, _, d, _⟩ := h
        exact SqL.of d
      · rintro i x σ G G' hi ⟨y4, y5, b, rfl, hG, dG, bG, lb, tb⟩ ⟨T', x', y', rfl, nT', rfl, e1, e2⟩
        cases e1
        obtain ⟨z, rfl, hz⟩ := get_int e2
        have hi : i < s.length := by
          rw [List.length_map] at hi
          exact hi
        obtain ⟨s4, f4, u4⟩ := grow (o := .tup [.int (i : Nat), .int z]) nT'
        have hG4 := hG.trans s4
        have dG4 := dG.at s4
        have bG4 := bG.at s4
        generalize upd G T' (.tup [.int (i : Nat), .int z]) = G4 at s4 f4 u4 hG4 dG4 bG4 ⊢
        refine ⟨T', _, rfl, SqT.of f4, rfl, .int (i : Nat), _, rfl, .int z, _, rfl, rfl, ?_⟩
        refine ⟨.ref B, rfl, .inl ⟨rfl, _, SqL.of bG4⟩, len_le (n := 1) (by decide) rfl, fun p np => ?_⟩
        obtain ⟨s5, f5, u5⟩ := grow (o := .lst [.int 0]) np
        have hG5 := hG4.trans s5
        have dG5 := dG4.at s5
        have bG5 := bG4.at s5
        have z5 : LI (upd G4 p (.lst [.int 0])) p [0] := f5
        generalize upd G4 p (.lst [.int 0]) = G5 at s5 f5 u5 hG5 dG5 bG5 z5 ⊢
        have isl : (i : Int) ≤ 100 := by omega
        refine ⟨.int (i : Nat), rfl, (i : Nat), rfl, by omega, by omega, fun D2 nD2 => ?_⟩
        have nDD2 := dG5.ne nD2
        have nBD2 := bG5.ne nD2
        have npD2 := z5.ne nD2
        refine lc_range (lo := 0) (n := ((i : Nat) : Int).toNat) (fun j G' => G' = upd G5 D2 (.lst ((Ahead s b j z).map V.int))) rfl ?_ ?_
        · rintro j G' hj rfl
          have hj : j < i := by omega
          refine ⟨rfl, ?_⟩
          have dG6 : LI (upd G5 D2 (.lst ((Ahead s b j z).map V.int))) D s := dG5.off nDD2
          have bG6 : LI (upd G5 D2 (.lst ((Ahead s b j z).map V.int))) B b := bG5.off nBD2
          refine ⟨.ref D, rfl, .int (0 + (j : Nat)), rfl, D, _, _, .int (s.getD j 0), rfl, rfl, SqL.of dG6, ?_, .int z, rfl, _, _, rfl, rfl, _, rfl, ?_⟩
          · rw [Int.zero_add]
            exact atI_nat (get_map (get_of (by omega)))
          refine ite2 (fun m => ?_) (fun m => ?_)
          · have m : s.getD j 0 < z := of_decide_eq_true m
            refine ⟨.ref B, rfl, .int (0 + (j : Nat)), rfl, B, _, _, .int (b.getD j 0), rfl, rfl, SqL.of bG6, ?_, _, upd_same, ?_, ?_⟩
            · rw [Int.zero_add]
              exact atI_nat (get_map (get_of (by omega)))
            · rw [List.length_map]
              have := ahead_len s b j z
              exact small1000 (by omega)
            · rw [upd_upd, ahead_take m, List.map_append]
              rfl
          · have m : ¬ s.getD j 0 < z := fun k => m (decide_eq_true k)
            rw [ahead_skip m]
        · rintro G' rfl
          rw [Int.toNat_natCast]
          have hG6 : Same H (upd G5 D2 (.lst ((Ahead s b i z).map V.int))) := hG5.trans (same_upd nD2)
          have bG6 : LI (upd G5 D2 (.lst ((Ahead s b i z).map V.int))) B b := bG5.off nBD2
          have dG6 : LI (upd G5 D2 (.lst ((Ahead s b i z).map V.int))) D s := dG5.off nDD2
          have z6 : LI (upd G5 D2 (.lst ((Ahead s b i z).map V.int))) p [0] := z5.off npD2
          have a6 : LI (upd G5 D2 (.lst ((Ahead s b i z).map V.int))) D2 (Ahead s b i z) := upd_same
          have al := ahead_len s b i z
          generalize upd G5 D2 (.lst ((Ahead s b i z).map V.int)) = G6 at hG6 bG6 dG6 z6 a6 ⊢
          refine ⟨p, D2, _, _, rfl, rfl, z6, a6, ?_, fun M nM => ?_⟩
          · rw [List.length_map, List.length_map]
            exact tiny (by show 1 + _ ≤ 1000; omega)
          obtain ⟨s7, f7, u7⟩ := grow (o := .lst (([0] : List Int).map V.int ++ (Ahead s b i z).map V.int)) nM
          have hG7 := hG6.trans s7
          have dG7 := dG6.at s7
          have bG7 := bG6.at s7
          have m7 : LI (upd G6 M (.lst (([0] : List Int).map V.int ++ (Ahead s b i z).map V.int))) M (0 :: Ahead s b i z) := f7
          generalize upd G6 M (.lst (([0] : List Int).map V.int ++ (Ahead s b i z).map V.int)) = G7 at s7 f7 u7 hG7 dG7 bG7 m7 ⊢
          refine ⟨M, _, rfl, SqL.of m7, Nat.succ_pos _, fun m hm hle => ?_⟩
          refine ⟨1, m, rfl, rfl, B, _, _, rfl, rfl, bG7, ?_, ?_⟩
          · rw [List.length_map]
            exact small1000 (by omega)
          refine ⟨_, _, b ++ [1 + m], rfl, hG7.put hB0, dG7.off nDB, ?_, ?_, ?_⟩
          · show upd G7 B _ B = _
            rw [upd_same, List.map_append]
            rfl
          · rw [List.length_append, lb]
            rfl
          · exact tb.step (by rw [lb]; exact hz) (by rw [lb]; exact top_of hm hle)
      · rintro σ G ⟨y4, y5, b, rfl, hG, dG, bG, lb, tb⟩
        have lb : b.length = s.length := by
          rw [List.length_map] at lb
          exact lb
        refine ⟨len_le (n := 1) (by decide) rfl, fun p np => ?_⟩
        obtain ⟨s5, f5, u5⟩ := grow (o := .lst [.int 0]) np
        have hG5 := hG.trans s5
        have bG5 := bG.at s5
        have z5 : LI (upd G p (.lst [.int 0])) p [0] := f5
        generalize upd G p (.lst [.int 0]) = G5 at s5 f5 u5 hG5 bG5 z5 ⊢
        refine ⟨.ref B, rfl, p, B, _, _, rfl, rfl, z5, bG5, ?_, fun M nM => ?_⟩
        · rw [List.length_map, List.length_map]
          exact tiny (by show 1 + _ ≤ 1000; omega)
        obtain ⟨s7, f7, u7⟩ := grow (o := .lst (([0] : List Int).map V.int ++ b.map V.int)) nM
        refine ⟨M, 0 :: b, rfl, SqL.of f7, Nat.succ_pos _, fun m hm hle => ?_⟩
        obtain ⟨n, rfl, hn⟩ := tb.lis lb (top_of hm hle)
        exact fin _ n (hG5.trans s7) hn
end
end K6
namespace K6
open PySem PySem.Spec PyProof.Rows L2

abbrev nmKept : List Str := ["_law_early", "_law_late", "_law_both", "_law_best", "_law_lot", "_law_spots", "_law_one", "_law_at"]
theorem scKept : FnScope ["_law_early", "_law_late", "_law_both", "_law_best", "_law_lot", "_law_spots", "_law_one", "_law_at"] ["_law_early", "_law_late"] (defScope sKept) :=
  ⟨rfl, rfl, rfl, by decide +kernel, rfl, by decide +kernel, by decide +kernel⟩

theorem perm_sorted : ∀ {l m : List Int}, l.Perm m → l.Pairwise (· ≤ ·) → m.Pairwise (· ≤ ·) → l = m
  | [], m, p, _, _ => (List.nil_perm.mp p).symm
  | x :: l, [], p, _, _ => absurd p (by simp)
  | x :: l, y :: m, p, hl, hm => by
    have hx : x ∈ y :: m := p.mem_iff.mp List.mem_cons_self
    have hy : y ∈ x :: l := p.mem_iff.mpr List.mem_cons_self
    have h1 : y ≤ x := by
      rcases List.mem_cons.mp hx with e | e
      · omega
      · exact (List.pairwise_cons.mp hm).1 x e
    have h2 : x ≤ y := by
      rcases List.mem_cons.mp hy with e | e
      · omega
      · exact (List.pairwise_cons.mp hl).1 y e
    have e : x = y := by omega
    subst e
    rw [perm_sorted (List.perm_cons _ |>.mp p) (List.pairwise_cons.mp hl).2 (List.pairwise_cons.mp hm).2]

/-- whether a bit stands, as the law asks it -/
theorem bit_law (l i : Nat) : (Builtin.bitAnd ((l : Int) / 2 ^ ((i : Int).toNat)) 1 = 1) ↔ bit l i = true := by
  have h0 : (0 : Int) ≤ (l : Int) / 2 ^ ((i : Int).toNat) := Int.ediv_nonneg (by omega) (Int.le_of_lt (Int.pow_pos (by decide)))
  have e := Bits.bitAnd_mask 1 h0
  rw [show ((2 : Int) ^ 1 - 1) = 1 by decide] at e
  rw [e]
  unfold bit
  rw [decide_eq_true_eq, Int.toNat_natCast, show ((2 : Int) ^ 1) = 2 by decide]
  rw [show ((l : Int) / 2 ^ i) = ((l / 2 ^ i : Nat) : Int) by simp]
  omega

theorem pick_take {l i : Nat} {s : List Int} {x : Int} (h : s[i]? = some x) : pick l 0 (s.take (i + 1)) = pick l 0 (s.take i) ++ if bit l i = true then [x] else [] := by
  have hi := (List.getElem?_eq_some_iff.mp h).1
  rw [List.take_add_one, h]
  show pick l 0 (s.take i ++ [x]) = _
  rw [pick_snoc, Nat.zero_add, List.length_take, Nat.min_eq_left (by omega)]
theorem pick_len (l off : Nat) (s : List Int) : (pick l off s).length ≤ s.length := (pick_sub l off s).length_le

def spKept (K : PySem.W.Frag) : Sp := fun vs H Q _ => ∃ (e l : Addr) (early late : List Int), vs = [.ref e, .ref l] ∧ LI H e early ∧ LI H l late ∧
  late.length ≤ 8 ∧ late.Nodup ∧ ∀ H' n, Same H H' → IsLis (spots early late) n → Q (.int (n : Nat)) H'

section
variable {P : Program} {w : World} {K : PySem.W.Frag} {mg : Str → Option Value} {base : Heap}

theorem ok_kept {f : Addr} {fd : FuncData} (F : Fun K "_law_most_kept" "_law_most_kept" sKept f fd) (Z : Bare mg) (mE : mg "enumerate" = none) (mS : mg "sorted" = none) :
    FnOk P w K mg base CX0 1 f fd ["_law_early", "_law_late"] (spKept K) := by
  refine F.ok scKept (fun vs H Q E h => ?_) (fun cdv A outer s H vs Q E hr h => ?_)
  · obtain ⟨e, l, early, late, rfl, _⟩ := h
    rfl
  · obtain ⟨e, l, early, late, rfl, he, hl, n1, nd, q⟩ := h
    refine ⟨_, pss_cons (ps_par (i := 2) (j := 3) rfl scKept.nd rfl rfl (by decide) rfl rfl (pa_cons
          (pe_lc (own := [("_law_one", 6)]) (g := gName 6) rfl scKept.nd (pi_list (pv 1))
            (blkOk_by (N := ["_law_early", "_law_late", "_law_both", "_law_best", "_law_lot", "_law_spots", "_law_one", "_law_at"]) (sc := defScope sKept) (by decide +kernel))
            (fun _ _ _ _ _ => pg_name (i := 6) scKept.nd rfl (Or.inl rfl))
            (fun _ _ _ _ _ => pts_one (pt_cmpR (r := rIn K false) op_in_seq (pv 6) (pv 0) (by with_unfolding_all rfl)))
            (fun _ _ _ _ _ => pv 6))
          (pa_cons pe_int pa_nil)) (by rfl))
      (pss_cons (ps_for PassesOwn.never rfl (pi_range1 (by rfl) Z.range (pa_cons (pe_op op_shl pe_int
            (pe_callB call_len_seq (by rfl) Z.len PySem.boot_len (pa_cons (pv 2) pa_nil))) pa_nil))
          (pg_name (i := 4) scKept.nd rfl (.inr rfl))
        (pss_cons (ps_setLc (i := 5) (own := [("_law_at", 7), ("_law_one", 6)]) (g := gTup K 2 (gCons (gName 7) (gCons (gName 6) gNil))) rfl scKept.nd rfl rfl (sw_true rfl rfl rfl (by decide +kernel))
            (pi_enum (by rfl) mE (pa_cons (pv 2) pa_nil))
            (blkOk_by (N := ["_law_early", "_law_late", "_law_both", "_law_best", "_law_lot", "_law_spots", "_law_one", "_law_at"]) (sc := defScope sKept) (by decide +kernel))
            (fun _ _ _ _ _ => pg_tup rfl (pgs_cons (pg_name (i := 7) scKept.nd rfl (.inl rfl)) (pgs_cons (pg_name (i := 6) scKept.nd rfl (.inl rfl)) pgs_nil)))
            (fun _ _ _ _ _ => pts_one (pt_cmpR op_eq (pe_op op_and (pe_op op_shr (pv 4) (pv 7)) pe_int) pe_int (nomark _)))
            (fun _ _ _ _ _ => show PE _ _ (tBM K "list" (rLstIx K) (tVar 0) (tCons (tVar 6) tNil)) from
              pe_bm PySem.F.plainAttrs_list PySem.F.slot_list_index PySem.F.type_list_index mt_indexI (pv 0) (pa_cons (pv 6) pa_nil)))
        (pss_one (ps_if (pt_cmpR (op_eqD hr.units) (pv 5) (pe_callB cr_sorted (by rfl) mS (by decide +kernel) (pa_cons (pv 5) pa_nil)) (nomark _))
          (pss_one (ps_set (i := 3) scKept.nd rfl (.inl rfl) (pe_callB (call_max2 rfl) (by rfl) Z.max (by decide +kernel) (pa_cons (pv 3) (pa_cons
            (pe_callB call_len_seq (by rfl) Z.len PySem.boot_len (pa_cons (pv 5) pa_nil)) pa_nil)))))
          pss_nil))))
      (pss_one (ps_ret (pv 3)))), ?_⟩
    -- both
    refine ⟨.ref l, rfl, l, rfl, ⟨_, SqL.of hl⟩, fun D nD => ?_⟩
    have nlD := hl.ne nD
    have neD := he.ne nD
    refine lc_list (K := K) (a := l) (xs := late.map V.int) (fun i G => G = upd H D (.lst ((both early (late.take i)).map V.int))) rfl (fun i G _ z => ?_) ?_ ?_
    · rw [z]
      exact SqL.of (hl.off nlD)
    · rintro i x G hx rfl
      obtain ⟨z, rfl, hz⟩ := get_int hx
      refine ⟨rfl, ?_⟩
      have he' : LI (upd H D (.lst ((both early (late.take i)).map V.int))) e early := he.off neD
      refine ⟨.int z, rfl, .ref e, rfl, e, _, rfl, .inl (SqL.of he'), rfl, flat_ints _, _, rfl, ?_⟩
      show if inV (.int z) (early.map V.int) = true then _ else _
      rw [inV_ints]
      refine ite2 (fun m => ?_) (fun m => ?_)
      · have m := of_decide_eq_true m
        refine ⟨.int z, rfl, _, upd_same, ?_, ?_⟩
        · rw [List.length_map]
          have := both_len early (late.take i)
          have := take_len (xs := late) (i := i)
          exact small1000 (by omega)
        · rw [upd_upd, both_take hz, if_pos m, List.map_append]
          rfl
      · have m : z ∉ early := fun k => m (decide_eq_true k)
        rw [both_take hz, if_neg m, List.append_nil]
    · rintro G rfl
      rw [List.length_map, List.take_length]
      have hs1 : Same H (upd H D (.lst ((both early late).map V.int))) := same_upd nD
      have hD1 : LI (upd H D (.lst ((both early late).map V.int))) D (both early late) := upd_same
      have he1 : LI (upd H D (.lst ((both early late).map V.int))) e early := he.off neD
      have bl := both_len early late
      have bm : ∀ z ∈ both early late, z ∈ early := fun z h => (mem_both h).2
      have sn := spots_nodup (early := early) nd
      have fin : ∀ H' n, Same H H' → IsLis ((both early late).map (place early)) n → Q (.int (n : Nat)) H' := q
      have sn : ((both early late).map (place early)).Nodup := sn
      revert hs1 hD1 he1
      generalize upd H D (.lst ((both early late).map V.int)) = H1
      generalize both early late = bt at bl bm sn fin
      intro hs1 hD1 he1
      have bl8 : bt.length ≤ 8 := by omega
      have p256 : 2 ^ bt.length ≤ 256 := Nat.pow_le_pow_right (by decide) bl8
      have pe : (1 : Int) * 2 ^ ((bt.map V.int).length : Int).toNat = ((2 ^ bt.length : Nat) : Int) := by
        rw [List.length_map, Int.toNat_natCast]
        simp
      refine ⟨.ref D, .int 0, rfl, ?_⟩
      refine ⟨.ref D, rfl, D, _, rfl, .inl (SqL.of hD1), 1, _, rfl, rfl, ⟨by omega, by rw [List.length_map]; omega, by decide⟩, ((2 ^ bt.length : Nat) : Int), congrArg (fun z => [V.int z]) pe, ?_⟩
      have b0 : -(2 ^ 62) ≤ ((2 ^ bt.length : Nat) : Int) := Int.le_trans (by decide) (Int.natCast_nonneg _)
      have b1 : ((2 ^ bt.length : Nat) : Int) < 2 ^ 62 := Int.lt_of_le_of_lt (Int.ofNat_le.mpr p256) (by decide)
      refine ⟨b0, b1, for_range (lo := 0) (n := ((2 ^ bt.length : Nat) : Int).toNat)
        (fun k σ G => ∃ y4 y5 m, σ = [some (.ref e), some (.ref l), some (.ref D), some (.int (m : Nat)), y4, y5, none, none] ∧ Same H G ∧ LI G D bt ∧ LI G e early ∧ Best (bt.map (place early)) k m)
        ⟨none, none, 0, rfl, hs1, hD1, he1, best_zero _⟩ ?_ ?_⟩
      · rintro k σ G hk ⟨y4, y5, m, rfl, hG, dG, eG, best⟩
        rw [Int.zero_add]
        refine ⟨.ref D, rfl, D, _, rfl, SqL.of dG, fun D2 nD2 => ?_⟩
        have nDD := dG.ne nD2
        have neD2 := eG.ne nD2
        refine lc_it (walk_enum (K := K) (a := D) (xs := bt.map V.int)) (fun i G' => Same G G' ∧ LI G' D2 (pick k 0 ((bt.take i).map (place early)))) ⟨same_upd nD2, upd_same⟩ (fun i G' _ z => SqL.of (z.1 _ _ dG)) ?_ ?_
        · rintro i x G1 G2 hi ⟨s1, l1⟩ ⟨T, x', y', rfl, nT, rfl, e1, e2⟩
          cases e1
          obtain ⟨z, rfl, hz⟩ := get_int e2
          obtain ⟨s4, f4, u4⟩ := grow (o := .tup [.int (i : Nat), .int z]) nT
          have s2 := s1.trans s4
          have l2 := l1.at s4
          generalize upd G1 T (.tup [.int (i : Nat), .int z]) = G2 at s4 f4 u4 s2 l2 ⊢
          refine ⟨T, _, rfl, SqT.of f4, rfl, .int (i : Nat), _, rfl, .int z, _, rfl, rfl, rfl, ?_⟩
          refine ⟨.int (k : Nat), rfl, .int (i : Nat), rfl, _, _, rfl, rfl, by omega, _, _, rfl, rfl, rfl, _, rfl, ?_⟩
          have zm : z ∈ early := bm z (List.mem_of_getElem? hz)
          have ez : ((bt.map (place early))[i]? = some (place early z)) := by rw [List.getElem?_map, hz]; rfl
          have pt := pick_take (l := k) ez
          rw [← List.map_take, ← List.map_take] at pt
          refine ite2 (fun c => ?_) (fun c => ?_)
          · have c : bit k i = true := (bit_law k i).mp (by simpa using c)
            rw [if_pos c] at pt
            refine ⟨.ref e, rfl, .inl ⟨rfl, _, SqL.of (s2 _ _ eG)⟩, .int z, rfl, e, early, z, rfl, rfl, SqL.of (s2 _ _ eG), zm, _, l2, ?_, ?_, ?_⟩
            · rw [List.length_map]
              have h1 := pick_len k 0 ((bt.take i).map (place early))
              rw [List.length_map] at h1
              have h2 := take_len (xs := bt) (i := i)
              exact small1000 (by omega)
            · exact s2.put nD2
            · rw [pt]
              show upd G2 D2 _ D2 = _
              rw [upd_same, List.map_append]
              rfl
          · have c : ¬ bit k i = true := fun z => c (by simpa using (bit_law k i).mpr z)
            rw [if_neg c, List.append_nil] at pt
            rw [pt]
            exact ⟨s2, l2⟩
        · rintro G1 ⟨s1, l1⟩
          rw [List.length_map, List.take_length] at l1
          have hG1 := hG.trans s1
          have dG1 := dG.at s1
          have eG1 := eG.at s1
          have kl := pick_len k 0 (bt.map (place early))
          rw [List.length_map] at kl
          have kn : (pick k 0 (bt.map (place early))).Nodup := sn.sublist (pick_sub k 0 _)
          have bk := best.keep (k := k)
          have bs := best.skip (k := k)
          revert l1
          generalize pick k 0 (bt.map (place early)) = pk at kl kn bk bs
          intro l1
          refine ⟨.ref D2, rfl, .ref D2, rfl, D2, pk, rfl, SqL.of l1, by omega, fun ns' p pm srt np => ?_⟩
          obtain ⟨s4, f4, u4⟩ := grow (o := .lst (ns'.map V.int)) np
          have hG4 := hG1.trans s4
          have dG4 := dG1.at s4
          have eG4 := eG1.at s4
          have l4 := l1.at s4
          have n4 : LI (upd G1 p (.lst (ns'.map V.int))) p ns' := f4
          generalize upd G1 p (.lst (ns'.map V.int)) = G4 at s4 f4 u4 hG4 dG4 eG4 l4 n4 ⊢
          refine ⟨_, _, l4.dp, n4.dp, shaped_li _, shaped_li _, _, rfl, ?_⟩
          rw [eqv_li]
          refine ite2 (fun c => ?_) (fun c => ?_)
          · have c : pk = ns' := of_decide_eq_true c
            have ic : Inc pk := inc_of_le (c ▸ srt) kn
            refine ⟨.int (m : Nat), rfl, .ref D2, rfl, D2, _, rfl, .inl (SqL.of l4), _, _, rfl, ?_⟩
            have ev : (if ((pk.map V.int).length : Int) > (m : Int) then ((pk.map V.int).length : Int) else (m : Int)) = ((max m pk.length : Nat) : Int) := by
              rw [List.length_map]
              split <;> omega
            exact ⟨some (.int (k : Nat)), some (.ref D2), max m pk.length, congrArg (fun z => [some (V.ref e), some (.ref l), some (.ref D), some (.int z), some (.int (k : Nat)), some (.ref D2), none, none]) ev, hG4, dG4, eG4, bk ic⟩
          · have c : pk ≠ ns' := fun z => c (decide_eq_true z)
            have ni : ¬ Inc pk := fun z => c (perm_sorted pm.symm (le_of_inc z) srt)
            exact ⟨_, _, m, rfl, hG4, dG4, eG4, bs ni⟩
      · rintro σ G ⟨y4, y5, m, rfl, hG, dG, eG, best⟩
        rw [Int.toNat_natCast] at best
        refine ⟨.int (m : Nat), rfl, fin G m hG (Best.lis ?_)⟩
        rw [List.length_map]
        exact best
end
end K6
namespace K6
open PySem PySem.Spec PyProof.Rows L2

/-- what the program's moves must do -/
def spMoves : Sp := fun vs H Q _ => ∃ (e l : Addr) (early late : List Int), vs = [.ref e, .ref l] ∧ FTup H e (early.map V.int) ∧ FTup H l (late.map V.int) ∧
  early.length ≤ 100 ∧ late.length ≤ 100 ∧ early.Nodup ∧ late.Nodup ∧
  ∀ H' n, Same H H' → IsLis (spots early late) n → Q (.int (((both early late).length : Int) - (n : Nat))) H'
end K6
namespace K6
open PySem PySem.Spec PyProof.Rows L2

theorem scLaw : FnScope ["_law_script", "_law_k", "_law_box_here", "_law_turn", "_law_early", "_law_late", "_law_due", "_law_both", "_law_told", "_law_one"] ["_law_script"] (defScope sLaw) :=
  ⟨rfl, rfl, rfl, by decide +kernel, rfl, by decide +kernel, by decide +kernel⟩

/-! ### lists of whole numbers, one by one -/
def rg (n : Nat) : List Int := (List.range n).map fun i : Nat => (i : Int)
theorem rgV_rg (b : Int) : rgV 0 b = (rg b.toNat).map V.int := by
  unfold rgV rg
  rw [List.map_map, Int.sub_zero]
  refine List.map_congr_left fun i _ => ?_
  show V.int (0 + (i : Int)) = V.int (i : Int)
  rw [Int.zero_add]
theorem rg_nodup (n : Nat) : (rg n).Nodup := List.pairwise_map.mpr (List.nodup_range.imp fun {a b} h e => h (by
  have e : (a : Int) = (b : Int) := e
  omega))
theorem rg_lt {n : Nat} {x : Int} (h : x ∈ rg n) : 0 ≤ x ∧ x < n := by
  obtain ⟨i, hi, e⟩ := List.mem_map.mp h
  have := List.mem_range.mp hi
  omega
theorem rg_len (n : Nat) : (rg n).length = n := by
  unfold rg
  rw [List.length_map, List.length_range]

instance (l : List Int) : Decidable (Inc l) := inferInstanceAs (Decidable (l.Pairwise (· < ·)))
/-- lis by all lots, reckoned -/
def lisB (s : List Int) : Nat → Nat
  | 0 => 0
  | k + 1 => if Inc (pick k 0 s) then max (lisB s k) (pick k 0 s).length else lisB s k
theorem lisB_best (s : List Int) : ∀ k, Best s k (lisB s k)
  | 0 => best_zero s
  | k + 1 => by
    unfold lisB
    split
    · next h => exact (lisB_best s k).keep h
    · next h => exact (lisB_best s k).skip h
theorem lis_is {s : List Int} {n m : Nat} (h : IsLis s n) (e : lisB s (2 ^ s.length) = m) : n = m := by
  rw [← e]
  exact h.uniq (lisB_best s _).lis

/-- the last ones that come -/
def more (r : Int) : List Int := ([20, 30] : List Int).take r.toNat
theorem more_cut {r : Int} (h0 : 0 ≤ r) (h1 : r < 3) : cutV [.int 20, .int 30] none (some r) = (more r).map V.int := by
  have c : r = 0 ∨ r = 1 ∨ r = 2 := by omega
  rcases c with e | e | e <;> subst e <;> decide +kernel
theorem more_sub (r : Int) : (more r).Sublist [20, 30] := List.take_sublist _ _
theorem more_len (r : Int) : (more r).length ≤ 2 := (more_sub r).length_le
theorem more_nodup (r : Int) : (more r).Nodup := (show ([20, 30] : List Int).Nodup by decide).sublist (more_sub r)
theorem more_mem {r x : Int} (h : x ∈ more r) : x = 20 ∨ x = 30 := by
  have := (more_sub r).subset h
  simpa using this

theorem nodup_app {a b : List Int} (ha : a.Nodup) (hb : b.Nodup) (d : ∀ x ∈ a, ∀ y ∈ b, x ≠ y) : (a ++ b).Nodup := List.pairwise_append.mpr ⟨ha, hb, d⟩

theorem Kept.same {b : Addr} {H G G' : Hp} (s : Same H G) (n : H b = none) (k : Kept b G G') : Same H G' := fun a u e => k a u (s a u e) (ne_of_none e n)

def spLaw (K : PySem.W.Frag) : Sp := fun vs H Q _ => ∃ (a : Addr) (ns : List Int), vs = [.ref a] ∧ SqL K H a (ns.map V.int) ∧ ns.length ≤ 63 ∧ ∀ H', Q (.bl true) H'

theorem log_small {i : Int} (h : -1000 ≤ i) (h2 : i ≤ 1000) : i.natAbs.log2 < 1920 := by
  have e : i.natAbs < 2 ^ 10 := by omega
  have := bits_le e (by decide)
  omega

section
variable {P : Program} {w : World} {K : PySem.W.Frag} {mg : Str → Option Value} {base : Heap}

set_option maxHeartbeats 4000000 in
theorem ok_law {f fB fS fO fT fM fK fL : Addr} {fd fdB fdS fdO fdT fdM fdK fdL : FuncData} {km : Nat} (F : Fun K "law" "law" sLaw f fd) (Z : Bare mg) (mT : mg "tuple" = none)
    (FB : Fun K "_law_box" "_law_box" sBox fB fdB) (bB : Binds K fdB ["_law_script", "_law_k"] []) (gB : mg "_law_box" = some (.ref fB))
    (FS : Fun K "_law_stirred" "_law_stirred" sStir fS fdS) (bS : Binds K fdS ["_law_box_here", "_law_some"] []) (gS : mg "_law_stirred" = some (.ref fS))
    (GS : FnOk P w K mg base CX0 3 fS fdS ["_law_box_here", "_law_some"] spStir)
    (FO : Fun K "_law_of" "_law_of" sOf fO fdO) (bO : Binds K fdO ["_law_box_here", "_law_some"] []) (gO : mg "_law_of" = some (.ref fO))
    (GO : FnOk P w K mg base CX0 2 fO fdO ["_law_box_here", "_law_some"] spOf)
    (FT : Fun K "_law_take" "_law_take" sTake fT fdT) (bT : Binds K fdT ["_law_box_here", "_law_many"] []) (gT : mg "_law_take" = some (.ref fT))
    (GT : FnOk P w K mg base CX0 1 fT fdT ["_law_box_here", "_law_many"] spTake)
    (FK : Fun K "_law_most_kept" "_law_most_kept" sKept fK fdK) (bK : Binds K fdK ["_law_early", "_law_late"] []) (gK : mg "_law_most_kept" = some (.ref fK))
    (GK : FnOk P w K mg base CX0 1 fK fdK ["_law_early", "_law_late"] (spKept K))
    (FL : Fun K "_law_longest" "_law_longest" sLong fL fdL) (bL : Binds K fdL ["_law_early", "_law_late"] []) (gL : mg "_law_longest" = some (.ref fL))
    (GL : FnOk P w K mg base CX0 1 fL fdL ["_law_early", "_law_late"] (spLong K))
    (kM : PySem.W.keepIn K (.ref fM) = true) (bM : Binds K fdM ["old", "new"] []) (gM : mg "moves" = some (.ref fM)) (hkm : km ≤ 3)
    (bk : ∀ (s : Shared) (u u2 : Value), BindsTo s fdM ⟨[], [("new", u), ("old", u2)]⟩ [("old", u2), ("new", u)])
    (GM : FnOk P w K mg base CX0 km fM fdM ["old", "new"] spMoves) : FnOk P w K mg base CX0 4 f fd ["_law_script"] (spLaw K) := by
  have GB : FnOk P w K mg base CX0 1 fB fdB ["_law_script", "_law_k"] (spBox K) := ok_box FB Z
  refine F.ok scLaw (fun vs H Q E h => ?_) (fun cdv A outer s H vs Q E hr h => ?_)
  · obtain ⟨a, ns, rfl, _⟩ := h
    rfl
  · obtain ⟨a, ns, rfl, hS, hn, q⟩ := h
    have hr1 : Room 1 _ := hr.mono (by decide)
    have hr2 : Room 2 _ := hr.mono (by decide)
    have hrm : Room km _ := hr.mono hkm
    refine ⟨_, pss_cons (ps_for PassesOwn.never rfl (pi_range1 (by rfl) Z.range (pa_cons (pe_op op_add pe_int (pe_callB (call_min2 rfl) (by rfl) Z.min (by decide +kernel)
          (pa_cons pe_int (pa_cons (pe_callB call_len_seq (by rfl) Z.len PySem.boot_len (pa_cons (pv 0) pa_nil)) pa_nil)))) pa_nil)) (pg_name (i := 1) scLaw.nd rfl (.inl rfl))
        (pss_cons (ps_set (i := 2) scLaw.nd rfl (.inr rfl) (pe_call GB hr1 (by rfl) gB FB.kp bB .nil pass0 (pa_cons (pv 0) (pa_cons (pv 1) pa_nil))))
        (pss_one (ps_for PassesOwn.never rfl (pi_range1 (by rfl) Z.range (pa_cons pe_int pa_nil)) (pg_name (i := 3) scLaw.nd rfl (.inl rfl))
          (pss_cons (ps_set (i := 4) scLaw.nd rfl (.inr rfl) (pe_call GS hr (by rfl) gS FS.kp bS .nil pass0 (pa_cons (pv 2) (pa_cons
              (pe_listRg rfl (by rfl) Z.list (prg_1 (by rfl) Z.range (pe_call GO hr2 (by rfl) gO FO.kp bO .nil pass0 (pa_cons (pv 2) (pa_cons
                (pe_lst (pa_cons pe_int (pa_cons pe_int (pa_cons pe_int pa_nil)))) pa_nil))))) pa_nil))))
          (pss_cons (ps_set (i := 5) scLaw.nd rfl (.inl rfl) (pe_call GS hr (by rfl) gS FS.kp bS .nil pass0 (pa_cons (pv 2) (pa_cons
              (pe_op op_cat
                (pe_lc (own := [("_law_one", 9)]) (g := gName 9) rfl scLaw.nd (pi_list (pv 4))
                  (blkOk_by (N := ["_law_script", "_law_k", "_law_box_here", "_law_turn", "_law_early", "_law_late", "_law_due", "_law_both", "_law_told", "_law_one"]) (sc := defScope sLaw) (by decide +kernel))
                  (fun _ _ _ _ _ => pg_name (i := 9) scLaw.nd rfl (Or.inl rfl))
                  (fun _ _ _ _ _ => pts_one (pt_cmpR op_gt (pe_call GT hr1 (by rfl) gT FT.kp bT .nil pass0 (pa_cons (pv 2) (pa_cons pe_int pa_nil))) pe_int (nomark _)))
                  (fun _ _ _ _ _ => pv 9))
                (pe_slice sl_list (pe_lst (pa_cons pe_int (pa_cons pe_int pa_nil))) po_none
                  (po_some (pe_call GT hr1 (by rfl) gT FT.kp bT .nil pass0 (pa_cons (pv 2) (pa_cons pe_int pa_nil)))))) pa_nil))))
          (pss_cons (ps_set (i := 6) scLaw.nd rfl (.inl rfl) (pe_op op_sub
              (pe_callB call_len_seq (by rfl) Z.len PySem.boot_len (pa_cons
                (pe_lc (own := [("_law_one", 9)]) (g := gName 9) rfl scLaw.nd (pi_list (pv 5))
                  (blkOk_by (N := ["_law_script", "_law_k", "_law_box_here", "_law_turn", "_law_early", "_law_late", "_law_due", "_law_both", "_law_told", "_law_one"]) (sc := defScope sLaw) (by decide +kernel))
                  (fun _ _ _ _ _ => pg_name (i := 9) scLaw.nd rfl (Or.inl rfl))
                  (fun _ _ _ _ _ => pts_one (pt_cmpR (r := rIn K false) op_in_seq (pv 9) (pv 4) (by with_unfolding_all rfl)))
                  (fun _ _ _ _ _ => pv 9)) pa_nil))
              (pe_call GL hr1 (by rfl) gL FL.kp bL .nil pass0 (pa_cons (pe_callTy call_tupleF (by rfl) mT (by decide +kernel) (pa_cons (pv 4) pa_nil))
                (pa_cons (pe_callTy call_tupleF (by rfl) mT (by decide +kernel) (pa_cons (pv 5) pa_nil)) pa_nil)))))
          (pss_cons (ps_if (PW.pt (pw_or (pt_cmpR op_ne
                (pe_callB SkE.call_repr_int (by rfl) Z.repr (by decide +kernel) (pa_cons
                  (pe_call GM hrm (by rfl) gM kM bM .nil pass0 (pa_cons (pe_callTy call_tupleF (by rfl) mT (by decide +kernel) (pa_cons (pv 4) pa_nil))
                    (pa_cons (pe_callTy call_tupleF (by rfl) mT (by decide +kernel) (pa_cons (pv 5) pa_nil)) pa_nil))) pa_nil))
                (pe_callB SkE.call_repr_int (by rfl) Z.repr (by decide +kernel) (pa_cons (pv 6) pa_nil)) (nomark _))
              (pw_or1 (pt_cmpR op_ne
                  (pe_call GM hrm (by rfl) gM kM bM .nil pass0 (pa_cons (pe_callTy call_tupleF (by rfl) mT (by decide +kernel) (pa_cons (pv 4) pa_nil))
                    (pa_cons (pe_callTy call_tupleF (by rfl) mT (by decide +kernel) (pa_cons (pv 4) pa_nil)) pa_nil)))
                  pe_int (nomark _)))))
            (pss_one (ps_ret pe_bl)) pss_nil)
          (pss_cons (ps_setLc (i := 7) (own := [("_law_one", 9)]) (g := gName 9) rfl scLaw.nd rfl rfl (sw_true rfl rfl rfl (by decide +kernel)) (pi_list (pv 5))
                  (blkOk_by (N := ["_law_script", "_law_k", "_law_box_here", "_law_turn", "_law_early", "_law_late", "_law_due", "_law_both", "_law_told", "_law_one"]) (sc := defScope sLaw) (by decide +kernel))
                  (fun _ _ _ _ _ => pg_name (i := 9) scLaw.nd rfl (Or.inl rfl))
                  (fun _ _ _ _ _ => pts_one (pt_cmpR (r := rIn K false) op_in_seq (pv 9) (pv 4) (by with_unfolding_all rfl)))
                  (fun _ _ _ _ _ => pv 9))
          (pss_one (ps_if (PW.pt (pw_and (pt_cmpR op_lt (pe_callB call_len_seq (by rfl) Z.len PySem.boot_len (pa_cons (pv 5) pa_nil)) pe_int (nomark _))
              (pw_and1 (pt_cmpR op_ne (pe_op op_sub (pe_callB call_len_seq (by rfl) Z.len PySem.boot_len (pa_cons (pv 7) pa_nil))
                (pe_call GK hr1 (by rfl) gK FK.kp bK .nil pass0 (pa_cons (pv 4) (pa_cons (pv 5) pa_nil)))) (pv 6) (nomark _)))))
            (pss_one (ps_ret pe_bl)) pss_nil)))))))))))
      (pss_cons (ps_set (i := 8) scLaw.nd rfl (.inl rfl) (pe_lst
          (pa_cons (pe_call GM hrm (by rfl) gM kM bM .nil pass0 (pa_cons (pe_tupF (pa_cons pe_int (pa_cons pe_int (pa_cons pe_int (pa_cons pe_int pa_nil))))) (pa_cons (pe_tupF (pa_cons pe_int (pa_cons pe_int (pa_cons pe_int (pa_cons pe_int pa_nil))))) pa_nil)))
          (pa_cons (pe_call GM hrm (by rfl) gM kM bM .nil pass0 (pa_cons (pe_tupF (pa_cons pe_int (pa_cons pe_int (pa_cons pe_int (pa_cons pe_int pa_nil))))) (pa_cons (pe_tupF (pa_cons pe_int (pa_cons pe_int (pa_cons pe_int (pa_cons pe_int pa_nil))))) pa_nil)))
          (pa_cons (pe_callKw2 GM hrm (by rfl) gM rfl kM bk pass0 (pe_tupF (pa_cons pe_int (pa_cons pe_int (pa_cons pe_int pa_nil)))) (pe_tupF (pa_cons pe_int (pa_cons pe_int (pa_cons pe_int pa_nil)))))
          pa_nil)))))
      (pss_one (ps_ret (pe_cmpR (op_eqD hr.units) (pe_op op_cat (pv 8) (pe_lst
          (pa_cons (pe_call GM hrm (by rfl) gM kM bM .nil pass0 (pa_cons (pe_tupF pa_nil) (pa_cons (pe_tupF pa_nil) pa_nil)))
          (pa_cons (pe_call GM hrm (by rfl) gM kM bM .nil pass0 (pa_cons (pe_tupF (pa_cons pe_int (pa_cons pe_int pa_nil))) (pa_cons (pe_tupF (pa_cons pe_int pa_nil)) pa_nil)))
          (pa_cons (pe_call GM hrm (by rfl) gM kM bM .nil pass0 (pa_cons (pe_tupF (pa_cons pe_int (pa_cons pe_int pa_nil))) (pa_cons (pe_tupF (pa_cons pe_int (pa_cons pe_int pa_nil))) pa_nil)))
          pa_nil)))))
          (pe_lst (pa_cons pe_int (pa_cons pe_int (pa_cons pe_int (pa_cons pe_int (pa_cons pe_int (pa_cons pe_int pa_nil))))))) (nomark _))))), ?_⟩
    -- how many cells
    refine ⟨.ref a, rfl, a, _, rfl, .inl hS, 2, _, rfl, 1, _, rfl, rfl, _, rfl, ?_⟩
    have hN : 0 ≤ (1 + (if ((ns.map V.int).length : Int) < 2 then ((ns.map V.int).length : Int) else 2)) ∧ (1 + (if ((ns.map V.int).length : Int) < 2 then ((ns.map V.int).length : Int) else 2)) ≤ 3 := by
      split <;> omega
    generalize (1 + (if ((ns.map V.int).length : Int) < 2 then ((ns.map V.int).length : Int) else 2)) = N at hN ⊢
    refine ⟨by omega, by omega, for_range (lo := 0) (n := N.toNat) (fun k σ G => ∃ y1 y2 y3 y4 y5 y6 y7, σ = [some (.ref a), y1, y2, y3, y4, y5, y6, y7, none, none] ∧ Same H G)
      ⟨none, none, none, none, none, none, none, rfl, Same.refl H⟩ ?_ ?_⟩
    · rintro k σ G hk ⟨y1, y2, y3, y4, y5, y6, y7, rfl, hG⟩
      have hk3 : k < 3 := by omega
      rw [Int.zero_add]
      refine ⟨.ref a, rfl, .int (k : Nat), rfl, a, ns, (k : Nat), rfl, hG.seq hS, by omega, by omega, fun G1 b s1 nb b1 => ?_⟩
      have hG1 := hG.trans s1
      have nbH : H b = none := hG.free nb
      refine ⟨8, rfl, by decide, by decide, for_range (lo := 0) (n := 8) (fun t σ G' => ∃ y3 y4 y5 y6 y7, σ = [some (.ref a), some (.int (k : Nat)), some (.ref b), y3, y4, y5, y6, y7, none, none] ∧ Same H G' ∧ Box (100 * (t : Nat)) G' b)
        ⟨y3, y4, y5, y6, y7, rfl, hG1, by simpa using b1⟩ ?_ ?_⟩
      · rintro t σ G2 ht ⟨y3, y4, y5, y6, y7, rfl, hG2, b2⟩
        have ht : t < 8 := ht
        -- early
        refine ⟨.ref b, rfl, .ref b, rfl, len_le (n := 3) (by decide) rfl, fun p np => ?_⟩
        obtain ⟨s3, f3, u3⟩ := grow (o := .lst [.int 3, .int 7, .int 12]) np
        have hG3 := hG2.trans s3
        have b3 := b2.at s3
        have npb := b2.ne np
        generalize upd G2 p (.lst [.int 3, .int 7, .int 12]) = G3 at s3 f3 u3 hG3 b3 ⊢
        refine ⟨b, p, _, _, rfl, b3, f3, npb, (show 1 ≤ 3 by decide), (show 3 ≤ 1000 by decide), by omega, fun G4 v k4 b4 hv => ?_⟩
        obtain ⟨n, rfl, n0, n12⟩ : ∃ n : Int, v = .int n ∧ 0 ≤ n ∧ n ≤ 12 := by
          simp only [List.mem_cons, List.not_mem_nil, or_false] at hv
          rcases hv with z | z | z <;> exact ⟨_, z, by omega, by omega⟩
        have hG4 := k4.same hG3 nbH
        refine ⟨n, rfl, RgOk.of_le (by omega) (by omega) (by omega) (by omega), fun e0 ne0 => ?_⟩
        rw [rgV_rg]
        obtain ⟨s5, f5, u5⟩ := grow (o := .lst ((rg n.toNat).map V.int)) ne0
        have hG5 := hG4.trans s5
        have b5 := b4.at s5
        have ne0b := b4.ne ne0
        generalize upd G4 e0 (.lst ((rg n.toNat).map V.int)) = G5 at s5 f5 u5 hG5 b5 ⊢
        refine ⟨b, e0, rg n.toNat, _, rfl, b5, f5, ne0b, by rw [rg_len]; omega, by omega, by omega, fun G6 e ys k6 b6 nE neb eY pm => ?_⟩
        have hG6 := k6.same hG5 nbH
        have yl : ys.length ≤ 12 := by
          rw [pm.length_eq, rg_len]
          omega
        have yd : ys.Nodup := pm.nodup_iff.mpr (rg_nodup _)
        have ym : ∀ x ∈ ys, x < 13 := fun x hx => by
          have := rg_lt (pm.mem_iff.mp hx)
          omega
        clear nE s3 f3 u3 s5 f5 u5 hG3 hG4 hG5 hv
        -- late
        refine ⟨.ref b, rfl, .ref e, rfl, e, rfl, ⟨_, SqL.of eY⟩, fun D nD => ?_⟩
        have nDb := b6.ne nD
        have neD := eY.ne nD
        have nDH := hG6.free nD
        refine lc_list (K := K) (a := e) (xs := ys.map V.int) (fun i G' => Same H G' ∧ LI G' e ys ∧ Box (100 * (t : Nat) + 41 + (i : Nat)) G' b ∧ ∃ zs, LI G' D zs ∧ zs.Sublist (ys.take i))
          ⟨hG6.put nDH, eY.off neD, (b6.off nDb).le (by omega), [], upd_same, List.nil_sublist _⟩ (fun i G' _ z => SqL.of z.2.1) ?_ ?_
        · rintro i x G7 hx ⟨hG7, e7, b7, zs, d7, sub⟩
          obtain ⟨z, rfl, hz⟩ := get_int hx
          have hi : i < ys.length := (List.getElem?_eq_some_iff.mp hz).1
          refine ⟨rfl, ?_⟩
          refine ⟨.ref b, rfl, b, 5, _, rfl, b7, by decide, by decide, by omega, fun G8 r k8 b8 r0 r1 => ?_⟩
          have e8 : LI G8 e ys := k8 _ _ e7 neb
          have d8 : LI G8 D zs := k8 _ _ d7 nDb
          have hG8 := k8.same hG7 nbH
          have tk : ys.take (i + 1) = ys.take i ++ [z] := by
            rw [List.take_add_one, hz]
            rfl
          refine ⟨_, _, rfl, rfl, _, rfl, ite2 (fun c => ?_) (fun c => ?_)⟩
          · refine ⟨.int z, rfl, _, d8, ?_, hG8.put nDH, e8.off neD, (b8.off nDb).le (by omega), zs ++ [z], ?_, ?_⟩
            · rw [List.length_map]
              have := sub.length_le
              rw [List.length_take] at this
              exact small1000 (by omega)
            · show upd G8 D _ D = _
              rw [upd_same, List.map_append]
              rfl
            · rw [tk]
              exact sub.append (List.Sublist.refl _)
          · refine ⟨hG8, e8, b8.le (by omega), zs, d8, ?_⟩
            rw [tk]
            exact sub.trans (List.sublist_append_left _ _)
        · rintro G7 ⟨hG7, e7, b7, zs, d7, sub⟩
          rw [List.length_map] at b7
          have sub : zs.Sublist ys := by
            rw [List.length_map, List.take_length] at sub
            exact sub
          have zl := sub.length_le
          refine ⟨len_le (n := 2) (by decide) rfl, fun L nL => ?_⟩
          obtain ⟨s8, f8, u8⟩ := grow (o := .lst [.int 20, .int 30]) nL
          have hG8 := hG7.trans s8
          have e8 := e7.at s8
          have b8 := b7.at s8
          have d8 := d7.at s8
          have nLb := b7.ne nL
          generalize upd G7 L (.lst [.int 20, .int 30]) = G8 at s8 f8 u8 hG8 e8 b8 d8 ⊢
          refine ⟨.ref b, rfl, b, 3, _, rfl, b8, by decide, by decide, by omega, fun G9 r k9 b9 r0 r1 => ?_⟩
          have hG9 := k9.same hG8 nbH
          have e9 : LI G9 e ys := k9 _ _ e8 neb
          have d9 : LI G9 D zs := k9 _ _ d8 nDb
          have f9 := k9 _ _ f8 nLb
          refine ⟨r, rfl, L, _, rfl, SqL.of f9, fun M nM => ?_⟩
          rw [more_cut r0 r1]
          obtain ⟨s10, f10, u10⟩ := grow (o := .lst ((more r).map V.int)) nM
          have hG10 := hG9.trans s10
          have e10 := e9.at s10
          have b10 := b9.at s10
          have d10 := d9.at s10
          generalize upd G9 M (.lst ((more r).map V.int)) = G10 at s10 f10 u10 hG10 e10 b10 d10 ⊢
          have ml := more_len r
          refine ⟨D, M, _, _, rfl, rfl, d10, f10, by rw [List.length_map, List.length_map]; exact tiny (by omega), fun R nR => ?_⟩
          rw [← List.map_append]
          obtain ⟨s11, f11, u11⟩ := grow (o := .lst ((zs ++ more r).map V.int)) nR
          have hG11 := hG10.trans s11
          have e11 := e10.at s11
          have b11 := b10.at s11
          have nRb := b10.ne nR
          generalize upd G10 R (.lst ((zs ++ more r).map V.int)) = G11 at s11 f11 u11 hG11 e11 b11 ⊢
          have zd : (zs ++ more r).Nodup := nodup_app (yd.sublist sub) (more_nodup r) fun x hx y hy => by
            have := ym x (sub.subset hx)
            have := more_mem hy
            omega
          refine ⟨b, R, zs ++ more r, _, rfl, b11, f11, nRb, by rw [List.length_append]; omega, by omega, by omega, fun G12 l late k12 b12 nl nlb lL pl => ?_⟩
          have hG12 := k12.same hG11 nbH
          have e12 : LI G12 e ys := k12 _ _ e11 neb
          have ld : late.Nodup := pl.nodup_iff.mpr zd
          have ll : late.length ≤ 14 := by
            rw [pl.length_eq, List.length_append]
            omega
          clear s8 f8 u8 hG8 e8 b8 d8 f9 k9 s10 f10 u10 hG10 e10 b10 d10 s11 f11 u11 hG11 e11 b11 hG9 e9 d9 b9 hG7 e7 b7 d7 hG6 eY b6 nl
          have bl := both_len ys late
          have sd := spots_nodup (early := ys) ld
          -- due
          refine ⟨.ref l, rfl, l, rfl, ⟨_, SqL.of lL⟩, fun D1 nD1 => ?_⟩
          refine lc_list (K := K) (a := l) (xs := late.map V.int) (fun i G' => G' = upd G12 D1 (.lst ((both ys (late.take i)).map V.int))) rfl (fun i G' _ z => by rw [z]; exact SqL.of (lL.off (lL.ne nD1))) ?_ ?_
          · rintro i x G' hx rfl
            obtain ⟨z, rfl, hz⟩ := get_int hx
            refine ⟨rfl, ?_⟩
            have e' : LI (upd G12 D1 (.lst ((both ys (late.take i)).map V.int))) e ys := e12.off (e12.ne nD1)
            refine ⟨.int z, rfl, .ref e, rfl, e, _, rfl, .inl (SqL.of e'), rfl, flat_ints _, _, rfl, ?_⟩
            show if inV (.int z) (ys.map V.int) = true then _ else _
            rw [inV_ints]
            refine ite2 (fun m => ?_) (fun m => ?_)
            · have m := of_decide_eq_true m
              refine ⟨.int z, rfl, _, upd_same, ?_, ?_⟩
              · rw [List.length_map]
                have := both_len ys (late.take i)
                have := take_len (xs := late) (i := i)
                exact small1000 (by omega)
              · rw [upd_upd, both_take hz, if_pos m, List.map_append]
                rfl
            · have m : z ∉ ys := fun k => m (decide_eq_true k)
              rw [both_take hz, if_neg m, List.append_nil]
          · rintro G' rfl
            rw [List.length_map, List.take_length]
            have hG13 := hG12.trans (same_upd (o := .lst ((both ys late).map V.int)) nD1)
            have e13 : LI (upd G12 D1 (.lst ((both ys late).map V.int))) e ys := e12.off (e12.ne nD1)
            have l13 : LI (upd G12 D1 (.lst ((both ys late).map V.int))) l late := lL.off (lL.ne nD1)
            have d13 : LI (upd G12 D1 (.lst ((both ys late).map V.int))) D1 (both ys late) := upd_same
            have b13 := b12.off (o := .lst ((both ys late).map V.int)) (b12.ne nD1)
            revert hG13 e13 l13 d13 b13
            generalize upd G12 D1 (.lst ((both ys late).map V.int)) = G13
            intro hG13 e13 l13 d13 b13
            refine ⟨D1, _, rfl, .inl (SqL.of d13), ?_⟩
            refine ⟨.ref e, rfl, e, _, rfl, SqL.of e13, fun T1 G14 _ s14 _ t14 => ?_⟩
            refine ⟨.ref l, rfl, l, _, rfl, SqL.of (l13.at s14), fun T2 G15 _ s15 _ t15 => ?_⟩
            refine ⟨T1, T2, ys, late, rfl, t14.at s15, t15.sq, by omega, fun G16 m s16 hm => ?_⟩
            refine ⟨_, _, rfl, rfl, ?_⟩
            rw [List.length_map]
            have s36 := s14.trans (s15.trans s16)
            have hG16 := hG13.trans s36
            have e16 := e13.at s36
            have l16 := l13.at s36
            have b16 := b13.at s36
            have mb := hm.le
            have sb := spots_len ys late
            have due0 : -1000 ≤ ((both ys late).length : Int) - (m : Nat) := by omega
            have due1 : ((both ys late).length : Int) - (m : Nat) ≤ 1000 := by omega
            -- repr(moves(..)) != repr(due)
            refine ⟨.ref e, rfl, e, _, rfl, SqL.of e16, fun T3 G17 _ s17 _ t17 => ?_⟩
            refine ⟨.ref l, rfl, l, _, rfl, SqL.of (l16.at s17), fun T4 G18 _ s18 _ t18 => ?_⟩
            refine ⟨T3, T4, ys, late, rfl, t17.at s18, t18, by omega, by omega, yd, ld, fun G19 m2 s19 hm2 => ?_⟩
            obtain rfl := hm2.uniq hm
            refine ⟨_, rfl, log_small due0 due1, .int _, rfl, _, rfl, log_small due0 due1, ?_⟩
            refine ⟨rfl, _, rfl, ?_⟩
            refine ite2 (fun c => ?_) (fun _ => ?_)
            · simp at c
            have s69 := s17.trans (s18.trans s19)
            have hG19 := hG16.trans s69
            have e19 := e16.at s69
            have l19 := l16.at s69
            have b19 := b16.at s69
            -- moves(early, early) != 0
            refine ⟨.ref e, rfl, e, _, rfl, SqL.of e19, fun T5 G20 _ s20 _ t20 => ?_⟩
            refine ⟨.ref e, rfl, e, _, rfl, SqL.of (e19.at s20), fun T6 G21 _ s21 _ t21 => ?_⟩
            refine ⟨T5, T6, ys, ys, rfl, t20.at s21, t21, by omega, by omega, yd, yd, fun G22 m3 s22 hm3 => ?_⟩
            have z0 : ((both ys ys).length : Int) - (m3 : Nat) = 0 := by
              rw [hm3.uniq (IsLis.of_inc (inc_self yd))]
              unfold spots
              rw [List.length_map]
              omega
            rw [z0]
            refine ⟨rfl, _, rfl, ?_⟩
            refine ite2 (fun c => ?_) (fun _ => ?_)
            · simp at c
            have s92 := s20.trans (s21.trans s22)
            have hG22 := hG19.trans s92
            have e22 := e19.at s92
            have l22 := l19.at s92
            have b22 := b19.at s92
            clear s14 t14 s15 t15 s16 s17 t17 s18 t18 s19 s20 t20 s21 t21 s22 s36 s69 s92 hG13 hG16 hG19 e13 l13 d13 b13 e16 l16 b16 e19 l19 b19
            -- both
            refine ⟨.ref l, rfl, l, rfl, ⟨_, SqL.of l22⟩, fun D3 nD3 => ?_⟩
            refine lc_list (K := K) (a := l) (xs := late.map V.int) (fun i G' => G' = upd G22 D3 (.lst ((both ys (late.take i)).map V.int))) rfl (fun i G' _ z => by rw [z]; exact SqL.of (l22.off (l22.ne nD3))) ?_ ?_
            · rintro i x G' hx rfl
              obtain ⟨z, rfl, hz⟩ := get_int hx
              refine ⟨rfl, ?_⟩
              have e' : LI (upd G22 D3 (.lst ((both ys (late.take i)).map V.int))) e ys := e22.off (e22.ne nD3)
              refine ⟨.int z, rfl, .ref e, rfl, e, _, rfl, .inl (SqL.of e'), rfl, flat_ints _, _, rfl, ?_⟩
              show if inV (.int z) (ys.map V.int) = true then _ else _
              rw [inV_ints]
              refine ite2 (fun m => ?_) (fun m => ?_)
              · have m := of_decide_eq_true m
                refine ⟨.int z, rfl, _, upd_same, ?_, ?_⟩
                · rw [List.length_map]
                  have := both_len ys (late.take i)
                  have := take_len (xs := late) (i := i)
                  exact small1000 (by omega)
                · rw [upd_upd, both_take hz, if_pos m, List.map_append]
                  rfl
              · have m : z ∉ ys := fun k => m (decide_eq_true k)
                rw [both_take hz, if_neg m, List.append_nil]
            · rintro G' rfl
              rw [List.length_map, List.take_length]
              have hG23 := hG22.trans (same_upd (o := .lst ((both ys late).map V.int)) nD3)
              have e23 : LI (upd G22 D3 (.lst ((both ys late).map V.int))) e ys := e22.off (e22.ne nD3)
              have l23 : LI (upd G22 D3 (.lst ((both ys late).map V.int))) l late := l22.off (l22.ne nD3)
              have d23 : LI (upd G22 D3 (.lst ((both ys late).map V.int))) D3 (both ys late) := upd_same
              have b23 := b22.off (o := .lst ((both ys late).map V.int)) (b22.ne nD3)
              revert hG23 e23 l23 d23 b23
              generalize upd G22 D3 (.lst ((both ys late).map V.int)) = G23
              intro hG23 e23 l23 d23 b23
              have cnt : 100 * (t : Int) + 41 + ((ys.length : Nat) : Int) + 1 + 40 ≤ 100 * ((t + 1 : Nat) : Int) := by omega
              refine ⟨.ref l, rfl, l, _, rfl, .inl (SqL.of l23), _, _, rfl, rfl, _, rfl, ite2 (fun c => ?_) (fun _ => ?_)⟩
              · have c : ((late.map V.int).length : Int) < 8 := of_decide_eq_true c
                rw [List.length_map] at c
                refine ⟨.ref D3, rfl, D3, _, rfl, .inl (SqL.of d23), .ref e, rfl, .ref l, rfl, e, l, ys, late, rfl, e23, l23, by omega, ld, fun G24 m4 s24 hm4 => ?_⟩
                obtain rfl := hm4.uniq hm
                refine ⟨_, _, rfl, rfl, .int _, rfl, rfl, _, rfl, ?_⟩
                rw [List.length_map]
                refine ite2 (fun c => ?_) (fun _ => ?_)
                · simp at c
                exact ⟨_, _, _, _, _, rfl, hG23.trans s24, (b23.at s24).le cnt⟩
              · exact ⟨_, _, _, _, _, rfl, hG23, b23.le cnt⟩
      · rintro σ G2 ⟨y3, y4, y5, y6, y7, rfl, hG2, _⟩
        exact ⟨_, _, _, _, _, _, _, rfl, hG2⟩
    · rintro σ G ⟨y1, y2, y3, y4, y5, y6, y7, rfl, hG⟩
      refine ⟨len_le (n := 4) (by decide) rfl, fun TA1 GA1 _ sA1 _ tA1 => ?_⟩
      refine ⟨len_le (n := 4) (by decide) rfl, fun TB1 GB1 _ sB1 _ tB1 => ?_⟩
      refine ⟨TA1, TB1, [0, 1, 2, 3], [3, 0, 1, 2], rfl, tA1.at sB1, tB1, by decide, by decide, by decide, by decide, fun GC1 m1 sC1 hm1 => ?_⟩
      have v1 : ((both [0, 1, 2, 3] [3, 0, 1, 2]).length : Int) - (m1 : Nat) = 1 := by
        rw [lis_is hm1 (m := 3) (by decide +kernel)]
        decide +kernel
      rw [v1]
      have s1 := sA1.trans (sB1.trans sC1)
      refine ⟨len_le (n := 4) (by decide) rfl, fun TA2 GA2 _ sA2 _ tA2 => ?_⟩
      refine ⟨len_le (n := 4) (by decide) rfl, fun TB2 GB2 _ sB2 _ tB2 => ?_⟩
      refine ⟨TA2, TB2, [0, 1, 2, 3], [1, 0, 3, 2], rfl, tA2.at sB2, tB2, by decide, by decide, by decide, by decide, fun GC2 m2 sC2 hm2 => ?_⟩
      have v2 : ((both [0, 1, 2, 3] [1, 0, 3, 2]).length : Int) - (m2 : Nat) = 2 := by
        rw [lis_is hm2 (m := 2) (by decide +kernel)]
        decide +kernel
      rw [v2]
      have s2 := sA2.trans (sB2.trans sC2)
      refine ⟨len_le (n := 3) (by decide) rfl, fun TA3 GA3 _ sA3 _ tA3 => ?_⟩
      refine ⟨len_le (n := 3) (by decide) rfl, fun TB3 GB3 _ sB3 _ tB3 => ?_⟩
      refine ⟨TB3, TA3, [0, 1, 2], [2, 1, 0], rfl, tB3, tA3.at sB3, by decide, by decide, by decide, by decide, fun GC3 m3 sC3 hm3 => ?_⟩
      have v3 : ((both [0, 1, 2] [2, 1, 0]).length : Int) - (m3 : Nat) = 2 := by
        rw [lis_is hm3 (m := 1) (by decide +kernel)]
        decide +kernel
      rw [v3]
      have s3 := sA3.trans (sB3.trans sC3)
      refine ⟨len_le (n := 3) (by decide) rfl, fun p np => ?_⟩
      obtain ⟨sp1, fp1, up1⟩ := grow (o := .lst [.int 1, .int 2, .int 2]) np
      have lp : LI (upd GC3 p (.lst [.int 1, .int 2, .int 2])) p [1, 2, 2] := fp1
      generalize upd GC3 p (.lst [.int 1, .int 2, .int 2]) = Gp at sp1 fp1 up1 lp ⊢
      refine ⟨.ref p, rfl, ?_⟩
      refine ⟨len_le (n := 0) (by decide) rfl, fun TA4 GA4 _ sA4 _ tA4 => ?_⟩
      refine ⟨len_le (n := 0) (by decide) rfl, fun TB4 GB4 _ sB4 _ tB4 => ?_⟩
      refine ⟨TA4, TB4, [], [], rfl, tA4.at sB4, tB4, by decide, by decide, by decide, by decide, fun GC4 m4 sC4 hm4 => ?_⟩
      have v4 : ((both [] []).length : Int) - (m4 : Nat) = 0 := by
        rw [lis_is hm4 (m := 0) (by decide +kernel)]
        decide +kernel
      rw [v4]
      have s4 := sA4.trans (sB4.trans sC4)
      refine ⟨len_le (n := 2) (by decide) rfl, fun TA5 GA5 _ sA5 _ tA5 => ?_⟩
      refine ⟨len_le (n := 1) (by decide) rfl, fun TB5 GB5 _ sB5 _ tB5 => ?_⟩
      refine ⟨TA5, TB5, [0, 1], [5], rfl, tA5.at sB5, tB5, by decide, by decide, by decide, by decide, fun GC5 m5 sC5 hm5 => ?_⟩
      have v5 : ((both [0, 1] [5]).length : Int) - (m5 : Nat) = 0 := by
        rw [lis_is hm5 (m := 0) (by decide +kernel)]
        decide +kernel
      rw [v5]
      have s5 := sA5.trans (sB5.trans sC5)
      refine ⟨len_le (n := 2) (by decide) rfl, fun TA6 GA6 _ sA6 _ tA6 => ?_⟩
      refine ⟨len_le (n := 2) (by decide) rfl, fun TB6 GB6 _ sB6 _ tB6 => ?_⟩
      refine ⟨TA6, TB6, [4, 7], [7, 4], rfl, tA6.at sB6, tB6, by decide, by decide, by decide, by decide, fun GC6 m6 sC6 hm6 => ?_⟩
      have v6 : ((both [4, 7] [7, 4]).length : Int) - (m6 : Nat) = 1 := by
        rw [lis_is hm6 (m := 1) (by decide +kernel)]
        decide +kernel
      rw [v6]
      have s6 := sA6.trans (sB6.trans sC6)
      have lp6 := lp.at (s4.trans (s5.trans s6))
      refine ⟨len_le (n := 3) (by decide) rfl, fun p2 np2 => ?_⟩
      obtain ⟨sp2, fp2, up2⟩ := grow (o := .lst [.int 0, .int 0, .int 1]) np2
      have lp7 := lp6.at sp2
      have l2 : LI (upd GC6 p2 (.lst [.int 0, .int 0, .int 1])) p2 [0, 0, 1] := fp2
      generalize upd GC6 p2 (.lst [.int 0, .int 0, .int 1]) = Gq at sp2 fp2 up2 lp7 l2 ⊢
      refine ⟨p, p2, _, _, rfl, rfl, lp7, l2, len_le (n := 6) (by decide) rfl, fun R nR => ?_⟩
      have lR : LI (upd Gq R (.lst (([1, 2, 2] : List Int).map V.int ++ ([0, 0, 1] : List Int).map V.int))) R [1, 2, 2, 0, 0, 1] := upd_same
      generalize upd Gq R (.lst (([1, 2, 2] : List Int).map V.int ++ ([0, 0, 1] : List Int).map V.int)) = Gr at lR ⊢
      refine ⟨len_le (n := 6) (by decide) rfl, fun R2 nR2 => ?_⟩
      have lR' := lR.at (same_upd (o := .lst [.int 1, .int 2, .int 2, .int 0, .int 0, .int 1]) nR2)
      have lR2 : LI (upd Gr R2 (.lst [.int 1, .int 2, .int 2, .int 0, .int 0, .int 1])) R2 [1, 2, 2, 0, 0, 1] := upd_same
      refine ⟨_, _, lR'.dp, lR2.dp, shaped_li _, shaped_li _, ?_⟩
      rw [eqv_li]
      exact q _
end
end K6
namespace K6
open PySem PySem.Spec PyProof.Rows L2

/-! ### max(a list of whole numbers, default=a whole number) -/
theorem ints_at : ∀ {its : List Value} {ns : List Int}, IntsAre its ns → ∀ (i : Nat) (v : Value), its[i]? = some v → ∃ t, v = .int (ns.getD i 0) t
  | _, _, .nil, _, _, h => by simp at h
  | _, _, .cons n t _, 0, v, h => ⟨t, (Option.some.inj (show some _ = some v from h)).symm⟩
  | _, _, .cons n t r, i + 1, v, h => ints_at r i v h
theorem ints_len : ∀ {its : List Value} {ns : List Int}, IntsAre its ns → its.length = ns.length
  | _, _, .nil => rfl
  | _, _, .cons _ _ r => congrArg Nat.succ (ints_len r)
theorem getD_memI {ns : List Int} {i : Nat} (h : i < ns.length) : ns.getD i 0 ∈ ns := List.mem_of_getElem? (get_of h)

def rMaxDef (K : PySem.W.Frag) : List V → List V → Hp → VK → Prop := fun vs zs H Q => ∃ (a : Addr) (ns : List Int) (d : Int), vs = [V.ref a] ∧ zs = [V.int d] ∧ SqL K H a (ns.map V.int) ∧
  ∀ m, (ns = [] → m = d) → (ns ≠ [] → m ∈ ns ∧ ∀ y ∈ ns, y ≤ m) → Q (.int m) H

section
variable {X : Cx}
theorem cr_maxDef (hc : X.calm = true) : CallRK X (.builtin "max") [Str.ofString "default"] (rMaxDef X.K) := by
  intro pins s σ H vs zs us ws Q I r rz h
  obtain ⟨a, ns, d, rfl, rfl, hs, q⟩ := h
  obtain ⟨its, rv, hl, _⟩ := I.list hs
  obtain rfl := Vals.ref1 r
  obtain ⟨w1, rfl, t, rfl⟩ := vals1 rz
  have hi := rv.ints
  have hn := ints_len hi
  refine PySem.call_max_walkD (PySem.W.iter_listW (A := X.A.in1) (I.ok.hd hc) hl.isList fun s₂ e W st hfp hw hk => ?_)
  refine ⟨_, _, _, _, _, _, _, s.heap, (fun i j => decide (ns.getD i 0 > ns.getD j 0)), rfl, W, st, hfp, hw, hk, fun hz s' m => ?_, fun hp => ⟨fun i j vi vj s Q E _ hvi hvj hq => CmpOf.ints_gt (P := fun i v => its.toArray[i]? = some v) (fun i => ns.getD i 0)
      (fun i v hv => ints_at hi i v (by rw [List.getElem?_toArray] at hv; exact hv)) i j vi vj s Q E hvi hvj hq, fun v s' hP m => ?_⟩⟩
  · obtain ⟨h', tk, rfl, hk'⟩ := PySem.W.moved_old e rfl m
    have hz : its.length = 0 := by simpa using hz
    refine ⟨.int d, H, I.kept hk', ⟨_, rfl⟩, q d (fun _ => rfl) fun c => ?_⟩
    exact absurd (List.eq_nil_of_length_eq_zero (by omega)) c
  · obtain ⟨h', tk, rfl, hk'⟩ := PySem.W.moved_old e rfl m
    have hsz : its.toArray.size = ns.length := by rw [List.size_toArray]; exact hn
    rw [hsz] at hP hp
    obtain ⟨t', rfl⟩ := ints_at hi _ v (by rw [List.getElem?_toArray] at hP; exact hP)
    obtain ⟨h1, h2⟩ := argBest_gt (fun i => ns.getD i 0) (ns.length - 1)
    refine ⟨.int _, H, I.kept hk', ⟨_, rfl⟩, q _ (fun c => ?_) fun _ => ⟨getD_memI (by omega), fun y hy => ?_⟩⟩
    · rw [c] at hp
      exact absurd hp (Nat.lt_irrefl 0)
    · obtain ⟨j, hj, rfl⟩ := List.getElem_of_mem hy
      have e2 := h2 j (by omega)
      have e3 := getD_of (List.getElem?_eq_getElem hj)
      omega
end

theorem top_def {ns : List Int} {m : Int} (h0 : ns = [] → m = 0) (h1 : ns ≠ [] → m ∈ ns ∧ ∀ y ∈ ns, y ≤ m) (pos : ∀ y ∈ ns, 0 ≤ y) : Top ns m := by
  by_cases c : ns = []
  · rw [h0 c, c]
    exact ⟨.inl rfl, by decide, fun x hx => by cases hx⟩
  · obtain ⟨a, b⟩ := h1 c
    exact ⟨.inr a, pos m a, b⟩
/-- all numbers of the table are above 0 -/
theorem Tab.pos {s b : List Int} (h : Tab s b) : ∀ y ∈ b, 0 ≤ y := by
  intro y hy
  obtain ⟨hl, ht⟩ := h
  obtain ⟨j, hj, e⟩ := List.getElem_of_mem hy
  have hb : b[j]? = some y := by rw [List.getElem?_eq_getElem hj, e]
  obtain ⟨⟨t, _, _, et⟩, _⟩ := ht j _ _ (get_of (l := s) (j := j) (by omega)) hb
  omega
theorem ahead_sub {s b : List Int} {i : Nat} {y x : Int} (hi : i ≤ b.length) (h : x ∈ Ahead s b i y) : x ∈ b := by
  obtain ⟨j, hj, _, e⟩ := mem_ahead h
  rw [e]
  exact getD_memI (by omega)

theorem scMoves : FnScope ["old", "new", "places", "most", "at", "place", "serial", "ahead"] ["old", "new"] (defScope sMoves) :=
  ⟨rfl, rfl, rfl, by decide +kernel, rfl, by decide +kernel, by decide +kernel⟩

section
variable {P : Program} {w : World} {K : PySem.W.Frag} {mg : Str → Option Value} {base : Heap}
/-- the program's moves -/
theorem ok_moves {f : Addr} {fd : FuncData} (F : Fun K "moves" "moves" sMoves f fd) (Z : Bare mg) (mE : mg "enumerate" = none) :
    FnOk P w K mg base CX0 2 f fd ["old", "new"] spMoves := by
  refine F.ok scMoves (fun vs H Q E h => ?_) (fun cdv A outer s H vs Q E hr h => ?_)
  · obtain ⟨e, l, early, late, rfl, _⟩ := h
    rfl
  · obtain ⟨e, l, early, late, rfl, he, hl, n0, n1, nd0, nd1, q⟩ := h
    refine ⟨_, pss_cons (ps_set (i := 2) scMoves.nd rfl (.inr rfl) (pe_lc (own := [("serial", 6)]) (g := gName 6) rfl scMoves.nd (pi_tup (pv 1))
            (blkOk_by (N := ["old", "new", "places", "most", "at", "place", "serial", "ahead"]) (sc := defScope sMoves) (by decide +kernel))
            (fun _ _ _ _ _ => pg_name (i := 6) scMoves.nd rfl (Or.inl rfl))
            (fun _ _ _ _ _ => pts_one (pt_cmpR (r := rIn K false) op_in_seq (pv 6) (pv 0) (by with_unfolding_all rfl)))
            (fun _ _ _ _ _ => pe_bmT (r := rTupIx K) PySem.F.slot_tuple_index PySem.F.type_tuple_index mt_tup_indexI (pv 0) (pa_cons (pv 6) pa_nil))))
      (pss_cons (ps_set (i := 3) scMoves.nd rfl (.inr rfl) (pe_lst pa_nil))
      (pss_cons (ps_for PassesOwn.never rfl (pi_enum (by rfl) mE (pa_cons (pv 2) pa_nil))
          (pg_tup rfl (pgs_cons (pg_name (i := 4) scMoves.nd rfl (.inl rfl)) (pgs_cons (pg_name (i := 5) scMoves.nd rfl (.inr rfl)) pgs_nil)))
        (pss_one (ps_expr (pe_bm PySem.F.plainAttrs_list PySem.F.slot_list_append PySem.F.type_list_append mt_append (pv 3)
          (pa_cons (pe_op op_add pe_int (pe_callBK (cr_maxDef rfl) (by rfl) Z.max (by decide +kernel) (pa_cons
            (pe_lc (own := [("ahead", 7)]) (g := gName 7) rfl scMoves.nd (pi_range1 (by rfl) Z.range (pa_cons (pv 4) pa_nil))
              (blkOk_by (N := ["old", "new", "places", "most", "at", "place", "serial", "ahead"]) (sc := defScope sMoves) (by decide +kernel))
              (fun _ _ _ _ _ => pg_name (i := 7) scMoves.nd rfl (Or.inl rfl))
              (fun _ _ _ _ _ => pts_one (pt_cmpR op_lt (pe_ix (r := rIxL K) ix_list (pv 2) (pv 7) (fun _ _ => rfl)) (pv 5) (nomark _)))
              (fun _ _ _ _ _ => pe_ix (r := rIxL K) ix_list (pv 3) (pv 7) (fun _ _ => rfl))) pa_nil) (pk_cons pe_int pk_nil))) pa_nil)))))
      (pss_one (ps_ret (pe_op op_sub (pe_callB call_len_seq (by rfl) Z.len PySem.boot_len (pa_cons (pv 2) pa_nil))
        (pe_callBK (cr_maxDef rfl) (by rfl) Z.max (by decide +kernel) (pa_cons (pv 3) pa_nil) (pk_cons pe_int pk_nil))))))), ?_⟩
    -- the spots
    refine ⟨.ref l, rfl, l, rfl, ⟨_, hl.sq⟩, fun D nD => ?_⟩
    refine lc_it (walk_tup (K := K) (a := l) (xs := late.map V.int)) (fun i G => G = upd H D (.lst ((spots early (late.take i)).map V.int))) rfl (fun i G _ z => ?_) ?_ ?_
    · rw [z]
      exact (hl.at (same_upd nD)).sq
    · rintro i x G G' hi rfl ⟨rfl, hx⟩
      obtain ⟨z, rfl, hz⟩ := get_int hx
      refine ⟨rfl, ?_⟩
      have he' : FTup (upd H D (.lst ((spots early (late.take i)).map V.int))) e (early.map V.int) := he.at (same_upd nD)
      refine ⟨.int z, rfl, .ref e, rfl, e, _, rfl, .inr he'.sq, rfl, flat_ints _, _, rfl, ?_⟩
      show if inV (.int z) (early.map V.int) = true then _ else _
      rw [inV_ints]
      refine ite2 (fun m => ?_) (fun m => ?_)
      · have m := of_decide_eq_true m
        refine ⟨.ref e, rfl, ⟨e, _, rfl, he'⟩, .int z, rfl, e, early, z, rfl, rfl, he'.sq, m, _, upd_same, ?_, ?_⟩
        · rw [List.length_map]
          have := spots_len early (late.take i)
          have := take_len (xs := late) (i := i)
          exact small1000 (by omega)
        · rw [upd_upd, spots_take hz m, List.map_append]
          rfl
      · have m : z ∉ early := fun k => m (decide_eq_true k)
        rw [spots_skip hz m]
    · rintro G rfl
      rw [List.length_map, List.take_length]
      have hs1 : Same H (upd H D (.lst ((spots early late).map V.int))) := same_upd nD
      have hD1 : LI (upd H D (.lst ((spots early late).map V.int))) D (spots early late) := upd_same
      have sl := spots_len early late
      have fin : ∀ H' n, Same H H' → IsLis (spots early late) n → Q (.int (((spots early late).length : Int) - (n : Nat))) H' := fun H' n h1 h2 => by
        have e : (spots early late).length = (both early late).length := by
          unfold spots
          rw [List.length_map]
        rw [e]
        exact q H' n h1 h2
      revert hs1 hD1
      generalize upd H D (.lst ((spots early late).map V.int)) = H1
      generalize spots early late = s at sl fin
      intro hs1 hD1
      refine ⟨len_le (n := 0) (by decide) rfl, fun B nB => ?_⟩
      obtain ⟨s2, f2, u2⟩ := grow (o := .lst []) nB
      have d2 := hD1.at s2
      have hs2 := hs1.trans s2
      have b2 : LI (upd H1 B (.lst [])) B [] := f2
      have nDB : D ≠ B := hD1.ne nB
      generalize upd H1 B (.lst []) = H2 at s2 f2 u2 d2 hs2 b2 ⊢
      have hB0 : H B = none := hs1.free nB
      refine ⟨.ref D, rfl, D, _, rfl, SqL.of d2, for_it (walk_enum (K := K) (a := D) (xs := s.map V.int))
        (fun i σ G => ∃ y4 y5 b, σ = [some (.ref e), some (.ref l), some (.ref D), some (.ref B), y4, y5, none, none] ∧ Same H G ∧ LI G D s ∧ LI G B b ∧ b.length = i ∧ Tab s b)
        ⟨none, none, [], rfl, hs2, d2, b2, rfl, tab_nil s⟩ (fun i σ G _ h => ?_) ?_ ?_⟩
      · obtain ⟨_, _, _, _, _, d, _⟩ := h
        exact SqL.of d
      · rintro i x σ G G' hi ⟨y4, y5, b, rfl, hG, dG, bG, lb, tb⟩ ⟨T', x', y', rfl, nT', rfl, e1, e2⟩
        cases e1
        obtain ⟨z, rfl, hz⟩ := get_int e2
        have hi : i < s.length := by
          rw [List.length_map] at hi
          exact hi
        obtain ⟨s4, f4, u4⟩ := grow (o := .tup [.int (i : Nat), .int z]) nT'
        have hG4 := hG.trans s4
        have dG4 := dG.at s4
        have bG4 := bG.at s4
        generalize upd G T' (.tup [.int (i : Nat), .int z]) = G4 at s4 f4 u4 hG4 dG4 bG4 ⊢
        refine ⟨T', _, rfl, SqT.of f4, rfl, .int (i : Nat), _, rfl, .int z, _, rfl, rfl, ?_⟩
        refine ⟨.ref B, rfl, .inl ⟨rfl, _, SqL.of bG4⟩, ?_⟩
        have isl : (i : Int) ≤ 100 := by omega
        refine ⟨.int (i : Nat), rfl, (i : Nat), rfl, by omega, by omega, fun D2 nD2 => ?_⟩
        have nDD2 := dG4.ne nD2
        have nBD2 := bG4.ne nD2
        refine lc_range (lo := 0) (n := ((i : Nat) : Int).toNat) (fun j G' => G' = upd G4 D2 (.lst ((Ahead s b j z).map V.int))) rfl ?_ ?_
        · rintro j G' hj rfl
          have hj : j < i := by omega
          refine ⟨rfl, ?_⟩
          have dG6 : LI (upd G4 D2 (.lst ((Ahead s b j z).map V.int))) D s := dG4.off nDD2
          have bG6 : LI (upd G4 D2 (.lst ((Ahead s b j z).map V.int))) B b := bG4.off nBD2
          refine ⟨.ref D, rfl, .int (0 + (j : Nat)), rfl, D, _, _, .int (s.getD j 0), rfl, rfl, SqL.of dG6, ?_, .int z, rfl, _, _, rfl, rfl, _, rfl, ?_⟩
          · rw [Int.zero_add]
            exact atI_nat (get_map (get_of (by omega)))
          refine ite2 (fun m => ?_) (fun m => ?_)
          · have m : s.getD j 0 < z := of_decide_eq_true m
            refine ⟨.ref B, rfl, .int (0 + (j : Nat)), rfl, B, _, _, .int (b.getD j 0), rfl, rfl, SqL.of bG6, ?_, _, upd_same, ?_, ?_⟩
            · rw [Int.zero_add]
              exact atI_nat (get_map (get_of (by omega)))
            · rw [List.length_map]
              have := ahead_len s b j z
              exact small1000 (by omega)
            · rw [upd_upd, ahead_take m, List.map_append]
              rfl
          · have m : ¬ s.getD j 0 < z := fun k => m (decide_eq_true k)
            rw [ahead_skip m]
        · rintro G' rfl
          rw [Int.toNat_natCast]
          have hG6 : Same H (upd G4 D2 (.lst ((Ahead s b i z).map V.int))) := hG4.trans (same_upd nD2)
          have bG6 : LI (upd G4 D2 (.lst ((Ahead s b i z).map V.int))) B b := bG4.off nBD2
          have dG6 : LI (upd G4 D2 (.lst ((Ahead s b i z).map V.int))) D s := dG4.off nDD2
          have a6 : LI (upd G4 D2 (.lst ((Ahead s b i z).map V.int))) D2 (Ahead s b i z) := upd_same
          have al := ahead_len s b i z
          generalize upd G4 D2 (.lst ((Ahead s b i z).map V.int)) = G6 at hG6 bG6 dG6 a6 ⊢
          refine ⟨D2, Ahead s b i z, 0, rfl, rfl, SqL.of a6, fun m h0 h1 => ?_⟩
          have tm : Top (Ahead s b i z) m := top_def h0 h1 fun y hy => tb.pos y (ahead_sub (by omega) hy)
          refine ⟨1, m, rfl, rfl, B, _, _, rfl, rfl, bG6, ?_, ?_⟩
          · rw [List.length_map]
            exact small1000 (by omega)
          refine ⟨_, _, b ++ [1 + m], rfl, hG6.put hB0, dG6.off nDB, ?_, ?_, ?_⟩
          · show upd G6 B _ B = _
            rw [upd_same, List.map_append]
            rfl
          · rw [List.length_append, lb]
            rfl
          · exact tb.step (by rw [lb]; exact hz) (by rw [lb]; exact tm)
      · rintro σ G ⟨y4, y5, b, rfl, hG, dG, bG, lb, tb⟩
        have lb : b.length = s.length := by
          rw [List.length_map] at lb
          exact lb
        refine ⟨.ref D, rfl, D, _, rfl, .inl (SqL.of dG), .ref B, rfl, B, b, 0, rfl, rfl, SqL.of bG, fun m h0 h1 => ?_⟩
        obtain ⟨n, rfl, hn⟩ := tb.lis lb (top_def h0 h1 tb.pos)
        refine ⟨_, _, rfl, rfl, ?_⟩
        rw [List.length_map]
        exact fin _ n hG hn
end
end K6
namespace K6
open PySem PySem.Spec PyProof.Rows L2

theorem walk {l : PySem.W.OpenLaw} {q : Program} {loose : List Str} {XP : (Str → Option Value) → Heap → Prop} {YP : World → Heap → Prop} {d : DefRec} {K : Params → PySem.W.Frag}
    (hn : l.most = some 63) (hdf : d.params.defaults = [])
    (hY : ∀ (w : World) (h : Heap), YP w h → (K w.params).In h)
    (F : ∀ (w : World) (mg : Str → Option Value) (fa : Addr) (h : Heap), (K w.params).In h → h.Ns mainGlobals mg → mg d.name = some (.ref fa) →
      ∃ fd : FuncData, (∀ (s : Shared) (u : Value), BindsTo s fd ⟨[u], []⟩ [("_law_script", u)]) ∧ ∀ base : Heap, (K w.params).In base → base.Ns mainGlobals mg → FnOk l.prog w (K w.params) mg base CX0 4 fa fd ["_law_script"] (spLaw (K w.params))) :
    PySem.W.WalkO q loose XP YP l.row.toRowW d [] (fun f vs => PySem.call f vs) :=
  L2.walk_of (n := 63) (k := 4) (x := "_law_script") (CX := fun _ => CX0) (sp := fun w => spLaw (K w.params)) hn (by decide) hdf ⟨rfl, by decide, by decide⟩ hY F (fun _ _ a ns hl _ hS => ⟨a, ns, rfl, hS, hl, fun _ => rfl⟩) fun _ _ _ _ _ z => z

/-! ### what the top has written -/
theorem all_mk {l : PySem.W.OpenLaw} {w : World} {K : PySem.W.Frag} {h : Heap} {mg : Str → Option Value} {fa : Addr} (X : K.In h)
    (G : h.Ns mainGlobals mg) (hfa : mg "law" = some (.ref fa)) {f1 f4 f5 f6 f7 f8 f9 f10 : Addr}
    {od1 od4 od5 od6 od7 od8 od9 od10 an1 an4 an5 an6 an7 an8 an9 an10 : Option Addr}
    {sl1 sl4 sl5 sl6 sl7 sl8 sl9 sl10 : Array (Option Value)}
    {oc1 oc4 oc5 oc6 oc7 oc8 oc9 oc10 kV1 kV4 kV5 kV6 kV7 kV8 kV9 kV10 dc1 dc4 dc5 dc6 dc7 dc8 dc9 dc10 : Value}
    {pm1 pm4 pm5 pm6 pm7 pm8 pm9 pm10 cd1 cd4 cd5 cd6 cd7 cd8 cd9 cd10 ct1 ct4 ct5 ct6 ct7 ct8 ct9 ct10 : Value}
    (a1 : PySem.W.nsIn K mainGlobals "moves" = some (some (.ref f1)))
    (l1 : K.lookup f1 = some ⟨oc1, od1, .func (PySem.W.fnOf "moves" "moves" (defArgs sMoves) (defBody sMoves) (defScope sMoves) .none kV1 dc1 pm1 an1 cd1 ct1), sl1⟩)
    (c1 : PySem.W.codeIn K cd1 "moves" = true) (k1 : PySem.W.keepIn K (.ref f1) = true)
    (a4 : PySem.W.nsIn K mainGlobals "_law_box" = some (some (.ref f4)))
    (l4 : K.lookup f4 = some ⟨oc4, od4, .func (PySem.W.fnOf "_law_box" "_law_box" (defArgs sBox) (defBody sBox) (defScope sBox) .none kV4 dc4 pm4 an4 cd4 ct4), sl4⟩)
    (c4 : PySem.W.codeIn K cd4 "_law_box" = true) (k4 : PySem.W.keepIn K (.ref f4) = true)
    (a5 : PySem.W.nsIn K mainGlobals "_law_take" = some (some (.ref f5)))
    (l5 : K.lookup f5 = some ⟨oc5, od5, .func (PySem.W.fnOf "_law_take" "_law_take" (defArgs sTake) (defBody sTake) (defScope sTake) .none kV5 dc5 pm5 an5 cd5 ct5), sl5⟩)
    (c5 : PySem.W.codeIn K cd5 "_law_take" = true) (k5 : PySem.W.keepIn K (.ref f5) = true)
    (a6 : PySem.W.nsIn K mainGlobals "_law_of" = some (some (.ref f6)))
    (l6 : K.lookup f6 = some ⟨oc6, od6, .func (PySem.W.fnOf "_law_of" "_law_of" (defArgs sOf) (defBody sOf) (defScope sOf) .none kV6 dc6 pm6 an6 cd6 ct6), sl6⟩)
    (c6 : PySem.W.codeIn K cd6 "_law_of" = true) (k6 : PySem.W.keepIn K (.ref f6) = true)
    (a7 : PySem.W.nsIn K mainGlobals "_law_stirred" = some (some (.ref f7)))
    (l7 : K.lookup f7 = some ⟨oc7, od7, .func (PySem.W.fnOf "_law_stirred" "_law_stirred" (defArgs sStir) (defBody sStir) (defScope sStir) .none kV7 dc7 pm7 an7 cd7 ct7), sl7⟩)
    (c7 : PySem.W.codeIn K cd7 "_law_stirred" = true) (k7 : PySem.W.keepIn K (.ref f7) = true)
    (a8 : PySem.W.nsIn K mainGlobals "_law_most_kept" = some (some (.ref f8)))
    (l8 : K.lookup f8 = some ⟨oc8, od8, .func (PySem.W.fnOf "_law_most_kept" "_law_most_kept" (defArgs sKept) (defBody sKept) (defScope sKept) .none kV8 dc8 pm8 an8 cd8 ct8), sl8⟩)
    (c8 : PySem.W.codeIn K cd8 "_law_most_kept" = true) (k8 : PySem.W.keepIn K (.ref f8) = true)
    (a9 : PySem.W.nsIn K mainGlobals "_law_longest" = some (some (.ref f9)))
    (l9 : K.lookup f9 = some ⟨oc9, od9, .func (PySem.W.fnOf "_law_longest" "_law_longest" (defArgs sLong) (defBody sLong) (defScope sLong) .none kV9 dc9 pm9 an9 cd9 ct9), sl9⟩)
    (c9 : PySem.W.codeIn K cd9 "_law_longest" = true) (k9 : PySem.W.keepIn K (.ref f9) = true)
    (a10 : PySem.W.nsIn K mainGlobals "law" = some (some (.ref f10)))
    (l10 : K.lookup f10 = some ⟨oc10, od10, .func (PySem.W.fnOf "law" "law" (defArgs sLaw) (defBody sLaw) (defScope sLaw) .none kV10 dc10 pm10 an10 cd10 ct10), sl10⟩)
    (c10 : PySem.W.codeIn K cd10 "law" = true) (k10 : PySem.W.keepIn K (.ref f10) = true)
    (z1 : PySem.W.nsIn K mainGlobals "len" = some none) (z2 : PySem.W.nsIn K mainGlobals "abs" = some none)
    (z3 : PySem.W.nsIn K mainGlobals "int" = some none) (z4 : PySem.W.nsIn K mainGlobals "isinstance" = some none)
    (z5 : PySem.W.nsIn K mainGlobals "str" = some none) (z6 : PySem.W.nsIn K mainGlobals "all" = some none)
    (z7 : PySem.W.nsIn K mainGlobals "range" = some none) (z8 : PySem.W.nsIn K mainGlobals "list" = some none)
    (z9 : PySem.W.nsIn K mainGlobals "repr" = some none) (z10 : PySem.W.nsIn K mainGlobals "max" = some none)
    (z11 : PySem.W.nsIn K mainGlobals "min" = some none) (z12 : PySem.W.nsIn K mainGlobals "enumerate" = some none)
    (z13 : PySem.W.nsIn K mainGlobals "sorted" = some none) (z14 : PySem.W.nsIn K mainGlobals "tuple" = some none) :
    ∃ fd : FuncData, (∀ (s : Shared) (v : Value), BindsTo s fd ⟨[v], []⟩ [("_law_script", v)]) ∧
      ∀ base : Heap, K.In base → base.Ns mainGlobals mg → FnOk l.prog w K mg base CX0 4 fa fd ["_law_script"] (spLaw K) := by
  have e := hfa.symm.trans (PySem.W.mg_of X G a10)
  cases e
  have non : ∀ {y : Str}, PySem.W.nsIn K mainGlobals y = some none → mg y = none := fun z => PySem.W.mg_none_of X G z
  have Z : Bare mg := ⟨non z1, non z2, non z3, non z4, non z5, non z6, non z7, non z8, non z9, non z10, non z11⟩
  have F1 := fun_mk (st := sMoves) l1 c1 k1
  have F4 := fun_mk (st := sBox) l4 c4 k4
  have F5 := fun_mk (st := sTake) l5 c5 k5
  have F6 := fun_mk (st := sOf) l6 c6 k6
  have F7 := fun_mk (st := sStir) l7 c7 k7
  have F8 := fun_mk (st := sKept) l8 c8 k8
  have F9 := fun_mk (st := sLong) l9 c9 k9
  have F10 := fun_mk (st := sLaw) l10 c10 k10
  have b1 := F1.binds (ps := ["old", "new"]) fun _ _ _ _ _ _ us hl => match us, hl with | [_, _], _ => rfl
  have b4 := F4.binds (ps := ["_law_script", "_law_k"]) fun _ _ _ _ _ _ us hl => match us, hl with | [_, _], _ => rfl
  have b5 := F5.binds (ps := ["_law_box_here", "_law_many"]) fun _ _ _ _ _ _ us hl => match us, hl with | [_, _], _ => rfl
  have b6 := F6.binds (ps := ["_law_box_here", "_law_some"]) fun _ _ _ _ _ _ us hl => match us, hl with | [_, _], _ => rfl
  have b7 := F7.binds (ps := ["_law_box_here", "_law_some"]) fun _ _ _ _ _ _ us hl => match us, hl with | [_, _], _ => rfl
  have b8 := F8.binds (ps := ["_law_early", "_law_late"]) fun _ _ _ _ _ _ us hl => match us, hl with | [_, _], _ => rfl
  have b9 := F9.binds (ps := ["_law_early", "_law_late"]) fun _ _ _ _ _ _ us hl => match us, hl with | [_, _], _ => rfl
  have bk : ∀ (s : Shared) (u u2 : Value), BindsTo s (PySem.W.fnOf "moves" "moves" (defArgs sMoves) (defBody sMoves) (defScope sMoves) .none kV1 dc1 pm1 an1 cd1 ct1)
      ⟨[], [("new", u), ("old", u2)]⟩ [("old", u2), ("new", u)] := fun s u u2 => .of_eq rfl
  have g1 := PySem.W.mg_of X G a1
  have g4 := PySem.W.mg_of X G a4
  have g5 := PySem.W.mg_of X G a5
  have g6 := PySem.W.mg_of X G a6
  have g7 := PySem.W.mg_of X G a7
  have g8 := PySem.W.mg_of X G a8
  have g9 := PySem.W.mg_of X G a9
  refine ⟨PySem.W.fnOf "law" "law" (defArgs sLaw) (defBody sLaw) (defScope sLaw) .none kV10 dc10 pm10 an10 cd10 ct10, fun s v => .of_eq rfl, fun base _ _ => ?_⟩
  have G5 : FnOk l.prog w K mg base CX0 1 f5 _ ["_law_box_here", "_law_many"] spTake := ok_take F5
  have G6 : FnOk l.prog w K mg base CX0 2 f6 _ ["_law_box_here", "_law_some"] spOf := ok_of F6 F5 b5 g5 Z
  have G7 : FnOk l.prog w K mg base CX0 3 f7 _ ["_law_box_here", "_law_some"] spStir := ok_stir F7 F6 b6 g6 Z G6 F5 b5 g5 G5
  have G8 : FnOk l.prog w K mg base CX0 1 f8 _ ["_law_early", "_law_late"] (spKept K) := ok_kept F8 Z (non z12) (non z13)
  have G9 : FnOk l.prog w K mg base CX0 1 f9 _ ["_law_early", "_law_late"] (spLong K) := ok_long F9 Z (non z12)
  have G1 : FnOk l.prog w K mg base CX0 2 f1 _ ["old", "new"] spMoves := ok_moves F1 Z (non z12)
  exact ok_law F10 Z (non z14) F4 b4 g4 F7 b7 g7 G7 F6 b6 g6 G6 F5 b5 g5 G5 F8 b8 g8 G8 F9 b9 g9 G9 k1 b1 g1 (by decide) bk G1
end K6
open PySem PySem.W PyProof.Rows
set_option maxHeartbeats 0 in
theorem PySem.Challenge.cw_sourceback_k66_moves_of_lists_holds : PySem.Challenge.rw_sourceback_k66_moves_of_lists.Holds := by
  w_on; o_law; k_head; (case hw => w_witness2)
  k_fill
  refine K6.walk (l := PySem.Challenge.rw_sourceback_k66_moves_of_lists) rfl rfl (fun w h Y => PySem.W.kIn_of Y) ?F
  case F =>
    intro w mg fa h KX G hmg
    refine' K6.all_mk KX G hmg ?a1 ?l1 ?c1 ?k1 ?a4 ?l4 ?c4 ?k4 ?a5 ?l5 ?c5 ?k5 ?a6 ?l6 ?c6 ?k6 ?a7 ?l7 ?c7 ?k7 ?a8 ?l8 ?c8 ?k8 ?a9 ?l9 ?c9 ?k9 ?a10 ?l10 ?c10 ?k10 ?z1 ?z2 ?z3 ?z4 ?z5 ?z6 ?z7 ?z8 ?z9 ?z10 ?z11 ?z12 ?z13 ?z14
    (case a1 => k_is); (case l1 => k_is); (case c1 => k_is); (case k1 => k_is)
    (case a4 => k_is); (case l4 => k_is); (case c4 => k_is); (case k4 => k_is)
    (case a5 => k_is); (case l5 => k_is); (case c5 => k_is); (case k5 => k_is)
    (case a6 => k_is); (case l6 => k_is); (case c6 => k_is); (case k6 => k_is)
    (case a7 => k_is); (case l7 => k_is); (case c7 => k_is); (case k7 => k_is)
    (case a8 => k_is); (case l8 => k_is); (case c8 => k_is); (case k8 => k_is)
    (case a9 => k_is); (case l9 => k_is); (case c9 => k_is); (case k9 => k_is)
    (case a10 => k_is); (case l10 => k_is); (case c10 => k_is); (case k10 => k_is)
    (case z1 => k_is); (case z2 => k_is); (case z3 => k_is); (case z4 => k_is); (case z5 => k_is); (case z6 => k_is)
    (case z7 => k_is); (case z8 => k_is); (case z9 => k_is); (case z10 => k_is); (case z11 => k_is); (case z12 => k_is)
    (case z13 => k_is); (case z14 => k_is)
