import PyProof.Rows.All
import Wide.All
import OpenK.AllK
import Wide.FinOn
import HandS.ForMost
import HandS.IsInst
import HandS.Wide
import HandS.EndBits
import PyProof.ReprRoads
import HandS.Walk
import HandS.Codes
import PySem.Challenge.RW_sourceback_k01_names_of_any_value
set_option Elab.async false
set_option linter.all false
set_option maxRecDepth 100000
/-! A def that shows values (repr): its promise holds where no repr is under way on the stack (guards are []). -/
namespace K1
open PySem PySem.Spec PyProof.Rows L2

/-- the promise of a def, kept wherever no repr stands on the stack -/
structure FnG (P : Program) (w : World) (K : PySem.W.Frag) (mg : Str → Option Value) (base : Heap) (k : Nat)
    (f : Addr) (fd : FuncData) (ps : List Str) (sp : Sp) : Prop where
  len : ∀ vs H Q E, sp vs H Q E → vs.length = ps.length
  run : ∀ (B : Around) (fr : List Env) (s : Shared) (H : Hp) (args : Args) (us : List Value) (vs : List V) (Q : VK)
    (E : XK), B.guards = some [] → Room k B → Env0 P w K mg base B fr s H → BindsTo s fd args (ps.zip us) →
    Vals vs us → sp vs H Q E → codeAny (model P w) B (.call (.ref f) args) (CR CX0 fr P w H s Q E) s

section
variable {P : Program} {w : World} {K : PySem.W.Frag} {mg : Str → Option Value} {base : Heap}

theorem FnG.mk' {x qual : Str} {st : Stmt} {f : Addr} {fd : FuncData} {N ps : List Str} {k : Nat} {sp : Sp}
    (F : Fun K x qual st f fd) (S : FnScope N ps (defScope st))
    (len : ∀ vs H Q E, sp vs H Q E → vs.length = ps.length)
    (hbody : ∀ (cdv : Value) (B : Around) (fr : List Env) (s : Shared) (H : Hp) (vs : List V) (Q : VK) (E : XK),
      B.guards = some [] → Room k (B.deeper (envOfC qual (defScope st) s.heap.objs.size f cdv)) → sp vs H Q E →
      ∃ t, PSs (cxOf CX0 P w K mg base N qual (defScope st) f cdv B fr s H E).nox (defBody st) t ∧
        t { nx := fun _ H' => Q .non H', rt := Q } (start N vs) H) : FnG P w K mg base (k + 1) f fd ps sp := by
  obtain ⟨oc, od, kV, doc, pm, an, cdv, ct, osl, rfl, look, code⟩ := F.ex
  refine ⟨len, fun B fr s H args us vs Q E hG room e0 bd rv want => ?_⟩
  have lv := len _ _ _ _ want
  have kin : K.In s.heap := e0.mod.kin.keeps fun b o h => (e0.bs b o h).1
  have nol : s.heap.NoLimit := e0.mod.nolimit.keeps fun b o h => (e0.bs b o h).1
  have par : ∀ y ∈ ps.zip us, (defScope st).names.lookup y.1 = some .local ∨
      ((defScope st).names.lookup y.1 = some .cell ∧
        ((cellsFrom (s.heap.objs.size + 1) (defScope st).names []).lookup y.1).isSome = true) := by
    rintro ⟨n, v⟩ hy
    rcases S.par n (List.of_mem_zip hy).1 with q | q
    · exact Or.inl q
    · exact Or.inr ⟨q, PySem.W.cellsFrom_some _ _ _ (Or.inl q)⟩
  refine codeAny_call_function room.depth (kin _ _ look) rfl S.co S.gen rfl
    (PySem.W.codeRec_of kin code) (bd _ _ _ _ ?_)
  refine wpAny_newFunctionEnv_cells S.kind par fun env he s1 inc => ?_
  subst he
  refine ⟨nol.keeps inc.toInCall.keep, codeAny_func ?_⟩
  obtain ⟨t, ht, hq⟩ := hbody cdv B fr s H vs Q E hG (room.deeper _) want
  have inv : Inv (cxOf CX0 P w K mg base N qual (defScope st) f cdv B fr s H E) [] (start N vs) H s1 :=
    inv_start S room.hd e0 lv rv inc
  refine wpAny_mono (ht.nox.run [] s1 (start N vs) H _ inv hq) ?_ (fun _ _ z => z)
  have done : ∀ {s' : Shared} {σ' : L2.St} {H' : Hp} {v : V} {u : Value},
      Inv (cxOf CX0 P w K mg base N qual (defScope st) f cdv B fr s H E) [] σ' H' s' → RelV v u → Q v H' →
      CE fr P w H s Q u s' := fun J r q => ⟨_, _, J.os, J.bare, J.base, J.hok, r, q⟩
  intro fl s' hs
  cases fl with
  | brk => exact hs.choose_spec.choose_spec.2.elim
  | cont => exact hs.choose_spec.choose_spec.2.elim
  | next =>
    obtain ⟨σ', H', J, q⟩ := hs
    exact done (v := V.non) (u := Value.none) J rfl q
  | ret u =>
    obtain ⟨v, σ', H', J, r, q⟩ := hs
    exact done J r q
end

section
variable {X : Cx} {k : Nat} {f : Addr} {fd : FuncData} {ps : List Str} {sp : Sp} {E : XK} {x : Str} {p pos : Pos}
  {e : Expr} {es : List Expr} {t : TA}

theorem run_fnG {pins : List (Addr × Obj)} {σ : L2.St} {H : Hp} {s : Shared} {Q : VK} {us : List Value} {vs : List V}
    (F : FnG X.prog X.w X.K X.mg X.base k f fd ps sp) (hG : X.A.guards = some []) (room : Room k X.A)
    (bd : Binds X.K fd ps []) (hx : Passes CX0 X E) (I : Inv X pins σ H s) (r : Vals vs us) (h : sp vs H Q E) :
    wpAny (model X.prog X.w) X.A (call (.ref f) us) (EP X pins σ Q) X.xe s := by
  have el : (us ++ []).length = ps.length := by
    rw [List.append_nil, ← r.length]
    exact F.len _ _ _ _ h
  have hb := bd s us I.kIn el
  rw [List.append_nil] at hb
  refine wpAny_call (codeAny_mono (F.run X.A X.stack s H ⟨us, []⟩ us vs Q E hG room I.env0 hb r h) ?_)
  rintro (⟨er⟩ | ⟨fl⟩) s' hq
  · exact hx pins σ H s er s' I hq
  · rcases fl with _ | _ | _ | u
    · exact hq.elim
    · exact hq.elim
    · exact hq.elim
    · exact I.after hq

/-- f(e, ..), f a def that shows values -/
theorem pe_callG (F : FnG X.prog X.w X.K X.mg X.base k f fd ps sp) (hG : X.A.guards = some []) (room : Room k X.A)
    (hg : Gl X x) (hm : X.mg x = some (.ref f)) (keep : PySem.W.keepIn X.K (.ref f) = true)
    (bd : Binds X.K fd ps []) (hx : Passes CX0 X E) (ha : PA X (e :: es) t)
    (hdb : (x == ("__debug__" : Str)) = false := by decide)
    (he : starEach (e :: es) X.env = (false, eval e X.env) :: starEach es X.env := by rfl)
    (hpl : (backTo pos (starEach es X.env)).any (·.1) = false := by rfl) :
    PE X (.Call (.Name x p) (e :: es) [] pos) (tCall sp [] E t) := by
  refine ⟨fun pins s σ H Q I h => wpAny_Call_Name_kw (ld_glob I hg hm ?_ hdb)⟩
  refine PySem.W.callWith_K (h₀ := X.base) I.ok.mod.kin keep (thn (ha.run pos pins s σ H _ I h) ?_) he hpl
  rintro us s1 ⟨vs, H1, I1, r, q⟩
  rw [List.append_nil] at q
  exact ⟨I1.kIn, run_fnG F hG room bd hx I1 r q⟩
end
end K1
namespace K1
open PySem PySem.Spec PyProof.Rows L2

def topS (i : Nat) : Stmt :=
  PySem.Challenge.pw_sourceback_k01_names_of_any_value.main.body.getD i (.Pass ⟨0, 0, 0, 0⟩)
abbrev sIs : Stmt := topS 4
abbrev sBox : Stmt := topS 6
abbrev sTake : Stmt := topS 7
abbrev sOf : Stmt := topS 8
abbrev sAny : Stmt := topS 9
abbrev sOwn : Stmt := topS 10
abbrev sWords : Stmt := topS 11
abbrev sRight : Stmt := topS 12
abbrev sLaw : Stmt := topS 13

theorem scTake : FnScope ["_law_box_here", "_law_many", "_law_digit", "_law_mixed"] ["_law_box_here", "_law_many"]
    (defScope sTake) := ⟨rfl, rfl, rfl, by decide +kernel, rfl, by decide +kernel, by decide +kernel⟩

/-- a box of digits at b: what is left of the cell, the mixed number, the count of draws -/
def Box (c : Int) (H : Hp) (b : Addr) : Prop :=
  ∃ o m k : Int, H b = some (.lst [.int o, .int m, .int k]) ∧ (0 ≤ o ∧ o < 2 ^ 1100) ∧ (0 ≤ m ∧ m < 2 ^ 61) ∧ (0 ≤ k ∧ k ≤ c)
/-- all but b stands as before -/
def Kept (b : Addr) (H H' : Hp) : Prop := ∀ a o, H a = some o → a ≠ b → H' a = some o

theorem Kept.refl (b : Addr) (H : Hp) : Kept b H H := fun _ _ e _ => e
theorem Kept.trans {b : Addr} {H H' H'' : Hp} (x : Kept b H H') (y : Kept b H' H'') : Kept b H H'' :=
  fun a o e n => y a o (x a o e n) n
theorem Kept.upd {b : Addr} {H H' : Hp} {o : HO} (x : Kept b H H') : Kept b H (upd H' b o) := fun a u e n => by
  rw [upd_ne n]
  exact x a u e n

theorem small64 {x : Int} (h0 : 0 ≤ x) (h1 : x < 2 ^ 64) : -(2 ^ 64) < x ∧ x < 2 ^ 64 := ⟨by omega, h1⟩

theorem bits_le {x : Int} {n : Nat} (h : x.natAbs < 2 ^ n) (hn : 0 < n) : x.natAbs.log2 < n := PySem.Flt.log2_lt_of hn h

theorem pass_int {Q : V → Hp → Prop} {z : Int} {H : Hp} (h : ∀ x, x = z → Q (.int x) H) : Q (.int z) H := h z rfl

def spTake : Sp := fun vs H Q _ => ∃ (b : Addr) (n c : Int), vs = [.ref b, .int n] ∧ Box c H b ∧ 1 ≤ n ∧ n ≤ 1000 ∧
  c ≤ 100000 ∧ ∀ H' r, Kept b H H' → Box (c + 1) H' b → 0 ≤ r → r < n → Q (.int r) H'

section
variable {P : Program} {w : World} {K : PySem.W.Frag} {mg : Str → Option Value} {base : Heap}

theorem ok_take {f : Addr} {fd : FuncData} (F : Fun K "_law_take" "_law_take" sTake f fd) :
    FnOk P w K mg base CX0 1 f fd ["_law_box_here", "_law_many"] spTake := by
  refine F.ok scTake (fun vs H Q E h => ?_) (fun cdv A outer s H vs Q E hr h => ?_)
  · obtain ⟨b, n, c, rfl, _⟩ := h
    rfl
  · obtain ⟨b, n, c, rfl, ⟨o, m, k, hb, ho, hm, hk⟩, n1, n2, hc, q⟩ := h
    refine ⟨_, pss_cons (ps_if (pt_cmpR op_gt (pe_ix ix_list (pv 0) pe_int (fun _ _ => rfl)) pe_int (nomark _))
        (pss_cons (ps_set (i := 2) scTake.nd rfl (.inl rfl)
            (pe_op op_mod (pe_ix ix_list (pv 0) pe_int (fun _ _ => rfl)) (pv 1)))
          (pss_cons (ps_asg (pe_op op_fdivW (pe_ix ix_list (pv 0) pe_int (fun _ _ => rfl)) (pv 1))
              (pg_sub (pv 0) pe_int set_list))
            (pss_one (ps_ret (pv 2))))) pss_nil)
      (pss_cons (ps_asg (pe_op op_add (pe_ix ix_list (pv 0) pe_int (fun _ _ => rfl)) pe_int)
          (pg_sub (pv 0) pe_int set_list))
      (pss_cons (ps_set (i := 3) scTake.nd rfl (.inl rfl)
          (pe_op op_mod (pe_op op_mul (pe_op op_add (pe_op op_add (pe_ix ix_list (pv 0) pe_int (fun _ _ => rfl))
              (pe_op op_mul (pe_op op_mul pe_int (pe_ix ix_list (pv 0) pe_int (fun _ _ => rfl)))
                (pe_ix ix_list (pv 0) pe_int (fun _ _ => rfl)))) pe_int) pe_int) pe_int))
      (pss_cons (ps_set (i := 3) scTake.nd rfl (.inl rfl)
          (pe_op op_mod (pe_op op_mul (pv 3) (pe_op op_add (pe_op op_mod (pv 3) pe_int)
            (pe_op op_mul pe_int (pe_ix ix_list (pv 0) pe_int (fun _ _ => rfl))))) pe_int))
      (pss_one (ps_ret (pe_op op_mod (pe_op op_add (pe_op op_fdiv (pv 3) pe_int) (pe_op op_fdiv (pv 3) pe_int))
        (pv 1))))))), ?_⟩
    have hB : SqL K H b [.int o, .int m, .int k] := SqL.of hb
    -- if box[0] > 0
    refine ⟨.ref b, rfl, b, _, 0, .int o, rfl, rfl, hB, atI_nat (j := 0) rfl, o, 0, rfl, rfl, _, rfl, ?_⟩
    refine ite2 (fun e => ?_) (fun e => ?_)
    · have ho0 : 0 < o := of_decide_eq_true e
      have hn0 : 0 < n := by omega
      refine ⟨.ref b, rfl, b, _, 0, .int o, rfl, rfl, hB, atI_nat (j := 0) rfl, .int n, rfl, o, n, rfl, rfl, hn0, ?_⟩
      -- box[0] = box[0] // many
      refine ⟨.ref b, rfl, b, _, 0, .int o, rfl, rfl, hB, atI_nat (j := 0) rfl, .int n, rfl, o, n, rfl, rfl,
        ⟨hn0, bits_le (n := 9000) (by omega) (by decide)⟩, ?_⟩
      refine ⟨.ref b, rfl, b, _, 0, 0, rfl, rfl, hb, rfl, ?_⟩
      refine ⟨.int (o % n), rfl, ?_⟩
      have d0 : 0 ≤ o / n := Int.ediv_nonneg ho.1 (by omega)
      have d1 : o / n ≤ o := Int.ediv_le_self _ ho.1
      exact q _ _ (Kept.refl b H).upd ⟨o / n, m, k, upd_same, ⟨d0, by omega⟩, hm, ⟨hk.1, by omega⟩⟩
        (Int.emod_nonneg _ (by omega)) (Int.emod_lt_of_pos _ hn0)
    · have hn0 : 0 < n := by omega
      -- box[2] = box[2] + 1
      refine ⟨.ref b, rfl, b, _, 2, .int k, rfl, rfl, hB, atI_nat (j := 2) rfl, k, 1, rfl, rfl, ?_⟩
      refine ⟨.ref b, rfl, b, _, 2, 2, rfl, rfl, hb, rfl, ?_⟩
      generalize hH1 : upd H b _ = H1
      have hb1 : H1 b = some (.lst [.int o, .int m, .int (k + 1)]) := by
        rw [← hH1, upd_same]
        rfl
      have hB1 : SqL K H1 b [.int o, .int m, .int (k + 1)] := SqL.of hb1
      have kp : Kept b H H1 := by
        rw [← hH1]
        exact (Kept.refl b H).upd
      have hk1 : 0 ≤ k + 1 := by omega
      have hk2 : k + 1 ≤ 100001 := by omega
      -- mixed
      refine ⟨.ref b, rfl, b, _, 1, .int m, rfl, rfl, hB1, atI_nat (j := 1) rfl, .ref b, rfl, b, _, 2, .int (k + 1), rfl, rfl,
        hB1, atI_nat (j := 2) rfl, 65551, k + 1, rfl, rfl, .inl ⟨by decide, by decide⟩, ?_⟩
      refine ⟨.ref b, rfl, b, _, 2, .int (k + 1), rfl, rfl, hB1, atI_nat (j := 2) rfl, 65551 * (k + 1), k + 1, rfl, rfl,
        .inr ⟨by omega, by omega⟩, ?_⟩
      refine ⟨m, 65551 * (k + 1) * (k + 1), rfl, rfl, m + 65551 * (k + 1) * (k + 1), 29, rfl, rfl, _, 48281, rfl, rfl,
        .inr ⟨by decide, by decide⟩, _, 2305843009213693921, rfl, rfl, by show (0 : Int) < 2305843009213693921; decide, ?_⟩
      show gName 3 (V.int ((m + 65551 * (k + 1) * (k + 1) + 29) * 48281 % 2305843009213693921)) _ H1 _
      generalize hx : (m + 65551 * (k + 1) * (k + 1) + 29) * 48281 % 2305843009213693921 = x
      have hx0 : 0 ≤ x := by
        rw [← hx]
        exact Int.emod_nonneg _ (by decide)
      have hx1 : x < 2305843009213693921 := by
        rw [← hx]
        exact Int.emod_lt_of_pos _ (by decide)
      -- mixed again
      refine ⟨.int x, rfl, .int x, rfl, x, 1000039, rfl, rfl, by show (0 : Int) < 1000039; decide, .ref b, rfl, b, _, 2, .int (k + 1), rfl, rfl,
        hB1, atI_nat (j := 2) rfl, 99989, k + 1, rfl, rfl, .inl ⟨by decide, by decide⟩, _, _, rfl, rfl, x, _, rfl, rfl,
        .inl ⟨by omega, by omega⟩, _, 2305843009213693907, rfl, rfl, by show (0 : Int) < 2305843009213693907; decide, ?_⟩
      show gName 3 (V.int (x * (x % 1000039 + 99989 * (k + 1)) % 2305843009213693907)) _ H1 _
      generalize hy : x * (x % 1000039 + 99989 * (k + 1)) % 2305843009213693907 = y
      -- the end
      refine ⟨.int y, rfl, y, 109, rfl, rfl, ⟨by decide, by decide⟩, .int y, rfl, y, 1000081, rfl, rfl, ⟨by decide, by decide⟩,
        _, _, rfl, rfl, .int n, rfl, _, n, rfl, rfl, hn0, ?_⟩
      exact q H1 _ kp ⟨o, m, k + 1, hb1, ho, hm, ⟨hk1, by omega⟩⟩ (Int.emod_nonneg _ (by omega)) (Int.emod_lt_of_pos _ hn0)
end
end K1
namespace K1
open PySem PySem.Spec PyProof.Rows L2

theorem scOf : FnScope ["_law_box_here", "_law_some"] ["_law_box_here", "_law_some"] (defScope sOf) :=
  ⟨rfl, rfl, rfl, by decide +kernel, rfl, by decide +kernel, by decide +kernel⟩
theorem scBox : FnScope ["_law_script", "_law_k", "_law_digits", "_law_own"] ["_law_script", "_law_k"] (defScope sBox) :=
  ⟨rfl, rfl, rfl, by decide +kernel, rfl, by decide +kernel, by decide +kernel⟩

/-- the names of the built-in things that the text reads: none is a name of its own -/
structure Bare (mg : Str → Option Value) : Prop where
  len : mg "len" = none
  abs : mg "abs" = none
  int : mg "int" = none
  isin : mg "isinstance" = none
  str : mg "str" = none
  all : mg "all" = none
  range : mg "range" = none
  list : mg "list" = none
  repr : mg "repr" = none
  max : mg "max" = none
  min : mg "min" = none

def spOf : Sp := fun vs H Q _ => ∃ (b l : Addr) (xs : List V) (c : Int), vs = [.ref b, .ref l] ∧ Box c H b ∧
  H l = some (.lst xs) ∧ l ≠ b ∧ 1 ≤ xs.length ∧ xs.length ≤ 1000 ∧ c ≤ 100000 ∧
  ∀ H' v, Kept b H H' → Box (c + 1) H' b → v ∈ xs → Q v H'

def spBox (K : PySem.W.Frag) : Sp := fun vs H Q _ => ∃ (a : Addr) (ns : List Int) (k : Int), vs = [.ref a, .int k] ∧
  SqL K H a (ns.map V.int) ∧ 0 ≤ k ∧ k ≤ 2 ∧ ∀ H' p, Same H H' → H p = none → Box 0 H' p → Q (.ref p) H'

section
variable {P : Program} {w : World} {K : PySem.W.Frag} {mg : Str → Option Value} {base : Heap}

theorem op_powB {X : Cx} : OpR X (binaryOp .Pow)
    (rI (fun i j => 0 ≤ j ∧ (Builtin.Int.intBits i : Int) * j ≤ 2 ^ 27) fun i j => .int (i ^ j.toNat)) :=
  opI fun _ _ _ _ _ _ _ hc q => pow_int hc.1 hc.2 q

theorem any_val {t : TE} {σ : L2.St} {H : Hp} {Q : VK} (h : ∀ Q' : VK, (∀ d : Int, Q' (.int d) H) → t σ H Q')
    (hq : ∀ d, Q (.int d) H) : t σ H Q := h Q hq
theorem same_upd {H : Hp} {p : Addr} {o : HO} (h : H p = none) : Same H (upd H p o) := fun b x e => by
  rw [upd_ne (ne_of_none e h)]
  exact e

theorem atI_toNat {xs : List V} {i : Int} {v : V} (h0 : 0 ≤ i) (h : xs[i.toNat]? = some v) : atI xs i = some v := by
  have e : i = ((i.toNat : Nat) : Int) := by omega
  rw [e]
  exact atI_nat h

theorem b01 (t : Bool) : -(2 ^ 64) < (if t then (1 : Int) else 0) ∧ (if t then (1 : Int) else 0) < 2 ^ 64 := by
  cases t <;> decide

theorem ok_of {f fT : Addr} {fd fdT : FuncData} (F : Fun K "_law_of" "_law_of" sOf f fd)
    (FT : Fun K "_law_take" "_law_take" sTake fT fdT) (bT : Binds K fdT ["_law_box_here", "_law_many"] [])
    (gT : mg "_law_take" = some (.ref fT)) (Z : Bare mg) :
    FnOk P w K mg base CX0 2 f fd ["_law_box_here", "_law_some"] spOf := by
  have GT : FnOk P w K mg base CX0 1 fT fdT ["_law_box_here", "_law_many"] spTake := ok_take FT
  refine F.ok scOf (fun vs H Q E h => ?_) (fun cdv A outer s H vs Q E hr h => ?_)
  · obtain ⟨b, l, xs, c, rfl, _⟩ := h
    rfl
  · obtain ⟨b, l, xs, c, rfl, hb, hl, nlb, n1, n2, hc, q⟩ := h
    refine ⟨_, pss_one (ps_ret (pe_ix ix_list (pv 1) (pe_call GT hr (by rfl) gT FT.kp bT .nil pass0
      (pa_cons (pv 0) (pa_cons (pe_callB call_len_seq (by rfl) Z.len PySem.boot_len (pa_cons (pv 1) pa_nil)) pa_nil)))
      (fun _ _ => rfl))), ?_⟩
    refine ⟨.ref l, rfl, .ref b, rfl, .ref l, rfl, l, xs, rfl, .inl (SqL.of hl), b, _, c, rfl, hb, by omega, by omega, hc, fun H' r kp hb' r0 r1 => ?_⟩
    have hl' : H' l = some (.lst xs) := kp _ _ hl nlb
    have hi : r.toNat < xs.length := by omega
    have er : r = ((r.toNat : Nat) : Int) := by omega
    refine ⟨l, xs, r, xs[r.toNat], rfl, rfl, SqL.of hl', ?_, q H' _ kp hb' (List.getElem_mem hi)⟩
    exact atI_toNat r0 (by simp [hi])

/-- own and mixed, for any digits -/
theorem own_lt (d : Int) (t : Bool) : 0 ≤ (if d < 0 then -d else d) % ((10 : Int) ^ (60 : Int).toNat) ^ (5 : Int).toNat * (if t then 1 else 0) ∧
    (if d < 0 then -d else d) % ((10 : Int) ^ (60 : Int).toNat) ^ (5 : Int).toNat * (if t then 1 else 0) < 2 ^ 1100 := by
  have h1 : (0 : Int) < ((10 : Int) ^ (60 : Int).toNat) ^ (5 : Int).toNat := by decide +kernel
  have h2 : ((10 : Int) ^ (60 : Int).toNat) ^ (5 : Int).toNat < 2 ^ 1100 := by decide +kernel
  generalize ((10 : Int) ^ (60 : Int).toNat) ^ (5 : Int).toNat = B at h1 h2 ⊢
  generalize (if d < 0 then -d else d) = x
  have h3 : 0 ≤ x % B := Int.emod_nonneg _ (by omega)
  have h4 : x % B < B := Int.emod_lt_of_pos _ h1
  cases t
  · simp only [Bool.false_eq_true, if_false, Int.mul_zero]
    exact ⟨Int.le_refl 0, by omega⟩
  · simp only [if_true, Int.mul_one]
    exact ⟨h3, by omega⟩

theorem ok_box {f : Addr} {fd : FuncData} (F : Fun K "_law_box" "_law_box" sBox f fd) (Z : Bare mg) :
    FnOk P w K mg base CX0 1 f fd ["_law_script", "_law_k"] (spBox K) := by
  refine F.ok scBox (fun vs H Q E h => ?_) (fun cdv A outer s H vs Q E hr h => ?_)
  · obtain ⟨a, ns, k, rfl, _⟩ := h
    rfl
  · obtain ⟨a, ns, k, rfl, hS, k0, k2, q⟩ := h
    refine ⟨_, pss_cons (ps_set (i := 2) scBox.nd rfl (.inl rfl)
        (pe_ifExp (pt_cmpR op_lt (pv 1) (pe_callB call_len_seq (by rfl) Z.len PySem.boot_len (pa_cons (pv 0) pa_nil)) (nomark _))
          (pe_ix ix_list (pv 0) (pv 1) (fun _ _ => rfl)) (pe_op op_add (pe_op op_mul pe_int (pv 1)) pe_int)))
      (pss_cons (ps_set (i := 3) scBox.nd rfl (.inl rfl)
        (pe_op op_mul (pe_op op_mod (pe_callB call_abs (by rfl) Z.abs (by decide +kernel) (pa_cons (pv 2) pa_nil))
            (pe_op op_powB (pe_op op_pow pe_int pe_int) pe_int))
          (pe_callTy call_int1 (by rfl) Z.int (by decide +kernel) (pa_cons (pe_cmpR op_ge
            (pe_callB call_abs (by rfl) Z.abs (by decide +kernel) (pa_cons (pv 2) pa_nil)) (pe_op op_pow pe_int pe_int) (nomark _)) pa_nil))))
      (pss_one (ps_ret (pe_lst (pa_cons (pv 3) (pa_cons
        (pe_op op_mod (pe_op op_add (pe_op op_add (pe_op op_mul (pe_op op_mod (pv 2) pe_int) pe_int)
          (pe_op op_mul (pe_op op_mul pe_int (pv 1)) (pv 1))) pe_int) pe_int) (pa_cons pe_int pa_nil))))))), ?_⟩
    show tIf _ _ _ _ _ _
    refine any_val (fun Qc hq => ?_) (fun d => ?_)
    · refine ⟨.int k, rfl, .ref a, rfl, a, _, rfl, .inl hS, k, _, rfl, rfl, _, rfl, ?_⟩
      refine ite2 (fun e => ?_) (fun e => ?_)
      · have e' : k < ((ns.map V.int).length : Int) := of_decide_eq_true e
        rw [List.length_map] at e'
        have hi : k.toNat < ns.length := by omega
        exact ⟨.ref a, rfl, .int k, rfl, a, _, k, .int ns[k.toNat], rfl, rfl, hS, atI_toNat k0 (by simp [hi]), hq _⟩
      · exact ⟨.int k, rfl, 37, k, rfl, rfl, .inl ⟨by decide, by decide⟩, 37 * k, 5, rfl, rfl, hq _⟩
    · -- own
      refine ⟨.int d, rfl, d, rfl, 10, 60, rfl, rfl, ⟨by decide, by decide, by decide⟩, _, 5, rfl, rfl, ⟨by decide, by decide +kernel⟩, _, _, rfl, rfl,
        (by show (0 : Int) < ((10 : Int) ^ (60 : Int).toNat) ^ (5 : Int).toNat; decide +kernel), ?_⟩
      refine ⟨.int d, rfl, d, rfl, 10, 18, rfl, rfl, ⟨by decide, by decide, by decide⟩, _, _, rfl, rfl, .inr ⟨_, rfl, _, _, rfl, rfl, .inr (b01 _), ?_⟩⟩
      show gName 3 (.int ((if d < 0 then -d else d) % ((10 : Int) ^ (60 : Int).toNat) ^ (5 : Int).toNat *
        (if decide ((10 : Int) ^ (18 : Int).toNat ≤ (if d < 0 then -d else d)) = true then 1 else 0))) _ H _
      have B := own_lt d (decide ((10 : Int) ^ (18 : Int).toNat ≤ (if d < 0 then -d else d)))
      revert B
      generalize (if d < 0 then -d else d) % ((10 : Int) ^ (60 : Int).toNat) ^ (5 : Int).toNat *
        (if decide ((10 : Int) ^ (18 : Int).toNat ≤ (if d < 0 then -d else d)) = true then 1 else 0) = o
      intro B
      -- the list
      refine ⟨.int o, rfl, .int d, rfl, d, 2305843009213693951, rfl, rfl, (by show (0 : Int) < 2305843009213693951; decide), _, 70079, rfl, rfl, .inr ⟨by decide, by decide⟩,
        .int k, rfl, 4799, k, rfl, rfl, .inl ⟨by decide, by decide⟩, .int k, rfl, 4799 * k, k, rfl, rfl, .inr ⟨by omega, by omega⟩, _, _, rfl, rfl, _, 71, rfl, rfl,
        _, 2305843009213693921, rfl, rfl, (by show (0 : Int) < 2305843009213693921; decide), (by show 3 ≤ sizeLine; decide), fun p hp => ?_⟩
      refine q _ p (same_upd hp) hp ⟨o, _, 0, upd_same, B, ⟨Int.emod_nonneg _ (by decide), ?_⟩, ⟨by decide, by decide⟩⟩
      exact Int.lt_trans (Int.emod_lt_of_pos _ (by decide)) (by decide)
end
end K1
namespace K1
open PySem PySem.Spec PyProof.Rows L2

mutual
/-- v is a datum d: its objects stand in H, at no address of S -/
inductive Sh (H : Hp) (S : Addr → Prop) : V → PyData → Prop
  | non : Sh H S .non .none
  | bl (b : Bool) : Sh H S (.bl b) (.bool b)
  | int (i : Int) : Sh H S (.int i) (.int i)
  | str (x : Str) : Sh H S (.str x) (.str x)
  | lst {a : Addr} {xs : List V} {ds : List PyData} : H a = some (.lst xs) → ¬ S a → a ≠ sysModules → ShAll H S xs ds →
    Sh H S (.ref a) (.list ds)
  | tup {a : Addr} {xs : List V} {ds : List PyData} : H a = some (.tup xs) → ¬ S a → ShAll H S xs ds →
    Sh H S (.ref a) (.tuple ds)
  | dic0 {a : Addr} : H a = some (.dK []) → ¬ S a → Sh H S (.ref a) (.dict [])
  | dic1 {a : Addr} {x : Str} {v : V} {d : PyData} : H a = some (.dK [(Sum.inr x, v)]) → ¬ S a → Sh H S v d →
    Sh H S (.ref a) (.dict [(.str x, d)])
inductive ShAll (H : Hp) (S : Addr → Prop) : List V → List PyData → Prop
  | nil : ShAll H S [] []
  | cons {v : V} {vs : List V} {d : PyData} {ds : List PyData} : Sh H S v d → ShAll H S vs ds → ShAll H S (v :: vs) (d :: ds)
end

mutual
theorem Sh.mono {H H' : Hp} {S S' : Addr → Prop} (hs : ∀ a, S' a → S a) (hk : ∀ a o, ¬ S a → H a = some o → H' a = some o) :
    ∀ {v : V} {d : PyData}, Sh H S v d → Sh H' S' v d
  | _, _, .non => .non
  | _, _, .bl b => .bl b
  | _, _, .int i => .int i
  | _, _, .str x => .str x
  | _, _, .lst h n m t => .lst (hk _ _ n h) (fun z => n (hs _ z)) m (ShAll.mono hs hk t)
  | _, _, .tup h n t => .tup (hk _ _ n h) (fun z => n (hs _ z)) (ShAll.mono hs hk t)
  | _, _, .dic0 h n => .dic0 (hk _ _ n h) (fun z => n (hs _ z))
  | _, _, .dic1 h n t => .dic1 (hk _ _ n h) (fun z => n (hs _ z)) (Sh.mono hs hk t)
theorem ShAll.mono {H H' : Hp} {S S' : Addr → Prop} (hs : ∀ a, S' a → S a) (hk : ∀ a o, ¬ S a → H a = some o → H' a = some o) :
    ∀ {vs : List V} {ds : List PyData}, ShAll H S vs ds → ShAll H' S' vs ds
  | _, _, .nil => .nil
  | _, _, .cons a b => .cons (Sh.mono hs hk a) (ShAll.mono hs hk b)
end

section
variable {X : Cx} {pins : List (Addr × Obj)} {σ : L2.St} {H : Hp} {s : Shared} {S : Addr → Prop}
mutual
theorem Sh.reads (I : Inv X pins σ H s) : ∀ {v : V} {d : PyData} {u : Value}, Sh H S v d → RelV v u →
    ∃ as, Reads s.heap u d as ∧ sysModules ∉ as
  | _, _, _, .non, r => by
    cases r
    exact ⟨_, Reads.none, by simp⟩
  | _, _, _, .bl b, r => by
    cases r
    exact ⟨_, Reads.bool b, by simp⟩
  | _, _, _, .int i, r => by
    obtain ⟨t, rfl⟩ := r
    exact ⟨_, Reads.int i t, by simp⟩
  | _, _, _, .str x, r => by
    obtain ⟨t, rfl⟩ := r
    exact ⟨_, Reads.str x t, by simp⟩
  | _, _, _, .lst h n m t, r => by
    cases r
    obtain ⟨its, rv, ⟨o, k, ho, hc, _, hd⟩, _⟩ := I.list (SqL.of h)
    obtain ⟨as, hr, na⟩ := ShAll.reads I t rv
    refine ⟨_, Reads.list ho hc hd hr, fun z => ?_⟩
    rcases List.mem_cons.mp z with e | e
    · exact m e.symm
    · exact na e
  | _, _, _, .tup h n t, r => by
    cases r
    obtain ⟨its, rv, ⟨o, ho, hc, k, hd⟩, _⟩ := I.tuple (SqT.of h)
    obtain ⟨as, hr, na⟩ := ShAll.reads I t rv
    exact ⟨_, Reads.tuple ho hc hd hr, na⟩
  | _, _, _, .dic0 h n, r => by
    cases r
    obtain ⟨_, sm, vs, kv, o, es, ep, ho, hx, hd, hk, hp, _⟩ := dk_of I.hok h
    cases kv
    have e : es.toList = [] := by
      cases hE : es.toList with
      | nil => rfl
      | cons a b =>
        rw [hE] at hp
        cases hp
    refine ⟨_, Reads.dict (kvs := []) ho hx.1 hd (by rw [e]; exact ReadsAll.nil) (by rw [e]; exact ReadsAll.nil), ?_⟩
    intro z
    simp at z
    rw [z] at sm
    simp at sm
  | _, _, _, .dic1 h n t, r => by
    cases r
    obtain ⟨_, sm, vs, kv, o, es, ep, ho, hx, hd, hk, hp, _⟩ := dk_of I.hok h
    rcases vs with _ | ⟨⟨qk, qv⟩, rest⟩
    · cases kv
    cases kv with
    | cons r1 r2 =>
      cases r2
      obtain ⟨e1, rv⟩ := r1
      dsimp only at e1 rv
      subst e1
      cases hE : es.toList with
      | nil =>
        rw [hE] at hp
        cases hp
      | cons a b =>
        rw [hE] at hp
        cases hp with
        | cons hi hv ht =>
          cases ht
          obtain ⟨as, hr, na⟩ := Sh.reads I t rv
          obtain ⟨t1, ek⟩ := Value.isStrOf_shape (show Value.isStrOf _ a.key = true from hi)
          have hv' : a.val = qv := hv
          refine ⟨_, Reads.dict (kvs := [(.str _, _)]) (bs := as ++ []) ho hx.1 hd (by rw [hE]; show ReadsAll _ [a.key] _ _; rw [ek]; exact ReadsAll.cons (Reads.str _ _) ReadsAll.nil)
            (by rw [hE]; show ReadsAll _ [a.val] _ _; rw [hv']; exact ReadsAll.cons hr ReadsAll.nil), ?_⟩
          intro z
          simp at z
          rcases z with z | z
          · rw [z] at sm
            simp at sm
          · exact na z
theorem ShAll.reads (I : Inv X pins σ H s) : ∀ {vs : List V} {ds : List PyData} {us : List Value}, ShAll H S vs ds → Vals vs us →
    ∃ as, ReadsAll s.heap us ds as ∧ sysModules ∉ as
  | _, _, _, .nil, r => by
    cases r
    exact ⟨_, ReadsAll.nil, by simp⟩
  | _, _, _, .cons a b, r => by
    cases r with
    | cons r1 r2 =>
      obtain ⟨as, q1, n1⟩ := Sh.reads I a r1
      obtain ⟨bs, q2, n2⟩ := ShAll.reads I b r2
      refine ⟨_, ReadsAll.cons q1 q2, fun z => ?_⟩
      rcases List.mem_append.mp z with e | e
      · exact n1 e
      · exact n2 e
end
end
end K1
namespace K1
open PySem PySem.Spec PyProof.Rows L2

/-- shown, and not too deep or long -/
structure Good (n : Nat) (d : PyData) : Prop where
  sh : d.showable = true
  dp : d.depth ≤ n
  ln : d.shown.length ≤ 500 + 20 * n

theorem Good.le {n m : Nat} {d : PyData} (g : Good n d) (h : n ≤ m) : Good m d :=
  ⟨g.sh, Nat.le_trans g.dp h, Nat.le_trans g.ln (by omega)⟩
theorem Good.list1 {n : Nat} {d : PyData} (g : Good n d) : Good (n + 1) (.list [d]) := by
  refine ⟨by simp [PyData.showable, PyData.showableAll, g.sh], ?_, ?_⟩
  · have := g.dp
    simp only [PyData.depth, PyData.depthAll]
    omega
  · have h1 := listText_len_le [d.shown]
    have h2 := g.ln
    simp only [PyData.shown, PyData.shownAll]
    simp at h1
    omega
theorem Good.tup1 {n : Nat} {d : PyData} (g : Good n d) : Good (n + 1) (.tuple [d]) := by
  refine ⟨by simp [PyData.showable, PyData.showableAll, g.sh], ?_, ?_⟩
  · have := g.dp
    simp only [PyData.depth, PyData.depthAll]
    omega
  · have h1 := tupleText_len_le [d.shown]
    have h2 := g.ln
    simp only [PyData.shown, PyData.shownAll]
    simp at h1
    omega
theorem Good.tup2 {n : Nat} {d : PyData} (g : Good n d) : Good (n + 1) (.tuple [d, .int 1]) := by
  refine ⟨by simp [PyData.showable, PyData.showableAll, g.sh]; decide +kernel, ?_, ?_⟩
  · have := g.dp
    simp only [PyData.depth, PyData.depthAll]
    omega
  · have h1 := tupleText_len_le [d.shown, (PyData.int 1).shown]
    have h2 := g.ln
    have h3 : (PyData.int 1).shown.length = 1 := by decide +kernel
    have e : (PyData.tuple [d, .int 1]).shown = tupleText [d.shown, (PyData.int 1).shown] := by
      simp only [PyData.shown, PyData.shownAll]
    rw [e]
    simp only [List.map_cons, List.map_nil, List.sum_cons, List.sum_nil, List.length_cons, List.length_nil] at h1
    rw [h3] at h1
    omega
theorem Good.dict1 {n : Nat} {d : PyData} {x : Str} (hx : (reprText x).length ≤ 10) (g : Good n d) : Good (n + 1) (.dict [(.str x, d)]) := by
  refine ⟨by simp [PyData.showable, PyData.showableKv, g.sh], ?_, ?_⟩
  · have := g.dp
    simp only [PyData.depth, PyData.depthKv]
    omega
  · have h1 := dictText_len_le [reprText x ++ ": " ++ d.shown]
    have h2 := g.ln
    simp only [PyData.shown, PyData.shownKv]
    have h3 : (reprText x ++ ": " ++ d.shown).length = (reprText x).length + 2 + d.shown.length := by
      rw [strLen_append, strLen_append]
      rfl
    simp [h3] at h1
    omega
theorem Good.str {n : Nat} {x : Str} (hl : x.length ≤ 40) (hc : ∀ c ∈ x.cps.toList, c < 16 ^ 8) : Good n (.str x) := by
  refine ⟨by simp [PyData.showable], by simp [PyData.depth], ?_⟩
  have h1 := StrLaws.reprText_len x hc
  simp only [PyData.shown]
  omega

def rRepr : List V → Hp → VK → Prop := fun xs H Q => ∃ (v : V) (d : PyData) (S : Addr → Prop) (n : Nat), xs = [v] ∧ Sh H S v d ∧
  Good n d ∧ n ≤ 40 ∧ Q (.str d.shown) H

section
variable {X : Cx}
theorem call_reprG (hG : X.A.guards = some []) {k : Nat} (hr : Room k X.A) : CallR X (.builtin "repr") rRepr := by
  intro pins s σ H xs us Q I r h
  obtain ⟨v, d, S, n, rfl, hv, g, hn, q⟩ := h
  obtain ⟨u, rfl, ru⟩ := vals1 r
  have hsz : d.shown.length ≤ sizeLine := Nat.le_trans g.ln (by
    have e : 500 + 20 * 40 ≤ sizeLine := by decide
    omega)
  have hu := hr.units
  have hd := g.dp
  cases hv with
  | non =>
    cases ru
    exact PySem.P.repr_of_none ⟨.str _, H, I.tok _, ⟨s.toks, by simp only [PyData.shown]⟩, q⟩
  | bl b =>
    cases ru
    exact PySem.P.repr_of_bool ⟨.str _, H, I.tok _, ⟨s.toks, by simp only [PyData.shown]⟩, q⟩
  | int i =>
    obtain ⟨t, rfl⟩ := ru
    exact PySem.P.repr_of_int (by simpa [PyData.showable] using g.sh) ⟨.str _, H, I.tok _, ⟨s.toks, by simp only [PyData.shown]⟩, q⟩
  | str x =>
    obtain ⟨t, rfl⟩ := ru
    exact PySem.P.repr_of_str ⟨.str _, H, I.tok _, ⟨s.toks, by simp only [PyData.shown]⟩, q⟩ (by simpa only [PyData.shown] using hsz)
  | lst h1 h2 h3 h4 =>
    obtain ⟨as, hR, na⟩ := Sh.reads I (.lst h1 h2 h3 h4) ru
    cases ru
    exact repr_of_reads' hR g.sh (fun _ => na) hG (by omega) (fun _ _ e => e) (fun h' u tk hk => ⟨.str _, H, I.kept hk, ⟨u, rfl⟩, q⟩) hsz
  | tup h1 h2 h3 =>
    obtain ⟨as, hR, na⟩ := Sh.reads I (.tup h1 h2 h3) ru
    cases ru
    exact repr_of_reads' hR g.sh (fun _ => na) hG (by omega) (fun _ _ e => e) (fun h' u tk hk => ⟨.str _, H, I.kept hk, ⟨u, rfl⟩, q⟩) hsz
  | dic0 h1 h2 =>
    obtain ⟨as, hR, na⟩ := Sh.reads I (.dic0 h1 h2) ru
    cases ru
    exact repr_of_reads' hR g.sh (fun _ => na) hG (by omega) (fun _ _ e => e) (fun h' u tk hk => ⟨.str _, H, I.kept hk, ⟨u, rfl⟩, q⟩) hsz
  | dic1 h1 h2 h3 =>
    obtain ⟨as, hR, na⟩ := Sh.reads I (.dic1 h1 h2 h3) ru
    cases ru
    exact repr_of_reads' hR g.sh (fun _ => na) hG (by omega) (fun _ _ e => e) (fun h' u tk hk => ⟨.str _, H, I.kept hk, ⟨u, rfl⟩, q⟩) hsz

/-- a list display, its address not that of sys.modules -/
def tLstB (t : TA) : TE := fun σ H Q => t σ H fun xs H1 => xs.length ≤ sizeLine ∧
  ∀ p, H1 p = none → p ≠ sysModules → Q (.ref p) (upd H1 p (.lst xs))
theorem pe_lstB {es : List Expr} {t : TA} {pos : Pos} (h : PA X es t) : PE X (.List es pos) (tLstB t) := by
  constructor
  intro pins s σ H Q I hq
  refine wpAny_List_spliced (thn (h.run pos pins s σ H _ I hq) ?_)
  rintro us s1 ⟨xs, H1, I1, r, z, q⟩
  have new : H1 s1.heap.objs.size = none := I1.hok.fresh (Nat.le_refl _)
  refine ⟨r.length ▸ z, .ref s1.heap.objs.size, upd H1 s1.heap.objs.size (.lst xs),
    I1.laid (t' := s1.toks) (fun b u e => Heap.get?_push_of_some _ e) (Nat.le_refl _) ?_, rfl, q _ new (Nat.ne_of_gt I1.big)⟩
  exact ⟨z, us, 0, r, Heap.get?_push_size _ rfl⟩
end
end K1
namespace K1
open PySem PySem.Spec PyProof.Rows L2

def letters : Str := "abcdefghijklmnopqrstuvwxyz"
def shut : List Str := ["\x69mport", "template", "list", "document", "let", "new", "for", "in", "where", "give", "if", "then", "else"]
def inLet (c : Nat) : Bool := decide (c ∈ letters.cps.toList)
/-- whether a text is a name -/
def isNm (x : Str) : Bool := decide (1 ≤ x.length ∧ x.length ≤ 12) && x.cps.toList.all inLet && !inV (.str x) (shut.map V.str)
def nmV : V → Bool
  | .str x => isNm x
  | _ => false
/-- the size of a text is plain -/
def Plain : V → Prop
  | .str x => x.length ≤ sizeLine
  | _ => True

theorem scIs : FnScope ["value", "letter"] ["value"] (defScope sIs) :=
  ⟨rfl, rfl, rfl, by decide +kernel, rfl, by decide +kernel, by decide +kernel⟩
theorem scOwn : FnScope ["_law_word", "_law_shut", "_law_letter"] ["_law_word"] (defScope sOwn) :=
  ⟨rfl, rfl, rfl, by decide +kernel, rfl, by decide +kernel, by decide +kernel⟩

def spName : Sp := fun vs H Q _ => ∃ (v : V) (d : PyData) (S : Addr → Prop), vs = [v] ∧ Sh H S v d ∧ Plain v ∧
  ∀ H', Same H H' → Q (.bl (nmV v)) H'

/-- the kind of a datum -/
theorem Sh.ty {K : PySem.W.Frag} {H : Hp} {S : Addr → Prop} {v : V} {d : PyData} (h : Sh H S v d) :
    (∃ x, v = .str x) ∨ (nmV v = false ∧ ∃ T : String, TyX K H v (.type T) ∧ kitB T "str" = some false) := by
  cases h with
  | non => exact .inr ⟨rfl, _, .base .non, by decide +kernel⟩
  | bl b => exact .inr ⟨rfl, _, .base (.bl b), by decide +kernel⟩
  | int i => exact .inr ⟨rfl, _, .base (.int i), by decide +kernel⟩
  | str x => exact .inl ⟨x, rfl⟩
  | lst h _ _ _ => exact .inr ⟨rfl, _, .base (.lst h), by decide +kernel⟩
  | tup h _ _ => exact .inr ⟨rfl, _, .base (.tup h), by decide +kernel⟩
  | dic0 h _ => exact .inr ⟨rfl, _, .base (.dK h), by decide +kernel⟩
  | dic1 h _ _ => exact .inr ⟨rfl, _, .base (.dK h), by decide +kernel⟩

theorem isNm_len {x : Str} (h : ¬ (1 ≤ x.length ∧ x.length ≤ 12)) : isNm x = false := by
  unfold isNm
  rw [decide_eq_false h]
  rfl
theorem isNm_all {x : Str} (h : x.cps.toList.all inLet = false) : isNm x = false := by
  unfold isNm
  rw [h, Bool.and_false]
  rfl
theorem isNm_eq {x : Str} (h : 1 ≤ x.length ∧ x.length ≤ 12) (h2 : x.cps.toList.all inLet = true) :
    isNm x = !inV (.str x) (shut.map V.str) := by
  unfold isNm
  rw [decide_eq_true h, h2]
  rfl

theorem shut_flat : (shut.map V.str).all flatV = true := by decide +kernel

/-- the module's constants that is_name reads -/
structure Cons (K : PySem.W.Frag) (mg : Str → Option Value) : Prop where
  let_ : ∃ t, mg "LETTERS" = some (.str letters t)
  long : ∃ t, mg "LONGEST_NAME" = some (.int 12 t)
  words : ∃ p, mg "WORDS" = some (.ref p) ∧ ∀ H, SqT K H p (shut.map V.str)

section
variable {P : Program} {w : World} {K : PySem.W.Frag} {mg : Str → Option Value} {base : Heap}

theorem ok_is {f : Addr} {fd : FuncData} (F : Fun K "is_name" "is_name" sIs f fd) (Z : Bare mg) (C : Cons K mg) :
    FnOk P w K mg base CX0 1 f fd ["value"] spName := by
  obtain ⟨tl, hL⟩ := C.let_
  obtain ⟨tn, hN⟩ := C.long
  obtain ⟨pw, hW, sW⟩ := C.words
  refine F.ok scIs (fun vs H Q E h => ?_) (fun cdv A outer s H vs Q E hr h => ?_)
  · obtain ⟨v, d, S, rfl, _⟩ := h
    rfl
  · obtain ⟨v, d, S, rfl, hv, hp, q⟩ := h
    refine ⟨_, pss_cons (ps_if (PW.pt (pw_or (pt_not (pt_val (pe_callB call_isi (by rfl) Z.isin (by decide +kernel)
          (pa_cons (pv 0) (pa_cons (pe_bltn (v := .ty "str") (by rfl) Z.str (by decide +kernel) rfl) pa_nil)))))
        (pw_or1 (pt_not (pt_chain op_le op_le pe_int (pe_callB call_len_str (by rfl) Z.len PySem.boot_len (pa_cons (pv 0) pa_nil))
          (pe_glob (v := .int 12) (by rfl) hN ⟨tn, rfl⟩))))))
        (pss_one (ps_ret pe_bl)) pss_nil)
      (pss_one (ps_ret (pe_and (pe_callB (cr_all rfl) (by rfl) Z.all (by decide +kernel) (pa_cons
          (pe_lc (own := [("letter", 1)]) (g := gName 1) (tt := tYes) rfl scIs.nd (pi_str (pv 0))
            (blkOk_by (N := ["value", "letter"]) (sc := defScope sIs) (by decide +kernel))
            (fun _ _ _ _ _ => pg_name (i := 1) scIs.nd rfl (Or.inl rfl)) (fun _ _ _ _ _ => pts_nil)
            (fun _ _ _ _ _ => pe_cmpR op_in_sign (pv 1) (pe_glob (v := .str letters) (by rfl) hL ⟨tl, rfl⟩) (by with_unfolding_all rfl))) pa_nil))
        (pe_one (pe_cmpR op_notIn_seq (pv 0) (pe_glob (v := .ref pw) (by rfl) hW rfl) (by with_unfolding_all rfl)))))), ?_⟩
    rcases hv.ty (K := K) with ⟨x, rfl⟩ | ⟨e, T, ty, kt⟩
    · refine ⟨.str x, rfl, .str x, .ty "str", .type "str", .type "str", true, rfl, .ty "str", .base (.str x), kit_ty (by decide +kernel), _, rfl, ?_⟩
      have hz : x.length ≤ sizeLine := hp
      refine ⟨.str x, rfl, x, rfl, hz, 1, _, rfl, rfl, _, rfl, ?_⟩
      refine ite2 (fun e1 => ?_) (fun e1 => ?_)
      · have h1 : 1 ≤ (x.length : Int) := of_decide_eq_true e1
        refine ⟨_, _, rfl, rfl, _, rfl, ?_⟩
        refine ite2 (fun e2 => ?_) (fun e2 => ?_)
        · have h2 : ¬ (x.length : Int) ≤ 12 := by
            intro z
            rw [decide_eq_true z] at e2
            cases e2
          have n : isNm x = false := isNm_len (by omega)
          have q' := q H (Same.refl H)
          rw [show nmV (.str x) = isNm x from rfl, n] at q'
          exact q'
        · have h2 : (x.length : Int) ≤ 12 := by
            by_cases z : (x.length : Int) ≤ 12
            · exact z
            · exact absurd (by rw [decide_eq_false z]; rfl) e2
          have hs : x.cps.toList.length = x.length := by simp [Str.length]
          refine ⟨.str x, rfl, x, rfl, fun D hD => lc_it (walk_str (z := x))
            (fun i H' => H' = upd H D (.lst ((x.cps.toList.take i).map fun c => V.bl (inLet c)))) rfl (fun _ _ _ _ => True.intro) ?_ ?_⟩
          · rintro i v H1 H2 hi rfl ⟨rfl, c, hc, rfl⟩
            refine ⟨rfl, ?_⟩
            have hc' : x.cps.toList[i]? = some c := by simpa using hc
            refine ⟨.str ⟨#[c]⟩, rfl, c, letters, rfl, rfl, _, upd_same, ?_, ?_⟩
            · rw [List.length_map, List.length_take, hs]
              exact Nat.lt_of_le_of_lt (Nat.min_le_right _ _) (small1000 (by omega))
            · rw [upd_upd, List.take_add_one, hc', List.map_append]
              rfl
          · rintro H1 rfl
            have et : x.cps.toList.take x.cps.size = x.cps.toList := List.take_of_length_le (by simp)
            refine ⟨D, x.cps.toList.map inLet, rfl, ?_, ?_⟩
            · rw [et]
              refine SqL.of ?_
              rw [upd_same, List.map_map]
              rfl
            · have sm : Same H (upd H D (.lst ((x.cps.toList.take x.cps.size).map fun c => V.bl (inLet c)))) := same_upd hD
              have ea : (x.cps.toList.map inLet).all id = x.cps.toList.all inLet := by
                rw [List.all_map]
                rfl
              refine ⟨_, rfl, ite2 (fun e3 => ?_) (fun e3 => ?_)⟩
              · refine ⟨.str x, rfl, pw, _, rfl, .inr (sW _), rfl, shut_flat, ?_⟩
                have q' := q _ sm
                rw [show nmV (.str x) = isNm x from rfl, isNm_eq (by omega) (ea ▸ e3)] at q'
                exact q'
              · have q' := q _ sm
                rw [show nmV (.str x) = isNm x from rfl, isNm_all (by rw [← ea]; exact Bool.eq_false_iff.mpr e3)] at q'
                exact q'
      · have h1 : ¬ 1 ≤ (x.length : Int) := fun z => e1 (decide_eq_true z)
        refine ⟨_, rfl, ?_⟩
        have n : isNm x = false := isNm_len (by omega)
        have q' := q H (Same.refl H)
        rw [show nmV (.str x) = isNm x from rfl, n] at q'
        exact q'
    · refine ⟨v, rfl, v, .ty "str", _, .type "str", false, rfl, .ty "str", ty, kit_ty kt, _, rfl, ?_⟩
      have q' := q H (Same.refl H)
      rw [e] at q'
      exact q'
end
end K1
namespace K1
open PySem PySem.Spec PyProof.Rows L2

theorem split_shut : Txt.split "\x69mport template list document let new for in where give if then else" " " = shut := by
  decide +kernel

section
variable {P : Program} {w : World} {K : PySem.W.Frag} {mg : Str → Option Value} {base : Heap}

theorem ok_own {f : Addr} {fd : FuncData} (F : Fun K "_law_is_name" "_law_is_name" sOwn f fd) (Z : Bare mg) :
    FnOk P w K mg base CX0 1 f fd ["_law_word"] spName := by
  refine F.ok scOwn (fun vs H Q E h => ?_) (fun cdv A outer s H vs Q E hr h => ?_)
  · obtain ⟨v, d, S, rfl, _⟩ := h
    rfl
  · obtain ⟨v, d, S, rfl, hv, hp, q⟩ := h
    refine ⟨_, pss_cons (ps_set (i := 1) scOwn.nd rfl (.inl rfl) (pe_split pe_str pe_str))
      (pss_cons (ps_if (PW.pt (pw_or (pt_not (pt_val (pe_callB call_isi (by rfl) Z.isin (by decide +kernel)
          (pa_cons (pv 0) (pa_cons (pe_bltn (v := .ty "str") (by rfl) Z.str (by decide +kernel) rfl) pa_nil)))))
        (pw_or (pt_not (pt_chain op_le op_le pe_int (pe_callB call_len_str (by rfl) Z.len PySem.boot_len (pa_cons (pv 0) pa_nil))
          pe_int)) (pw_or1 (pt_cmpR op_in_seq (pv 0) (pv 1) (by with_unfolding_all rfl))))))
        (pss_one (ps_ret pe_bl)) pss_nil)
      (pss_one (ps_ret (pe_callB (cr_all rfl) (by rfl) Z.all (by decide +kernel) (pa_cons
          (pe_lc (own := [("_law_letter", 2)]) (g := gName 2) (tt := tYes) rfl scOwn.nd (pi_str (pv 0))
            (blkOk_by (N := ["_law_word", "_law_shut", "_law_letter"]) (sc := defScope sOwn) (by decide +kernel))
            (fun _ _ _ _ _ => pg_name (i := 2) scOwn.nd rfl (Or.inl rfl)) (fun _ _ _ _ _ => pts_nil)
            (fun _ _ _ _ _ => pe_cmpR op_in_sign (pv 2) pe_str (by with_unfolding_all rfl))) pa_nil))))), ?_⟩
    refine ⟨⟨_, rfl⟩, _, _, rfl, rfl, rfl, (by decide +kernel), ?_⟩
    rw [split_shut]
    intro l hl
    have s1 : Same H (upd H l (.lst (shut.map V.str))) := same_upd hl
    have hv' : Sh (upd H l (.lst (shut.map V.str))) (fun _ => False) v d := hv.mono (fun _ z => z.elim) (fun a o _ e => s1 a o e)
    rcases hv'.ty (K := K) with ⟨x, rfl⟩ | ⟨e, T, ty, kt⟩
    · refine ⟨.str x, rfl, .str x, .ty "str", .type "str", .type "str", true, rfl, .ty "str", .base (.str x), kit_ty (by decide +kernel), _, rfl, ?_⟩
      have hz : x.length ≤ sizeLine := hp
      refine ⟨.str x, rfl, x, rfl, hz, 1, _, rfl, rfl, _, rfl, ?_⟩
      refine ite2 (fun e1 => ?_) (fun e1 => ?_)
      · have h1 : 1 ≤ (x.length : Int) := of_decide_eq_true e1
        refine ⟨_, _, rfl, rfl, _, rfl, ?_⟩
        refine ite2 (fun e2 => ?_) (fun e2 => ?_)
        · have h2 : ¬ (x.length : Int) ≤ 12 := by
            intro z
            rw [decide_eq_true z] at e2
            cases e2
          have n : isNm x = false := isNm_len (by omega)
          have q' := q _ s1
          rw [show nmV (.str x) = isNm x from rfl, n] at q'
          exact q'
        · have h2 : (x.length : Int) ≤ 12 := by
            by_cases z : (x.length : Int) ≤ 12
            · exact z
            · exact absurd (by rw [decide_eq_false z]; rfl) e2
          have hs : x.cps.toList.length = x.length := by simp [Str.length]
          refine ⟨.str x, rfl, .ref l, rfl, l, _, rfl, .inl (SqL.of upd_same), rfl, shut_flat, _, rfl, ?_⟩
          refine ite2 (fun e4 => ?_) (fun e4 => ?_)
          · have e4' : inV (.str x) (shut.map V.str) = true := e4
            have n : isNm x = false := by
              unfold isNm
              rw [e4', Bool.not_true, Bool.and_false]
            have q' := q _ s1
            rw [show nmV (.str x) = isNm x from rfl, n] at q'
            exact q'
          · have e4' : inV (.str x) (shut.map V.str) = false := Bool.eq_false_iff.mpr e4
            generalize hH1 : upd H l (.lst (shut.map V.str)) = G at s1 ⊢
            refine ⟨.str x, rfl, x, rfl, fun D hD => lc_it (walk_str (z := x))
              (fun i H' => H' = upd G D (.lst ((x.cps.toList.take i).map fun c => V.bl (inLet c)))) rfl (fun _ _ _ _ => True.intro) ?_ ?_⟩
            · rintro i v H1 H2 hi rfl ⟨rfl, c, hc, rfl⟩
              refine ⟨rfl, ?_⟩
              have hc' : x.cps.toList[i]? = some c := by simpa using hc
              refine ⟨.str ⟨#[c]⟩, rfl, c, letters, rfl, rfl, _, upd_same, ?_, ?_⟩
              · rw [List.length_map, List.length_take, hs]
                exact Nat.lt_of_le_of_lt (Nat.min_le_right _ _) (small1000 (by omega))
              · rw [upd_upd, List.take_add_one, hc', List.map_append]
                rfl
            · rintro H1 rfl
              have et : x.cps.toList.take x.cps.size = x.cps.toList := List.take_of_length_le (by simp)
              refine ⟨D, x.cps.toList.map inLet, rfl, ?_, ?_⟩
              · rw [et]
                refine SqL.of ?_
                rw [upd_same, List.map_map]
                rfl
              · have sm : Same H (upd G D (.lst ((x.cps.toList.take x.cps.size).map fun c => V.bl (inLet c)))) :=
                  s1.trans (same_upd hD)
                have ea : (x.cps.toList.map inLet).all id = isNm x := by
                  unfold isNm
                  rw [e4', decide_eq_true (by omega), List.all_map, Bool.not_false, Bool.and_true, Bool.true_and]
                  rfl
                have q' := q _ sm
                rw [show nmV (.str x) = isNm x from rfl, ← ea] at q'
                exact q'
      · have h1 : ¬ 1 ≤ (x.length : Int) := fun z => e1 (decide_eq_true z)
        refine ⟨_, rfl, ?_⟩
        have n : isNm x = false := isNm_len (by omega)
        have q' := q _ s1
        rw [show nmV (.str x) = isNm x from rfl, n] at q'
        exact q'
    · refine ⟨v, rfl, v, .ty "str", _, .type "str", false, rfl, .ty "str", ty, kit_ty kt, _, rfl, ?_⟩
      have q' := q _ s1
      rw [e] at q'
      exact q'
end
end K1
namespace K1
open PySem PySem.Spec PyProof.Rows L2

theorem scAny : FnScope ["_law_box_here", "_law_some", "_law_found", "_law_turn"] ["_law_box_here"] (defScope sAny) :=
  ⟨rfl, rfl, rfl, by decide +kernel, rfl, by decide +kernel, by decide +kernel⟩

/-- a value that the box has drawn: new objects alone (none that stood in H) -/
def Drawn (H G : Hp) (n : Nat) (v : V) : Prop := ∃ d, Sh G (fun a => H a ≠ none) v d ∧ Good n d ∧ Plain v

theorem Drawn.le {H G : Hp} {n m : Nat} {v : V} (x : Drawn H G n v) (h : n ≤ m) : Drawn H G m v := by
  obtain ⟨d, a, b, c⟩ := x
  exact ⟨d, a, b.le h, c⟩
theorem Drawn.on {H G G' : Hp} {n : Nat} {v : V} (x : Drawn H G n v) (hk : ∀ a o, H a = none → G a = some o → G' a = some o) : Drawn H G' n v := by
  obtain ⟨d, a, b, c⟩ := x
  exact ⟨d, a.mono (fun _ z => z) (fun q o nq e => hk q o (by
    cases z : H q with
    | none => rfl
    | some u => exact absurd (by rw [z]; simp) nq) e), b, c⟩
theorem Drawn.same {H G G' : Hp} {n : Nat} {v : V} (x : Drawn H G n v) (s : Same G G') : Drawn H G' n v := x.on fun a o _ e => s a o e
theorem Drawn.kept {H G G' : Hp} {n : Nat} {v : V} {b : Addr} (x : Drawn H G n v) (hb : H b ≠ none) (k : Kept b G G') : Drawn H G' n v :=
  x.on fun a o z e => k a o e fun q => hb (q ▸ z)

theorem dr_non {H G : Hp} : Drawn H G 0 .non := ⟨_, .non, ⟨by decide +kernel, by decide +kernel, by decide +kernel⟩, trivial⟩
theorem dr_bl {H G : Hp} (b : Bool) : Drawn H G 0 (.bl b) := by
  cases b <;> exact ⟨_, .bl _, ⟨by decide +kernel, by decide +kernel, by decide +kernel⟩, trivial⟩
theorem dr_int {H G : Hp} {i : Int} (h : (PyData.int i).showable = true) (h2 : (PyData.int i).shown.length ≤ 500) : Drawn H G 0 (.int i) :=
  ⟨_, .int _, ⟨h, by simp [PyData.depth], h2⟩, trivial⟩
theorem dr_str {H G : Hp} {x : Str} (h : x.length ≤ 40) (h2 : ∀ c ∈ x.cps.toList, c < 16 ^ 8) : Drawn H G 0 (.str x) :=
  ⟨_, .str _, Good.str h h2, Nat.le_trans h (by decide)⟩
theorem dr_tup0 {H G : Hp} {a : Addr} (n : H a = none) (e : G a = some (.tup [])) : Drawn H G 1 (.ref a) :=
  ⟨_, .tup e (fun z => z n) .nil, ⟨by decide +kernel, by decide +kernel, by decide +kernel⟩, trivial⟩
theorem dr_lst0 {H G : Hp} {a : Addr} (n : H a = none) (m : a ≠ sysModules) (e : G a = some (.lst [])) : Drawn H G 1 (.ref a) :=
  ⟨_, .lst e (fun z => z n) m .nil, ⟨by decide +kernel, by decide +kernel, by decide +kernel⟩, trivial⟩
theorem dr_dic0 {H G : Hp} {a : Addr} (n : H a = none) (e : G a = some (.dK [])) : Drawn H G 1 (.ref a) :=
  ⟨_, .dic0 e (fun z => z n), ⟨by decide +kernel, by decide +kernel, by decide +kernel⟩, trivial⟩
theorem Drawn.tup1 {H G : Hp} {a : Addr} {k : Nat} {v : V} (x : Drawn H G k v) (n : H a = none) (e : G a = some (.tup [v])) : Drawn H G (k + 1) (.ref a) := by
  obtain ⟨d, s, g, _⟩ := x
  exact ⟨_, .tup e (fun z => z n) (.cons s .nil), g.tup1, trivial⟩
theorem Drawn.lst1 {H G : Hp} {a : Addr} {k : Nat} {v : V} (x : Drawn H G k v) (n : H a = none) (m : a ≠ sysModules) (e : G a = some (.lst [v])) : Drawn H G (k + 1) (.ref a) := by
  obtain ⟨d, s, g, _⟩ := x
  exact ⟨_, .lst e (fun z => z n) m (.cons s .nil), g.list1, trivial⟩
theorem Drawn.tup2 {H G : Hp} {a : Addr} {k : Nat} {v : V} (x : Drawn H G k v) (n : H a = none) (e : G a = some (.tup [v, .int 1])) : Drawn H G (k + 1) (.ref a) := by
  obtain ⟨d, s, g, _⟩ := x
  exact ⟨_, .tup e (fun z => z n) (.cons s (.cons (.int 1) .nil)), g.tup2, trivial⟩
theorem Drawn.dic1 {H G : Hp} {a : Addr} {k : Nat} {v : V} {y : Str} (hy : (reprText y).length ≤ 10) (x : Drawn H G k v) (n : H a = none) (e : G a = some (.dK [(Sum.inr y, v)])) : Drawn H G (k + 1) (.ref a) := by
  obtain ⟨d, s, g, _⟩ := x
  exact ⟨_, .dic1 e (fun z => z n) s, g.dict1 hy, trivial⟩
/-- ("a", "") -/
theorem dr_two {H G : Hp} {a : Addr} (n : H a = none) (e : G a = some (.tup [.str "a", .str ""])) : Drawn H G 1 (.ref a) :=
  ⟨_, .tup e (fun z => z n) (.cons (.str _) (.cons (.str _) .nil)), ⟨by decide +kernel, by decide +kernel, by decide +kernel⟩, trivial⟩

def spAny : Sp := fun vs H Q _ => ∃ (b : Addr) (c : Int), vs = [.ref b] ∧ Box c H b ∧ c ≤ 90000 ∧
  ∀ H' v, Kept b H H' → Box (c + 8) H' b → Drawn H H' 12 v → Q v H'

theorem Box.at {c : Int} {H H' : Hp} {b : Addr} (x : Box c H b) (s : Same H H') : Box c H' b := by
  obtain ⟨o, m, k, e, r⟩ := x
  exact ⟨o, m, k, s _ _ e, r⟩
theorem Box.some {c : Int} {H : Hp} {b : Addr} (x : Box c H b) : H b ≠ none := by
  obtain ⟨o, m, k, e, _⟩ := x
  rw [e]
  simp
theorem Box.le {c c' : Int} {H : Hp} {b : Addr} (x : Box c H b) (h : c ≤ c') : Box c' H b := by
  obtain ⟨o, m, k, e, h1, h2, h3, h4⟩ := x
  exact ⟨o, m, k, e, h1, h2, h3, by omega⟩
theorem keptS {b : Addr} {H H' : Hp} (s : Same H H') : Kept b H H' := fun a o e _ => s a o e

/-- the values that are drawn from -/
def some17 (t1 l1 d1 t2 l2 : Addr) : List V := [.non, .bl true, .bl false, .int 0, .int 1, .int (-1), .int 999999999, .str "", .str "a", .str "main",
  .str "A", .str "\x69mport", .ref t1, .ref l1, .ref d1, .ref t2, .ref l2]
def some7 (t3 t5 d2 : Addr) : List V := [.ref t3, .str "abcdefghijkl", .str "abcdefghijklm", .ref t5, .ref d2, .str "a b", .str "a1"]
def times : List V := [.int 0, .int 0, .int 0, .int 1, .int 2, .int 6]
theorem times_mem {v : V} (h : v ∈ times) : ∃ j : Int, v = .int j ∧ 0 ≤ j ∧ j ≤ 6 := by
  simp only [times, List.mem_cons, List.not_mem_nil, or_false] at h
  rcases h with h | h | h | h | h | h <;> exact ⟨_, h, by decide, by decide⟩
theorem grow {H : Hp} {p : Addr} {o : HO} (n : H p = none) : Same H (upd H p o) ∧ (upd H p o) p = some o ∧
    ∀ a, (upd H p o) a = none → H a = none := ⟨same_upd n, upd_same, fun a z => (same_upd n).free z⟩
theorem len_le {n : Nat} {k : Nat} (h : n ≤ 100) (e : k = n) : k ≤ sizeLine := by
  have z : 100 ≤ sizeLine := by decide
  omega

section
variable {P : Program} {w : World} {K : PySem.W.Frag} {mg : Str → Option Value} {base : Heap}

theorem ok_any {f fO : Addr} {fd fdO : FuncData} (F : Fun K "_law_any" "_law_any" sAny f fd)
    (FO : Fun K "_law_of" "_law_of" sOf fO fdO) (bO : Binds K fdO ["_law_box_here", "_law_some"] [])
    (gO : mg "_law_of" = some (.ref fO)) (Z : Bare mg)
    (GO : FnOk P w K mg base CX0 2 fO fdO ["_law_box_here", "_law_some"] spOf) :
    FnOk P w K mg base CX0 3 f fd ["_law_box_here"] spAny := by
  refine F.ok scAny (fun vs H Q E h => ?_) (fun cdv A outer s H vs Q E hr h => ?_)
  · obtain ⟨b, c, rfl, _⟩ := h
    rfl
  · obtain ⟨b, c, rfl, hb, hc, q⟩ := h
    refine ⟨_, pss_cons (ps_set (i := 1) scAny.nd rfl (.inl rfl) (pe_lst (pa_cons pe_non (pa_cons pe_bl (pa_cons pe_bl
        (pa_cons pe_int (pa_cons pe_int (pa_cons (pe_un un_neg pe_int) (pa_cons pe_int (pa_cons pe_str (pa_cons pe_str (pa_cons pe_str
        (pa_cons pe_str (pa_cons pe_str (pa_cons (pe_tup pa_nil) (pa_cons (pe_lstB pa_nil) (pa_cons pe_dnewK
        (pa_cons (pe_tup (pa_cons pe_str pa_nil)) (pa_cons (pe_lstB (pa_cons pe_str pa_nil)) pa_nil)))))))))))))))))))
      (pss_cons (ps_set (i := 2) scAny.nd rfl (.inl rfl) (pe_call GO hr (by rfl) gO FO.kp bO .nil pass0 (pa_cons (pv 0)
        (pa_cons (pe_op op_cat (pv 1) (pe_lst (pa_cons (pe_tup (pa_cons pe_str (pa_cons pe_str pa_nil))) (pa_cons pe_str (pa_cons pe_str
          (pa_cons (pe_tup (pa_cons (pe_tup (pa_cons pe_str (pa_cons pe_str pa_nil))) pa_nil))
          (pa_cons (pe_disp (pps_cons pe_str pe_int pps_nil) rfl rfl (by simp) (by decide)) (pa_cons pe_str (pa_cons pe_str pa_nil))))))))) pa_nil))))
      (pss_cons (ps_for PassesOwn.never rfl (pi_range1 (by rfl) Z.range (pa_cons (pe_call GO hr (by rfl) gO FO.kp bO .nil pass0
          (pa_cons (pv 0) (pa_cons (pe_lst (pa_cons pe_int (pa_cons pe_int (pa_cons pe_int (pa_cons pe_int (pa_cons pe_int (pa_cons pe_int pa_nil))))))) pa_nil))) pa_nil))
          (pg_name (i := 3) scAny.nd rfl (Or.inl rfl))
        (pss_one (ps_set (i := 2) scAny.nd rfl (.inl rfl) (pe_call GO hr (by rfl) gO FO.kp bO .nil pass0 (pa_cons (pv 0)
          (pa_cons (pe_lst (pa_cons (pe_tup (pa_cons (pv 2) pa_nil)) (pa_cons (pe_lstB (pa_cons (pv 2) pa_nil))
            (pa_cons (pe_disp (pps_cons pe_str (pv 2) pps_nil) rfl rfl (by simp) (by decide)) (pa_cons (pe_tup (pa_cons (pv 2) (pa_cons pe_int pa_nil))) pa_nil))))) pa_nil))))))
      (pss_one (ps_ret (pv 2))))), ?_⟩
    have hbn := hb.some
    -- the first list
    refine ⟨1, rfl, Nat.zero_le _, fun t1 n1 => ?_⟩
    obtain ⟨s1, f1, u1⟩ := grow (o := .tup []) n1
    generalize upd H t1 (.tup []) = H1 at s1 f1 u1 ⊢
    refine ⟨Nat.zero_le _, fun l1 n2 m2 => ?_⟩
    obtain ⟨s2, f2, u2⟩ := grow (o := .lst []) n2
    generalize upd H1 l1 (.lst []) = H2 at s2 f2 u2 ⊢
    intro d1 n3
    obtain ⟨s3, f3, u3⟩ := grow (o := .dK []) n3
    generalize upd H2 d1 (.dK []) = H3 at s3 f3 u3 ⊢
    refine ⟨len_le (n := 1) (by decide) rfl, fun t2 n4 => ?_⟩
    obtain ⟨s4, f4, u4⟩ := grow (o := .tup [.str "a"]) n4
    generalize upd H3 t2 (.tup [.str "a"]) = H4 at s4 f4 u4 ⊢
    refine ⟨len_le (n := 1) (by decide) rfl, fun l2 n5 m5 => ?_⟩
    obtain ⟨s5, f5, u5⟩ := grow (o := .lst [.str "a"]) n5
    generalize upd H4 l2 (.lst [.str "a"]) = H5 at s5 f5 u5 ⊢
    refine ⟨len_le (n := 17) (by decide) rfl, fun L n6 => ?_⟩
    obtain ⟨s6, f6, u6⟩ := grow (o := .lst (some17 t1 l1 d1 t2 l2)) n6
    show gName 1 (.ref L) _ (upd H5 L (.lst (some17 t1 l1 d1 t2 l2))) _
    generalize upd H5 L (.lst (some17 t1 l1 d1 t2 l2)) = H6 at s6 f6 u6 ⊢
    -- the second list, both together
    refine ⟨.ref b, rfl, .ref L, rfl, len_le (n := 2) (by decide) rfl, fun t3 n7 => ?_⟩
    obtain ⟨s7, f7, u7⟩ := grow (o := .tup [.str "a", .str ""]) n7
    generalize upd H6 t3 (.tup [.str "a", .str ""]) = H7 at s7 f7 u7 ⊢
    refine ⟨len_le (n := 2) (by decide) rfl, fun t4 n8 => ?_⟩
    obtain ⟨s8, f8, u8⟩ := grow (o := .tup [.str "a", .str ""]) n8
    generalize upd H7 t4 (.tup [.str "a", .str ""]) = H8 at s8 f8 u8 ⊢
    refine ⟨len_le (n := 1) (by decide) rfl, fun t5 n9 => ?_⟩
    obtain ⟨s9, f9, u9⟩ := grow (o := .tup [.ref t4]) n9
    generalize upd H8 t5 (.tup [.ref t4]) = H9 at s9 f9 u9 ⊢
    intro d2 n10
    refine ⟨upd_same, [(Sum.inr "a", .int 1)], rfl, by decide, ?_⟩
    rw [upd_upd]
    obtain ⟨s10, f10, u10⟩ := grow (o := .dK [(Sum.inr "a", .int 1)]) n10
    show tCons _ _ _ (upd H9 d2 (.dK [(Sum.inr "a", .int 1)])) _
    generalize upd H9 d2 (.dK [(Sum.inr "a", .int 1)]) = H10 at s10 f10 u10 ⊢
    refine ⟨len_le (n := 7) (by decide) rfl, fun M n11 => ?_⟩
    obtain ⟨s11, f11, u11⟩ := grow (o := .lst (some7 t3 t5 d2)) n11
    show rCat _ (.ref M) (upd H10 M (.lst (some7 t3 t5 d2))) _
    generalize upd H10 M (.lst (some7 t3 t5 d2)) = H11 at s11 f11 u11 ⊢
    have s6_11 : Same H6 H11 := s7.trans (s8.trans (s9.trans (s10.trans s11)))
    refine ⟨L, M, some17 t1 l1 d1 t2 l2, some7 t3 t5 d2, rfl, rfl, s6_11 _ _ f6, f11, len_le (n := 24) (by decide) rfl, fun N n12 => ?_⟩
    obtain ⟨s12, f12, u12⟩ := grow (o := .lst (some17 t1 l1 d1 t2 l2 ++ some7 t3 t5 d2)) n12
    generalize upd H11 N (.lst (some17 t1 l1 d1 t2 l2 ++ some7 t3 t5 d2)) = G at s12 f12 u12 ⊢
    have s6_G : Same H6 G := s6_11.trans s12
    have s5_G : Same H5 G := s6.trans s6_G
    have s4_G : Same H4 G := s5.trans s5_G
    have s3_G : Same H3 G := s4.trans s4_G
    have s2_G : Same H2 G := s3.trans s3_G
    have s1_G : Same H1 G := s2.trans s2_G
    have sG : Same H G := s1.trans s1_G
    have z2 : H l1 = none := u1 _ n2
    have z3 : H d1 = none := u1 _ (u2 _ n3)
    have z4 : H t2 = none := u1 _ (u2 _ (u3 _ n4))
    have z5 : H l2 = none := u1 _ (u2 _ (u3 _ (u4 _ n5)))
    have z6 : ∀ a, H6 a = none → H a = none := fun a z => u1 _ (u2 _ (u3 _ (u4 _ (u5 _ (u6 _ z)))))
    have z7 : H t3 = none := z6 _ n7
    have z8 : H t4 = none := z6 _ (u7 _ n8)
    have z9 : H t5 = none := z6 _ (u7 _ (u8 _ n9))
    have z10 : H d2 = none := z6 _ (u7 _ (u8 _ (u9 _ n10)))
    have nNb : N ≠ b := fun e => by
      rw [e] at n12
      exact hbn (z6 _ (u7 _ (u8 _ (u9 _ (u10 _ (u11 _ n12))))))
    have all : ∀ v ∈ some17 t1 l1 d1 t2 l2 ++ some7 t3 t5 d2, Drawn H G 5 v := by
      intro v hv
      simp only [some17, some7, List.cons_append, List.nil_append, List.mem_cons, List.not_mem_nil, or_false] at hv
      rcases hv with h | h | h | h | h | h | h | h | h | h | h | h | h | h | h | h | h | h | h | h | h | h | h | h <;> subst h
      · exact dr_non.le (by decide)
      · exact (dr_bl _).le (by decide)
      · exact (dr_bl _).le (by decide)
      · exact (dr_int (by decide +kernel) (by decide +kernel)).le (by decide)
      · exact (dr_int (by decide +kernel) (by decide +kernel)).le (by decide)
      · exact (dr_int (by decide +kernel) (by decide +kernel)).le (by decide)
      · exact (dr_int (by decide +kernel) (by decide +kernel)).le (by decide)
      · exact (dr_str (by decide +kernel) (by decide +kernel)).le (by decide)
      · exact (dr_str (by decide +kernel) (by decide +kernel)).le (by decide)
      · exact (dr_str (by decide +kernel) (by decide +kernel)).le (by decide)
      · exact (dr_str (by decide +kernel) (by decide +kernel)).le (by decide)
      · exact (dr_str (by decide +kernel) (by decide +kernel)).le (by decide)
      · exact (dr_tup0 n1 (s1_G _ _ f1)).le (by decide)
      · exact (dr_lst0 z2 m2 (s2_G _ _ f2)).le (by decide)
      · exact (dr_dic0 z3 (s3_G _ _ f3)).le (by decide)
      · exact (Drawn.tup1 (dr_str (by decide +kernel) (by decide +kernel)) z4 (s4_G _ _ f4)).le (by decide)
      · exact (Drawn.lst1 (dr_str (by decide +kernel) (by decide +kernel)) z5 m5 (s5_G _ _ f5)).le (by decide)
      · exact (dr_two z7 ((s8.trans (s9.trans (s10.trans (s11.trans s12)))) _ _ f7)).le (by decide)
      · exact (dr_str (by decide +kernel) (by decide +kernel)).le (by decide)
      · exact (dr_str (by decide +kernel) (by decide +kernel)).le (by decide)
      · exact (Drawn.tup1 (dr_two z8 ((s9.trans (s10.trans (s11.trans s12))) _ _ f8)) z9 ((s10.trans (s11.trans s12)) _ _ f9)).le (by decide)
      · exact (Drawn.dic1 (by decide +kernel) (dr_int (by decide +kernel) (by decide +kernel)) z10 ((s11.trans s12) _ _ f10)).le (by decide)
      · exact (dr_str (by decide +kernel) (by decide +kernel)).le (by decide)
      · exact (dr_str (by decide +kernel) (by decide +kernel)).le (by decide)
    refine ⟨b, N, _, c, rfl, hb.at sG, f12, nNb, (by show 1 ≤ 24; decide), (by show 24 ≤ 1000; decide), by omega, fun J v0 kp0 hb0 hm0 => ?_⟩
    have k0 : Kept b H J := (keptS sG).trans kp0
    have v0d : Drawn H J 5 v0 := (all v0 hm0).kept hbn kp0
    clear all
    -- how often
    refine ⟨.ref b, rfl, len_le (n := 6) (by decide) rfl, fun R nR => ?_⟩
    obtain ⟨sR, fR, uR⟩ := grow (o := .lst times) nR
    show spOf [.ref b, .ref R] (upd J R (.lst times)) _ E0
    generalize upd J R (.lst times) = J1 at sR fR uR ⊢
    have nRb : R ≠ b := fun e => by
      rw [e] at nR
      exact hb0.some nR
    refine ⟨b, R, times, c + 1, rfl, hb0.at sR, fR, nRb, by decide, by decide, by omega, fun J2 r kp1 hb1 hm1 => ?_⟩
    obtain ⟨j, rfl, j0, j6⟩ := times_mem hm1
    have k2 : Kept b H J2 := (k0.trans (keptS sR)).trans kp1
    have v0d2 : Drawn H J2 5 v0 := (v0d.same sR).kept hbn kp1
    refine ⟨j, rfl, by omega, by omega, for_range (lo := 0) (n := j.toNat)
      (fun i σ G => ∃ (v : V) (y : Option V), σ = [some (.ref b), some (.ref L), some v, y] ∧ Kept b H G ∧ Box (c + 2 + i) G b ∧
        Drawn H G (5 + i) v) ⟨v0, none, rfl, k2, hb1.le (by omega), v0d2⟩ ?_ ?_⟩
    · rintro i σ G hi ⟨v, y, rfl, kG, bG, vG⟩
      have bGn := bG.some
      -- the four ways to wrap it
      have hG : ∀ a, G a = none → H a = none := fun a z => by
        cases e : H a with
        | none => rfl
        | some o =>
          by_cases ab : a = b
          · subst ab
            exact absurd z bGn
          · rw [kG _ _ e ab] at z
            cases z
      refine ⟨.ref b, rfl, v, rfl, len_le (n := 1) (by decide) rfl, fun p1 x1 => ?_⟩
      obtain ⟨r1, g1, w1⟩ := grow (o := .tup [v]) x1
      generalize upd G p1 (.tup [v]) = G1 at r1 g1 w1 ⊢
      refine ⟨v, rfl, len_le (n := 1) (by decide) rfl, fun p2 x2 m2 => ?_⟩
      obtain ⟨r2, g2, w2⟩ := grow (o := .lst [v]) x2
      generalize upd G1 p2 (.lst [v]) = G2 at r2 g2 w2 ⊢
      intro p3 x3
      refine ⟨v, rfl, upd_same, [(Sum.inr "a", v)], rfl, (by show 1 ≤ 15; decide), ?_⟩
      rw [upd_upd]
      obtain ⟨r3, g3, w3⟩ := grow (o := .dK [(Sum.inr "a", v)]) x3
      show tCons _ _ _ (upd G2 p3 (.dK [(Sum.inr "a", v)])) _
      generalize upd G2 p3 (.dK [(Sum.inr "a", v)]) = G3 at r3 g3 w3 ⊢
      refine ⟨v, rfl, len_le (n := 2) (by decide) rfl, fun p4 x4 => ?_⟩
      obtain ⟨r4, g4, w4⟩ := grow (o := .tup [v, .int 1]) x4
      generalize upd G3 p4 (.tup [v, .int 1]) = G4 at r4 g4 w4 ⊢
      refine ⟨len_le (n := 4) (by decide) rfl, fun R x5 => ?_⟩
      obtain ⟨r5, g5, w5⟩ := grow (o := .lst [.ref p1, .ref p2, .ref p3, .ref p4]) x5
      show spOf [.ref b, .ref R] (upd G4 R (.lst [.ref p1, .ref p2, .ref p3, .ref p4])) _ E0
      generalize upd G4 R (.lst [.ref p1, .ref p2, .ref p3, .ref p4]) = G5 at r5 g5 w5 ⊢
      have r15 : Same G1 G5 := r2.trans (r3.trans (r4.trans r5))
      have rG5 : Same G G5 := r1.trans r15
      have v5 : Drawn H G5 (5 + i) v := vG.same rG5
      have nRb' : R ≠ b := fun e => by
        rw [e] at x5
        exact bGn (w1 _ (w2 _ (w3 _ (w4 _ x5))))
      refine ⟨b, R, _, c + 2 + i, rfl, bG.at rG5, g5, nRb', (by show 1 ≤ 4; decide), (by show 4 ≤ 1000; decide), by omega, fun G' v' kp' hb' hm' => ?_⟩
      refine ⟨v', _, rfl, (kG.trans (keptS rG5)).trans kp', hb'.le (by omega), ?_⟩
      have all : ∀ u ∈ ([.ref p1, .ref p2, .ref p3, .ref p4] : List V), Drawn H G5 (5 + i + 1) u := by
        intro u hu
        simp only [List.mem_cons, List.not_mem_nil, or_false] at hu
        rcases hu with e | e | e | e <;> subst e
        · exact v5.tup1 (hG _ x1) (r15 _ _ g1)
        · exact v5.lst1 (hG _ (w1 _ x2)) m2 ((r3.trans (r4.trans r5)) _ _ g2)
        · exact v5.dic1 (by decide +kernel) (hG _ (w1 _ (w2 _ x3))) ((r4.trans r5) _ _ g3)
        · exact v5.tup2 (hG _ (w1 _ (w2 _ (w3 _ x4)))) (r5 _ _ g4)
      exact ((all v' hm').kept hbn kp').le (by omega)
    · rintro σ G ⟨v, y, rfl, kG, bG, vG⟩
      exact ⟨v, rfl, q G v kG (bG.le (by omega)) (vG.le (by omega))⟩
end
end K1
namespace K1
open PySem PySem.Spec PyProof.Rows L2

theorem vals_get : ∀ {xs : List V} {us : List Value}, us.length = xs.length → (∀ (i : Nat) (x : V) (u : Value), xs[i]? = some x → us[i]? = some u → RelV x u) → Vals xs us
  | [], [], _, _ => .nil
  | [], _ :: _, h, _ => by simp at h
  | _ :: _, [], h, _ => by simp at h
  | x :: xs, u :: us, h, r => .cons (r 0 x u rfl rfl) (vals_get (by simpa using h) fun i y v hy hv => r (i + 1) y v (by simpa using hy) (by simpa using hv))

section
variable {X : Cx}
/-- list(a text) -/
theorem call_listS (hc : X.calm = true) : CallR X (.type "list") (fun xs H Q => ∃ z : Str, xs = [.str z] ∧ z.length ≤ sizeLine ∧
    ∀ l, H l = none → Q (.ref l) (upd H l (.lst (z.cps.toList.map fun c => V.str ⟨#[c]⟩)))) := by
  intro pins s σ H xs us Q I r h
  obtain ⟨z, rfl, hz, q⟩ := h
  obtain ⟨u, rfl, ru⟩ := vals1 r
  obtain ⟨t, rfl⟩ := ru
  refine call_list_str (I.ok.hd hc) z t (hn := hz) fun h' tk acc c hk hS hacc => ?_
  refine ⟨.ref s.heap.objs.size, _, I.laid (t' := tk) hk (Nat.le_refl _) ?_, rfl, q _ (I.hok.fresh (Nat.le_refl _))⟩
  refine ⟨by simpa [Str.length] using hz, acc.toList, c, vals_get (by simp [hacc.1]) fun i x u hx hu => ?_, by simpa using hS⟩
  obtain ⟨d, v, hd, rfl⟩ := hacc.2 i u (by simpa using hu)
  rw [List.getElem?_map] at hx
  have hd' : z.cps.toList[i]? = some d := by simpa using hd
  rw [hd'] at hx
  cases hx
  exact ⟨v, rfl⟩
end

/-- a text of at most n signs, each below 1000 -/
def OkT (n : Nat) (x : Str) : Prop := x.length ≤ n ∧ ∀ c ∈ x.cps.toList, c < 1000
theorem OkT.le {n m : Nat} {x : Str} (h : OkT n x) (e : n ≤ m) : OkT m x := ⟨Nat.le_trans h.1 e, h.2⟩
theorem OkT.app {n m : Nat} {x y : Str} (h : OkT n x) (k : OkT m y) : OkT (n + m) (x ++ y) := by
  refine ⟨by rw [strLen_append]; have := h.1; have := k.1; omega, fun c hc => ?_⟩
  have e : (x ++ y).cps.toList = x.cps.toList ++ y.cps.toList := by
    show (x.cps ++ y.cps).toList = _
    exact Array.toList_append
  rw [e] at hc
  rcases List.mem_append.mp hc with h1 | h1
  · exact h.2 c h1
  · exact k.2 c h1
theorem OkT.cut {n : Nat} {x : Str} (h : OkT n x) (lo hi : Option Int) : OkT n (cutS x lo hi) := by
  unfold cutS
  refine ⟨?_, fun c hc => h.2 c ?_⟩
  · show (List.toArray _).size ≤ n
    rw [List.size_toArray, List.length_take, List.length_drop]
    have e : x.cps.toList.length = x.length := by simp [Str.length]
    have := h.1
    omega
  · exact List.mem_of_mem_drop (List.mem_of_mem_take (by simpa using hc))
theorem fold_ok : ∀ (l : List Str) (acc : Array Nat) (k : Nat), (∀ p ∈ l, OkT 1 p) → acc.size ≤ k → (∀ c ∈ acc.toList, c < 1000) →
    (l.foldl (fun acc p => acc ++ (Str.ofString "").cps ++ p.cps) acc).size ≤ k + l.length ∧
    ∀ c ∈ (l.foldl (fun acc p => acc ++ (Str.ofString "").cps ++ p.cps) acc).toList, c < 1000
  | [], acc, k, _, h1, h2 => ⟨h1, h2⟩
  | p :: l, acc, k, h, h1, h2 => by
    have hp := h p List.mem_cons_self
    have e0 : (Str.ofString "").cps = #[] := by decide +kernel
    have z := fold_ok l (acc ++ (Str.ofString "").cps ++ p.cps) (k + 1) (fun y hy => h y (List.mem_cons_of_mem _ hy)) (by
      rw [e0, Array.size_append, Array.size_append]
      have h3 : p.cps.size ≤ 1 := hp.1
      have h4 : (#[] : Array Nat).size = 0 := rfl
      omega) (fun c hc => by
      rw [e0, Array.toList_append, Array.toList_append] at hc
      simp only [List.mem_append] at hc
      rcases hc with (h5 | h5) | h5
      · exact h2 c h5
      · cases h5
      · exact hp.2 c h5)
    refine ⟨?_, z.2⟩
    have h6 := z.1
    simp only [List.foldl_cons, List.length_cons]
    omega
theorem join_ok {l : List Str} (h : ∀ p ∈ l, OkT 1 p) : OkT l.length (Txt.join "" l) := by
  cases l with
  | nil => exact ⟨by decide +kernel, by decide +kernel⟩
  | cons p l =>
    have hp := h p List.mem_cons_self
    have z := fold_ok l p.cps 1 (fun y hy => h y (List.mem_cons_of_mem _ hy)) hp.1 hp.2
    refine ⟨?_, z.2⟩
    have h6 := z.1
    refine Nat.le_trans h6 (Nat.le_of_eq ?_)
    rw [List.length_cons, Nat.add_comm]
def base15 : List Str := ["\x69mport", "template", "list", "document", "let", "new", "for", "in", "where", "give", "if", "then", "else", "number", "text"]
theorem split15 : Txt.split "\x69mport template list document let new for in where give if then else number text" " " = base15 := by
  decide +kernel
def okb (x : Str) : Bool := decide (x.length ≤ 12) && x.cps.toList.all (fun c => decide (c < 1000))
theorem okb_ok {x : Str} (h : okb x = true) : OkT 12 x := by
  unfold okb at h
  simp only [Bool.and_eq_true, decide_eq_true_eq, List.all_eq_true] at h
  exact h
theorem base_ok {x : Str} (h : x ∈ base15) : OkT 12 x ∧ 1 ≤ x.length ∧ OkT 12 (Txt.upper x) := by
  have z : base15.all (fun x => okb x && okb (Txt.upper x) && decide (1 ≤ x.length)) = true := by decide +kernel
  have y := List.all_eq_true.mp z x h
  simp only [Bool.and_eq_true, decide_eq_true_eq] at y
  exact ⟨okb_ok y.1.1, y.2, okb_ok y.1.2⟩
def signs9 : List Str := ["A", "1", "_", " ", ".", "-", "\n", "{", "~"]
theorem sign_ok {x : Str} (h : x ∈ signs9) : OkT 12 x := by
  have z : signs9.all okb = true := by decide +kernel
  exact okb_ok (List.all_eq_true.mp z x h)

theorem scWords : FnScope ["_law_box_here", "_law_some", "_law_word", "_law_at", "_law_front", "_law_back", "_law_size", "_law_turn", "_law_sign"]
    ["_law_box_here"] (defScope sWords) := ⟨rfl, rfl, rfl, by decide +kernel, rfl, by decide +kernel, by decide +kernel⟩

/-- a list at p of texts, at most n, all short -/
def Texts (n : Nat) (H : Hp) (p : Addr) : Prop := ∃ ys : List Str, H p = some (.lst (ys.map V.str)) ∧ ys.length ≤ n ∧ ∀ y ∈ ys, OkT 40 y

def spWords : Sp := fun vs H Q _ => ∃ (b : Addr) (c : Int), vs = [.ref b] ∧ Box c H b ∧ c ≤ 50000 ∧
  ∀ H' p, Kept b H H' → Box (c + 200) H' b → H p = none → p ≠ b → Texts 200 H' p → Q (.ref p) H'

def sizes (r : Int) : List V := [.int 1, .int 11, .int 12, .int 13, .int (1 + r)]
theorem sizes_mem {r : Int} {x : V} (r0 : 0 ≤ r) (r1 : r < 14) {i : Nat} (h : (sizes r)[i]? = some x) : ∃ k : Int, x = .int k ∧ 1 ≤ k ∧ k ≤ 14 := by
  have m := List.mem_of_getElem? h
  simp only [sizes, List.mem_cons, List.not_mem_nil, or_false] at m
  rcases m with e | e | e | e | e <;> exact ⟨_, e, by omega, by omega⟩
theorem abc_mem {v : V} (h : v ∈ ((Str.ofString "abcxyz").cps.toList.map fun c => V.str ⟨#[c]⟩)) : ∃ y, v = .str y ∧ OkT 1 y := by
  obtain ⟨c, hc, rfl⟩ := List.mem_map.mp h
  have z : ((Str.ofString "abcxyz").cps.toList.all fun c => decide (c < 1000)) = true := by decide +kernel
  have y := of_decide_eq_true (List.all_eq_true.mp z c hc)
  exact ⟨_, rfl, Nat.le_refl 1, fun d hd => by
    have e : d = c := by simpa using hd
    rw [e]
    exact y⟩
theorem sum_ok : ∀ {l : List Str}, (∀ p ∈ l, OkT 1 p) → (l.map (·.length)).sum ≤ l.length
  | [], _ => Nat.le_refl 0
  | p :: l, h => by
    have h1 := (h p List.mem_cons_self).1
    have h2 := sum_ok (l := l) fun y hy => h y (List.mem_cons_of_mem _ hy)
    rw [List.map_cons, List.sum_cons, List.length_cons]
    omega

theorem tiny {n : Nat} (h : n ≤ 1000) : n ≤ sizeLine := Nat.le_of_lt (small1000 h)
/-- a new list, or what is added to it, leaves all else -/
theorem Kept.new {b p : Addr} {H G : Hp} {o : HO} (k : Kept b H G) (n : H p = none) : Kept b H (L2.upd G p o) := fun a u e ab => by
  rw [upd_ne (ne_of_none e n)]
  exact k a u e ab
theorem Box.off {c : Int} {G : Hp} {b p : Addr} {o : HO} (x : Box c G b) (n : p ≠ b) : Box c (upd G p o) b := by
  obtain ⟨u, m, k, e, r⟩ := x
  exact ⟨u, m, k, by rw [upd_ne n.symm]; exact e, r⟩
theorem mem_strs {ys : List Str} {i : Nat} {x : V} (h : (ys.map V.str)[i]? = some x) : ∃ z, x = .str z ∧ z ∈ ys ∧ i < ys.length := by
  rw [List.getElem?_map] at h
  cases e : ys[i]? with
  | none =>
    rw [e] at h
    cases h
  | some z =>
    rw [e] at h
    exact ⟨z, (Option.some.inj h).symm, List.mem_of_getElem? e, (List.getElem?_eq_some_iff.mp e).1⟩
theorem Kept.fresh {b p : Addr} {H G : Hp} (k : Kept b H G) (n : G p = none) (nb : p ≠ b) : H p = none := by
  cases e : H p with
  | none => rfl
  | some u =>
    rw [k _ _ e nb] at n
    cases n
/-- more texts behind those of the list at L -/
theorem Texts.more {n m : Nat} {G : Hp} {L : Addr} {ys zs : List Str} (hy : ys.length ≤ n) (hok : ∀ y ∈ ys, OkT 40 y) (hz : zs.length ≤ m)
    (hzo : ∀ y ∈ zs, OkT 40 y) (e : G L = some (.lst (ys.map V.str ++ zs.map V.str))) : Texts (n + m) G L := by
  refine ⟨ys ++ zs, by rw [e, List.map_append], by rw [List.length_append]; omega, fun y h => ?_⟩
  rcases List.mem_append.mp h with h | h
  · exact hok y h
  · exact hzo y h

section
variable {P : Program} {w : World} {K : PySem.W.Frag} {mg : Str → Option Value} {base : Heap}

theorem ok_words {f fO fT : Addr} {fd fdO fdT : FuncData} (F : Fun K "_law_words" "_law_words" sWords f fd)
    (FO : Fun K "_law_of" "_law_of" sOf fO fdO) (bO : Binds K fdO ["_law_box_here", "_law_some"] [])
    (gO : mg "_law_of" = some (.ref fO)) (Z : Bare mg)
    (GO : FnOk P w K mg base CX0 2 fO fdO ["_law_box_here", "_law_some"] spOf)
    (FT : Fun K "_law_take" "_law_take" sTake fT fdT) (bT : Binds K fdT ["_law_box_here", "_law_many"] [])
    (gT : mg "_law_take" = some (.ref fT)) (GT : FnOk P w K mg base CX0 1 fT fdT ["_law_box_here", "_law_many"] spTake) :
    FnOk P w K mg base CX0 3 f fd ["_law_box_here"] spWords := by
  refine F.ok scWords (fun vs H Q E h => ?_) (fun cdv A outer s H vs Q E hr h => ?_)
  · obtain ⟨b, c, rfl, _⟩ := h
    rfl
  · obtain ⟨b, c, rfl, hb, hc, q⟩ := h
    have hr1 : Room 1 _ := hr.mono (by decide)
    refine ⟨_, pss_cons (ps_set (i := 1) scWords.nd rfl (.inl rfl) (pe_split pe_str pe_str))
      (pss_cons (ps_for PassesOwn.never rfl (pi_list (pe_callTy call_list_of (by rfl) Z.list (by decide +kernel) (pa_cons (pv 1) pa_nil)))
          (pg_name (i := 2) scWords.nd rfl (.inr rfl))
        (pss_cons (ps_set (i := 3) scWords.nd rfl (.inr rfl) (pe_call GT hr1 (by rfl) gT FT.kp bT .nil pass0 (pa_cons (pv 0)
            (pa_cons (pe_callB call_len_str (by rfl) Z.len PySem.boot_len (pa_cons (pv 2) pa_nil)) pa_nil))))
        (pss_cons (ps_par (i := 4) (j := 5) rfl scWords.nd rfl rfl (by decide) rfl rfl
            (pa_cons (pe_slice sl_str (pv 2) po_none (po_some (pv 3))) (pa_cons (pe_slice sl_str (pv 2) (po_some (pe_op op_add (pv 3) pe_int)) po_none) pa_nil)) (by rfl))
        (pss_one (ps_expr (pe_bm PySem.F.plainAttrs_list PySem.F.slot_list_extend PySem.F.type_list_extend mt_extend (pv 1)
          (pa_cons (pe_lst (pa_cons (pe_op op_add_str (pv 2) pe_str) (pa_cons (pe_op op_add_str (pv 4) (pv 5))
            (pa_cons (pe_op op_add_str (pe_op op_add_str (pv 4) pe_str) (pv 5)) (pa_cons (pe_upper (pv 2)) (pa_cons (pe_op op_add_str (pv 2) pe_str) pa_nil)))))) pa_nil)))))))
      (pss_cons (ps_for PassesOwn.never rfl (pi_tup (pe_tup (pa_cons pe_int (pa_cons pe_int (pa_cons pe_int (pa_cons pe_int
            (pa_cons (pe_op op_add pe_int (pe_call GT hr1 (by rfl) gT FT.kp bT .nil pass0 (pa_cons (pv 0) (pa_cons pe_int pa_nil)))) pa_nil)))))))
          (pg_name (i := 6) scWords.nd rfl (.inl rfl))
        (pss_cons (ps_set (i := 2) scWords.nd rfl (.inr rfl) (pe_join pe_str
            (pe_lc (own := [("_law_turn", 7)]) (g := gName 7) (tt := tYes) rfl scWords.nd (pi_range1 (by rfl) Z.range (pa_cons (pv 6) pa_nil))
              (blkOk_by (N := ["_law_box_here", "_law_some", "_law_word", "_law_at", "_law_front", "_law_back", "_law_size", "_law_turn", "_law_sign"]) (sc := defScope sWords) (by decide +kernel))
              (fun _ _ _ _ _ => pg_name (i := 7) scWords.nd rfl (Or.inl rfl)) (fun _ _ _ _ _ => pts_nil)
              (fun _ _ _ _ _ => pe_call GO hr (by rfl) gO FO.kp bO .nil pass0 (pa_cons (pv 0)
                (pa_cons (pe_callTy (call_listS rfl) (by rfl) Z.list (by decide +kernel) (pa_cons pe_str pa_nil)) pa_nil))))))
        (pss_cons (ps_set (i := 3) scWords.nd rfl (.inr rfl) (pe_call GT hr1 (by rfl) gT FT.kp bT .nil pass0 (pa_cons (pv 0) (pa_cons (pv 6) pa_nil))))
        (pss_cons (ps_expr (pe_bm PySem.F.plainAttrs_list PySem.F.slot_list_append PySem.F.type_list_append mt_append (pv 1) (pa_cons (pv 2) pa_nil)))
        (pss_one (ps_expr (pe_bm PySem.F.plainAttrs_list PySem.F.slot_list_extend PySem.F.type_list_extend mt_extend (pv 1)
          (pa_cons (pe_lc (own := [("_law_sign", 8)]) (g := gName 8) (tt := tYes) rfl scWords.nd (pi_list (pe_lst (pa_cons pe_str (pa_cons pe_str (pa_cons pe_str
                (pa_cons pe_str (pa_cons pe_str (pa_cons pe_str (pa_cons pe_str (pa_cons pe_str (pa_cons pe_str pa_nil)))))))))))
              (blkOk_by (N := ["_law_box_here", "_law_some", "_law_word", "_law_at", "_law_front", "_law_back", "_law_size", "_law_turn", "_law_sign"]) (sc := defScope sWords) (by decide +kernel))
              (fun _ _ _ _ _ => pg_name (i := 8) scWords.nd rfl (Or.inl rfl)) (fun _ _ _ _ _ => pts_nil)
              (fun _ _ _ _ _ => pe_op op_add_str (pe_op op_add_str (pe_slice sl_str (pv 2) po_none (po_some (pv 3))) (pv 8))
                (pe_slice sl_str (pv 2) (po_some (pe_op op_add (pv 3) pe_int)) po_none))) pa_nil))))))))
      (pss_one (ps_ret (pv 1))))), ?_⟩
    have hbn := hb.some
    refine ⟨⟨_, rfl⟩, _, _, rfl, rfl, rfl, (by decide +kernel), ?_⟩
    rw [split15]
    intro L nL
    obtain ⟨s1, f1, u1⟩ := grow (o := .lst (base15.map V.str)) nL
    have nLb : L ≠ b := fun e => by
      rw [e] at nL
      exact hbn nL
    generalize upd H L (.lst (base15.map V.str)) = H1 at s1 f1 u1 ⊢
    refine ⟨.ref L, rfl, L, _, rfl, .inl (SqL.of f1), fun M nM => ?_⟩
    obtain ⟨s2, f2, u2⟩ := grow (o := .lst (base15.map V.str)) nM
    have nML : M ≠ L := fun e => by
      rw [e, f1] at nM
      cases nM
    have nMb : M ≠ b := fun e => by
      rw [e] at nM
      exact hbn (u1 _ nM)
    generalize upd H1 M (.lst (base15.map V.str)) = H2 at s2 f2 u2 ⊢
    refine ⟨M, rfl, ⟨_, SqL.of f2⟩, for_list (K := K) (a := M) (xs := base15.map V.str)
      (fun i σ G => ∃ y2 y3 y4 y5, σ = [some (.ref b), some (.ref L), y2, y3, y4, y5, none, none, none] ∧ Kept b H G ∧ Box (c + i) G b ∧
        G M = some (.lst (base15.map V.str)) ∧ Texts (15 + 5 * i) G L)
      ⟨none, none, none, none, rfl, keptS (s1.trans s2), by simpa using hb.at (s1.trans s2), f2, base15, s2 _ _ f1, by decide, fun y hy => (base_ok hy).1.le (by decide)⟩
      (fun i σ G _ h => ?_) ?_ ?_⟩
    · obtain ⟨y2, y3, y4, y5, _, _, _, eM, _⟩ := h
      exact SqL.of eM
    · rintro i x σ G hi ⟨y2, y3, y4, y5, rfl, kG, bG, eM, ys, eL, ly, oy⟩
      obtain ⟨z, rfl, zm, hi15⟩ := mem_strs hi
      have hi15 : i < 15 := hi15
      obtain ⟨zo, z1, zu⟩ := base_ok zm
      have zl := zo.1
      have zz : z.length ≤ sizeLine := tiny (by omega)
      -- at
      refine ⟨.ref b, rfl, .str z, rfl, z, rfl, zz, b, _, c + i, rfl, bG, by omega, by omega, by omega, fun G' r kp hb' r0 r1 => ?_⟩
      have eL' := kp _ _ eL nLb
      have eM' := kp _ _ eM nMb
      -- front, back
      refine ⟨.str z, rfl, .int r, rfl, r, rfl, z, rfl, zz, .str z, rfl, .int r, rfl, r, 1, rfl, rfl, r + 1, rfl, z, rfl, zz, _, _, rfl, ?_⟩
      have fo : OkT 12 (cutS z none (some r)) := zo.cut _ _
      have bo : OkT 12 (cutS z (some (r + 1)) none) := zo.cut _ _
      generalize cutS z none (some r) = fr at fo ⊢
      generalize cutS z (some (r + 1)) none = bk at bo ⊢
      have fl := fo.1
      have bl := bo.1
      have e1 : (Str.ofString "x").length = 1 := by decide +kernel
      have e2 : (Str.ofString "q").length = 1 := by decide +kernel
      have e3 : (Str.ofString " ").length = 1 := by decide +kernel
      -- the five texts
      refine ⟨.ref L, rfl, .inl ⟨rfl, _, SqL.of eL'⟩, .str z, rfl, _, _, rfl, rfl, tiny (by omega), .str fr, rfl, .str bk, rfl, _, _, rfl, rfl, tiny (by omega),
        .str fr, rfl, _, _, rfl, rfl, tiny (by omega), .str bk, rfl, _, _, rfl, rfl, tiny (by rw [strLen_append]; omega), .str z, rfl, ⟨z, rfl⟩, z, rfl, rfl, by omega,
        .str z, rfl, _, _, rfl, rfl, tiny (by omega), len_le (n := 5) (by decide) rfl, fun p np => ?_⟩
      have nLp : p ≠ L := fun e => by
        rw [e, eL'] at np
        cases np
      have nMp : p ≠ M := fun e => by
        rw [e, eM'] at np
        cases np
      have nbp : p ≠ b := fun e => by
        rw [e] at np
        exact hb'.some np
      refine ⟨L, p, ys.map V.str, [z ++ "x", fr ++ bk, fr ++ "q" ++ bk, Txt.upper z, z ++ " "].map V.str, rfl, rfl, by rw [upd_ne nLp.symm]; exact eL', upd_same, ?_, ?_⟩
      · rw [List.length_map, List.length_map]
        exact tiny (by show ys.length + 5 ≤ 1000; omega)
      · refine ⟨_, _, _, _, rfl, ((kG.trans kp).new (?_ : H p = none)).new nL, ?_, ?_, ?_⟩
        · cases e : H p with
          | none => rfl
          | some u =>
            rw [(kG.trans kp) _ _ e nbp] at np
            cases np
        · exact ((hb'.off nbp).off nLb).le (by omega)
        · rw [upd_ne nML, upd_ne nMp.symm]
          exact eM'
        · refine Texts.more (n := 15 + 5 * i) (m := 5) (zs := [z ++ "x", fr ++ bk, fr ++ "q" ++ bk, Txt.upper z, z ++ " "]) ly oy (Nat.le_refl 5) ?_ upd_same
          have x1 : OkT 1 (Str.ofString "x") := ⟨by decide +kernel, by decide +kernel⟩
          have x2 : OkT 1 (Str.ofString "q") := ⟨by decide +kernel, by decide +kernel⟩
          have x3 : OkT 1 (Str.ofString " ") := ⟨by decide +kernel, by decide +kernel⟩
          intro y hy
          simp only [List.mem_cons, List.not_mem_nil, or_false] at hy
          rcases hy with h | h | h | h | h <;> subst h
          · exact (zo.app x1).le (by decide)
          · exact (fo.app bo).le (by decide)
          · exact ((fo.app x2).app bo).le (by decide)
          · exact zu.le (by decide)
          · exact (zo.app x3).le (by decide)
    · rintro σ G ⟨y2, y3, y4, y5, rfl, kG, bG, eM, tL⟩
      have bG : Box (c + 15) G b := bG
      have tL : Texts 90 G L := tL
      -- the sizes
      refine ⟨.ref b, rfl, b, 14, c + 15, rfl, bG, by decide, by decide, by omega, fun G1 r kp hb1 r0 r1 => ?_⟩
      refine ⟨1, r, rfl, rfl, len_le (n := 5) (by decide) rfl, fun T nT => ?_⟩
      obtain ⟨sT, fT', uT⟩ := grow (o := .tup [.int 1, .int 11, .int 12, .int 13, .int (1 + r)]) nT
      obtain ⟨ys, eL, ly, oy⟩ := tL
      have eL1 := kp _ _ eL nLb
      have kT : Kept b H (upd G1 T (.tup [.int 1, .int 11, .int 12, .int 13, .int (1 + r)])) := (kG.trans kp).trans (keptS sT)
      have bT1 := hb1.at sT
      have nTb : T ≠ b := fun e => by
        rw [e] at nT
        exact hb1.some nT
      have nTL : T ≠ L := fun e => by
        rw [e, eL1] at nT
        cases nT
      have tT : Texts 90 (upd G1 T (.tup [.int 1, .int 11, .int 12, .int 13, .int (1 + r)])) L := ⟨ys, sT _ _ eL1, ly, oy⟩
      show ∃ a, V.ref T = .ref a ∧ _
      generalize upd G1 T (.tup [.int 1, .int 11, .int 12, .int 13, .int (1 + r)]) = G2 at fT' kT bT1 tT ⊢
      refine ⟨T, rfl, ⟨_, SqT.of fT'⟩, for_it (walk_tup (K := K) (a := T) (xs := [.int 1, .int 11, .int 12, .int 13, .int (1 + r)]))
        (fun i σ G => ∃ y2 y3 y4 y5 y6, σ = [some (.ref b), some (.ref L), y2, y3, y4, y5, y6, none, none] ∧ Kept b H G ∧ Box (c + 16 + 16 * i) G b ∧
          G T = some (.tup [.int 1, .int 11, .int 12, .int 13, .int (1 + r)]) ∧ Texts (90 + 10 * i) G L)
        ⟨_, _, _, _, none, rfl, kT, bT1.le (by omega), fT', tT⟩ (fun i σ G _ h => ?_) ?_ ?_⟩
      · obtain ⟨_, _, _, _, _, _, _, _, eT, _⟩ := h
        exact SqT.of eT
      · rintro i x σ G' G hi5 ⟨y2, y3, y4, y5, y6, rfl, kG', bG', eT, ys, eL', ly', oy'⟩ ⟨rfl, hx⟩
        obtain ⟨k, rfl, k1, k14⟩ := sizes_mem r0 r1 hx
        have hi5 : i < 5 := hi5
        have gLn : ∀ {p : Addr}, G p = none → p ≠ L := fun {p} n e => by
          rw [e, eL'] at n
          cases n
        have gTn : ∀ {p : Addr}, G p = none → p ≠ T := fun {p} n e => by
          rw [e, eT] at n
          cases n
        have gbn : ∀ {p : Addr}, G p = none → p ≠ b := fun {p} n e => by
          rw [e] at n
          exact bG'.some n
        -- word
        refine ⟨⟨_, rfl⟩, .int k, rfl, k, rfl, by omega, by omega, fun D nD => ?_⟩
        have nDL := gLn nD
        have nDT := gTn nD
        have nDb := gbn nD
        have hD : H D = none := kG'.fresh nD nDb
        refine lc_range (lo := 0) (n := k.toNat) (fun j G' => Kept b H G' ∧ Box (c + 16 + 16 * i + j) G' b ∧
          G' T = some (.tup (sizes r)) ∧ G' L = some (.lst (ys.map V.str)) ∧ ∃ zs : List Str, G' D = some (.lst (zs.map V.str)) ∧ zs.length = j ∧ ∀ y ∈ zs, OkT 1 y) ?_ ?_ ?_
        · exact ⟨kG'.new hD, (bG'.off nDb).le (by omega), by rw [upd_ne nDT.symm]; exact eT, by rw [upd_ne nDL.symm]; exact eL', [], upd_same, rfl, fun y hy => by cases hy⟩
        · rintro j G1 hj ⟨k1', b1', t1', l1', zs, d1', lz, oz⟩
          refine ⟨rfl, ?_⟩
          refine ⟨.ref b, rfl, _, rfl, (by decide +kernel), fun l nl => ?_⟩
          obtain ⟨sl, fl, ul⟩ := grow (o := .lst ((Str.ofString "abcxyz").cps.toList.map fun c => V.str ⟨#[c]⟩)) nl
          have nlb : l ≠ b := fun e => by
            rw [e] at nl
            exact b1'.some nl
          refine ⟨b, l, _, _, rfl, b1'.at sl, upd_same, nlb, (by decide +kernel), (by decide +kernel), by omega, fun G2 v kp2 hb2 hm2 => ?_⟩
          obtain ⟨y, rfl, oy1⟩ := abc_mem hm2
          have kk : Kept b G1 G2 := (keptS sl).trans kp2
          have d2 := kk _ _ d1' nDb
          refine ⟨_, d2, ?_, ?_⟩
          · rw [List.length_map]
            exact small1000 (by omega)
          · refine ⟨(k1'.trans kk).new hD, (hb2.off nDb).le (by omega), by rw [upd_ne nDT.symm]; exact kk _ _ t1' nTb, by rw [upd_ne nDL.symm]; exact kk _ _ l1' nLb,
              zs ++ [y], by rw [upd_same, List.map_append]; rfl, by rw [List.length_append, lz]; rfl, fun u hu => ?_⟩
            rcases List.mem_append.mp hu with h | h
            · exact oz u h
            · rw [List.mem_singleton.mp h]
              exact oy1
        · rintro G1 ⟨k1', b1', t1', l1', zs, d1', lz, oz⟩
          have zk : zs.length ≤ 14 := by omega
          have jo := join_ok oz
          have so := sum_ok oz
          have e0 : (Str.ofString "").length = 0 := by decide +kernel
          refine ⟨_, D, zs, rfl, rfl, .inl (SqL.of d1'), by rw [e0]; omega, ?_⟩
          show gName 2 (.str (Txt.join "" zs)) _ G1 _
          generalize Txt.join "" zs = wd at jo ⊢
          have wo : OkT 14 wd := jo.le zk
          have wl := wo.1
          have wz : wd.length ≤ sizeLine := tiny (by omega)
          -- at
          refine ⟨.ref b, rfl, .int k, rfl, b, k, _, rfl, b1', k1, by omega, by omega, fun G2 r' kp2 hb2 r0' r1' => ?_⟩
          have l2' := kp2 _ _ l1' nLb
          have t2' := kp2 _ _ t1' nTb
          have k2' : Kept b H G2 := k1'.trans kp2
          -- append
          refine ⟨.ref L, rfl, .inl ⟨rfl, _, SqL.of l2'⟩, .str wd, rfl, L, _, _, rfl, rfl, l2', ?_, ?_⟩
          · rw [List.length_map]
            exact small1000 (by omega)
          have k3 : Kept b H (upd G2 L (.lst (ys.map V.str ++ [V.str wd]))) := k2'.new nL
          have b3 : Box _ (upd G2 L (.lst (ys.map V.str ++ [V.str wd]))) b := hb2.off nLb
          have t3 : (upd G2 L (.lst (ys.map V.str ++ [V.str wd]))) T = some (.tup (sizes r)) := by
            rw [upd_ne nTL]
            exact t2'
          have l3 : (upd G2 L (.lst (ys.map V.str ++ [V.str wd]))) L = some (.lst ((ys ++ [wd]).map V.str)) := by
            rw [upd_same, List.map_append]
            rfl
          generalize upd G2 L (.lst (ys.map V.str ++ [V.str wd])) = G3 at k3 b3 t3 l3 ⊢
          -- extend
          refine ⟨.ref L, rfl, .inl ⟨rfl, _, SqL.of l3⟩, len_le (n := 9) (by decide) rfl, fun S nS => ?_⟩
          obtain ⟨sS, fS, uS⟩ := grow (o := .lst (signs9.map V.str)) nS
          have k4 : Kept b H (upd G3 S (.lst (signs9.map V.str))) := k3.trans (keptS sS)
          have b4 := b3.at sS
          have t4 := sS _ _ t3
          have l4 := sS _ _ l3
          refine ⟨S, rfl, ⟨_, SqL.of fS⟩, fun D2 nD2 => ?_⟩
          have nD2 : (upd G3 S (.lst (signs9.map V.str))) D2 = none := nD2
          show ∃ W : Nat → Nat → Hp → Prop, (∃ m, W 0 m (upd (upd G3 S (.lst (signs9.map V.str))) D2 (.lst []))) ∧ _
          generalize upd G3 S (.lst (signs9.map V.str)) = G4 at fS k4 b4 t4 l4 nD2 ⊢
          have nSD : S ≠ D2 := fun e => by
            rw [e, nD2] at fS
            cases fS
          have nLD : L ≠ D2 := fun e => by
            rw [e, nD2] at l4
            cases l4
          have nTD : T ≠ D2 := fun e => by
            rw [e, nD2] at t4
            cases t4
          have nbD : D2 ≠ b := fun e => by
            rw [e] at nD2
            exact b4.some nD2
          have hD2 : H D2 = none := k4.fresh nD2 nbD
          have fo : OkT 14 (cutS wd none (some r')) := wo.cut _ _
          have bo : OkT 14 (cutS wd (some (r' + 1)) none) := wo.cut _ _
          have fl := fo.1
          have bl := bo.1
          refine lc_list (K := K) (a := S) (xs := signs9.map V.str) (fun j G' => G' = upd G4 D2 (.lst (((signs9.take j).map fun sg =>
            cutS wd none (some r') ++ sg ++ cutS wd (some (r' + 1)) none).map V.str))) rfl (fun j G' _ e => ?_) ?_ ?_
          · rw [e]
            exact SqL.of (by rw [upd_ne nSD]; exact fS)
          · rintro j x G' hj rfl
            have hj9 : j < 9 := by
              have z := (List.getElem?_eq_some_iff.mp hj).1
              exact z
            have hs : signs9[j]? = some (signs9.getD j "") := by
              rw [List.getD_eq_getElem?_getD]
              have z : j < signs9.length := hj9
              rw [List.getElem?_eq_getElem z]
              rfl
            have ex : x = .str (signs9.getD j "") := by
              rw [List.getElem?_map, hs] at hj
              exact (Option.some.inj hj).symm
            have so9 := sign_ok (List.mem_of_getElem? hs)
            generalize signs9.getD j "" = sg at hs ex so9
            subst ex
            have sl9 := so9.1
            refine ⟨rfl, ?_⟩
            refine ⟨.str wd, rfl, .int r', rfl, r', rfl, wd, rfl, wz, .str sg, rfl, _, _, rfl, rfl, tiny (by omega), .str wd, rfl, .int r', rfl, r', 1, rfl, rfl, r' + 1, rfl,
              wd, rfl, wz, _, _, rfl, rfl, tiny (by rw [strLen_append]; omega), _, upd_same, ?_, ?_⟩
            · rw [List.length_map, List.length_map, List.length_take]
              exact small1000 (by omega)
            · rw [upd_upd, List.take_add_one, hs, List.map_append, List.map_append]
              rfl
          · rintro G' rfl
            have e9 : signs9.take (signs9.map V.str).length = signs9 := by decide +kernel
            rw [e9]
            refine ⟨L, D2, (ys ++ [wd]).map V.str, (signs9.map fun sg => cutS wd none (some r') ++ sg ++ cutS wd (some (r' + 1)) none).map V.str, rfl, rfl,
              by rw [upd_ne nLD]; exact l4, upd_same, ?_, ?_⟩
            · rw [List.length_map, List.length_map, List.length_map, List.length_append]
              exact tiny (by show ys.length + 1 + 9 ≤ 1000; omega)
            · refine ⟨_, _, _, _, _, rfl, (k4.new hD2).new nL, ((b4.off nbD).off nLb).le (by omega), ?_, ?_⟩
              · rw [upd_ne nTL, upd_ne nTD]
                exact t4
              · refine Texts.more (n := 90 + 10 * i + 1) (m := 9) (ys := ys ++ [wd]) (by rw [List.length_append]; show ys.length + 1 ≤ _; omega) (fun y hy => ?_) (by rw [List.length_map]; exact Nat.le_refl 9) (fun y hy => ?_) upd_same
                · rcases List.mem_append.mp hy with h | h
                  · exact oy' y h
                  · rw [List.mem_singleton.mp h]
                    exact wo.le (by decide)
                · obtain ⟨sg, hsg, rfl⟩ := List.mem_map.mp hy
                  exact ((fo.app (sign_ok hsg)).app bo).le (by decide)
      · rintro σ G ⟨y2, y3, y4, y5, y6, rfl, kG', bG', eT, tL'⟩
        have bG' : Box (c + 16 + 16 * 5) G b := bG'
        obtain ⟨ys', e', l', o'⟩ := tL'
        have l' : ys'.length ≤ 140 := l'
        exact ⟨.ref L, rfl, q G L kG' (bG'.le (by omega)) nL nLb ⟨ys', e', by omega, o'⟩⟩
end
end K1
namespace K1
open PySem PySem.Spec PyProof.Rows L2

section
variable {X : Cx} {k : Nat} {f : Addr} {fd : FuncData} {ps : List Str} {sp : Sp} {E : XK} {x nm : Str} {p pos kpos : Pos} {e : Expr} {te : TE}
/-- f(nm = e) -/
theorem pe_callKw (F : FnOk X.prog X.w X.K X.mg X.base CX0 k f fd [nm] sp) (room : Room k X.A) (hg : Gl X x) (hm : X.mg x = some (.ref f))
    (keep : PySem.W.keepIn X.K (.ref f) = true) (bd : ∀ (s : Shared) (u : Value), BindsTo s fd ⟨[], [(nm, u)]⟩ [(nm, u)]) (hx : Passes CX0 X E) (he : PE X e te)
    (hall : (backToKw pos (keywordEach [⟨some nm, e, kpos⟩] X.env)).all (·.1.isSome) = true := by rfl)
    (hks : (backToKw pos (keywordEach [⟨some nm, e, kpos⟩] X.env)).filterMap (·.1) = [nm] := by rfl)
    (hdb : (x == ("__debug__" : Str)) = false := by decide)
    (hpl : ((backTo pos (starEach [] X.env)).any (·.1) || (backToKw pos (keywordEach [⟨some nm, e, kpos⟩] X.env)).any (·.1.isNone)) = false := by rfl) :
    PE X (.Call (.Name x p) [] [⟨some nm, e, kpos⟩] pos) (fun σ H Q => te σ H fun v H1 => sp [v] H1 Q E) := by
  refine ⟨fun pins s σ H Q I h => wpAny_Call_Name_kw (ld_glob I hg hm ?_ hdb)⟩
  refine PySem.W.callWith_KW0 (h₀ := X.base) I.ok.mod.kin keep hall ?_ hpl
  refine thn ((pk_cons he pk_nil).run pos pins s σ H (fun zs H2 => sp zs H2 Q E) I h) ?_
  rintro ws s2 ⟨zs, H2, I2, rz, q2⟩
  refine ⟨I2.kIn, ?_⟩
  rw [hks]
  have len := F.len _ _ _ _ q2
  cases rz with
  | nil => simp at len
  | cons r1 r2 =>
    cases r2 with
    | cons _ _ => simp at len
    | nil =>
      rename_i u
      refine wpAny_call (codeAny_mono (F.run X.A X.stack s2 H2 ⟨[], [(nm, u)]⟩ [u] _ Q E room I2.env0 (bd s2 u) (.cons r1 .nil) q2) ?_)
      rintro (⟨er⟩ | ⟨fl⟩) s' hq
      · exact hx pins σ H2 s2 er s' I2 hq
      · rcases fl with _ | _ | _ | u
        · exact hq.elim
        · exact hq.elim
        · exact hq.elim
        · exact I2.after hq
end

theorem scRight : FnScope ["_law_box_here", "_law_thing", "_law_kept", "_law_due", "_law_turn"] ["_law_box_here"] (defScope sRight) :=
  ⟨rfl, rfl, rfl, by decide +kernel, rfl, by decide +kernel, by decide +kernel⟩

/-- a datum that may be shown, none of its objects at a or b -/
def Fine (G : Hp) (S : Addr → Prop) (v : V) : Prop := ∃ d, Sh G S v d ∧ Good 12 d ∧ Plain v
theorem Fine.mono {G G' : Hp} {S S' : Addr → Prop} {v : V} (x : Fine G S v) (hs : ∀ a, S' a → S a) (hk : ∀ a o, ¬ S a → G a = some o → G' a = some o) : Fine G' S' v := by
  obtain ⟨d, h, g⟩ := x
  exact ⟨d, h.mono hs hk, g⟩
theorem fine_str {G : Hp} {S : Addr → Prop} {x : Str} (h : OkT 40 x) : Fine G S (.str x) :=
  ⟨_, .str x, Good.str h.1 (fun c hc => Nat.lt_trans (h.2 c hc) (by decide)), tiny (Nat.le_trans h.1 (by decide))⟩
/-- repr of a list of two bools -/
theorem good_two (a b : Bool) : Good 12 (.list [.bool a, .bool b]) := by
  cases a <;> cases b <;> exact ⟨by decide +kernel, by decide +kernel, by decide +kernel⟩

def spRight : Sp := fun vs H Q _ => ∃ b : Addr, vs = [.ref b] ∧ Box 0 H b ∧ ∀ H', Kept b H H' → Q (.bl true) H'

section
variable {P : Program} {w : World} {K : PySem.W.Frag} {mg : Str → Option Value} {base : Heap}

theorem ok_right {f fW fA fN fI : Addr} {fd fdW fdA fdN fdI : FuncData} (F : Fun K "_law_right" "_law_right" sRight f fd) (Z : Bare mg)
    (FW : Fun K "_law_words" "_law_words" sWords fW fdW) (bW : Binds K fdW ["_law_box_here"] []) (gW : mg "_law_words" = some (.ref fW))
    (GW : FnOk P w K mg base CX0 3 fW fdW ["_law_box_here"] spWords)
    (FA : Fun K "_law_any" "_law_any" sAny fA fdA) (bA : Binds K fdA ["_law_box_here"] []) (gA : mg "_law_any" = some (.ref fA))
    (GA : FnOk P w K mg base CX0 3 fA fdA ["_law_box_here"] spAny)
    (FN : Fun K "_law_is_name" "_law_is_name" sOwn fN fdN) (bN : Binds K fdN ["_law_word"] []) (gN : mg "_law_is_name" = some (.ref fN))
    (GN : FnOk P w K mg base CX0 1 fN fdN ["_law_word"] spName)
    (FI : Fun K "is_name" "is_name" sIs fI fdI) (bI : Binds K fdI ["value"] []) (gI : mg "is_name" = some (.ref fI))
    (bk : ∀ (s : Shared) (u : Value), BindsTo s fdI ⟨[], [("value", u)]⟩ [("value", u)])
    (GI : FnOk P w K mg base CX0 1 fI fdI ["value"] spName) :
    FnG P w K mg base 4 f fd ["_law_box_here"] spRight := by
  refine FnG.mk' F scRight (fun vs H Q E h => ?_) (fun cdv A outer s H vs Q E hG hr h => ?_)
  · obtain ⟨b, rfl, _⟩ := h
    rfl
  · obtain ⟨b, rfl, hb, q⟩ := h
    have hr1 : Room 1 _ := hr.mono (by decide)
    refine ⟨_, pss_cons (ps_for PassesOwn.never rfl (pi_list (pe_op op_cat (pe_op op_cat
          (pe_call GW hr (by rfl) gW FW.kp bW .nil pass0 (pa_cons (pv 0) pa_nil))
          (pe_lc (own := [("_law_turn", 4)]) (g := gName 4) (tt := tYes) rfl scRight.nd (pi_range1 (by rfl) Z.range (pa_cons pe_int pa_nil))
            (blkOk_by (N := ["_law_box_here", "_law_thing", "_law_kept", "_law_due", "_law_turn"]) (sc := defScope sRight) (by decide +kernel))
            (fun _ _ _ _ _ => pg_name (i := 4) scRight.nd rfl (Or.inl rfl)) (fun _ _ _ _ _ => pts_nil)
            (fun _ _ _ _ _ => pe_call GA hr (by rfl) gA FA.kp bA .nil pass0 (pa_cons (pv 0) pa_nil))))
          (pe_lst (pa_cons (pe_tup (pa_cons pe_str pa_nil)) (pa_cons (pe_lstB (pa_cons pe_str pa_nil))
            (pa_cons (pe_disp (pps_cons pe_str pe_int pps_nil) rfl rfl (by simp) (by decide)) pa_nil))))))
        (pg_name (i := 1) scRight.nd rfl (.inl rfl))
        (pss_cons (ps_par (i := 2) (j := 3) rfl scRight.nd rfl rfl (by decide) rfl rfl
            (pa_cons (pe_callB (call_reprG hG hr) (by rfl) Z.repr (by decide +kernel) (pa_cons (pv 1) pa_nil))
              (pa_cons (pe_call GN hr1 (by rfl) gN FN.kp bN .nil pass0 (pa_cons (pv 1) pa_nil)) pa_nil)) (by rfl))
        (pss_one (ps_if (PW.pt (pw_or (pt_cmpR op_ne
              (pe_callB (call_reprG hG hr) (by rfl) Z.repr (by decide +kernel) (pa_cons (pe_lstB (pa_cons
                (pe_call GI hr1 (by rfl) gI FI.kp bI .nil pass0 (pa_cons (pv 1) pa_nil))
                (pa_cons (pe_callKw GI hr1 (by rfl) gI FI.kp bk pass0 (pv 1)) pa_nil))) pa_nil))
              (pe_callB (call_reprG hG hr) (by rfl) Z.repr (by decide +kernel) (pa_cons (pe_lstB (pa_cons (pv 3) (pa_cons (pv 3) pa_nil))) pa_nil)) (nomark _))
            (pw_or1 (pt_cmpR op_ne (pe_callB (call_reprG hG hr) (by rfl) Z.repr (by decide +kernel) (pa_cons (pv 1) pa_nil)) (pv 2) (nomark _)))))
          (pss_one (ps_ret pe_bl)) pss_nil))))
      (pss_one (ps_ret pe_bl)), ?_⟩
    have hbn := hb.some
    -- words
    refine ⟨.ref b, rfl, b, 0, rfl, hb, by decide, fun H1 p k1 hb1 np npb tx => ?_⟩
    obtain ⟨ys, ep, ly, oy⟩ := tx
    have hp1 : H1 p ≠ none := by
      rw [ep]
      simp
    -- forty values
    refine ⟨40, rfl, by decide, by decide, fun D nD => ?_⟩
    have nDb : D ≠ b := fun e => by
      rw [e] at nD
      exact hb1.some nD
    have nDp : D ≠ p := fun e => hp1 (e ▸ nD)
    have hD : H D = none := k1.fresh nD nDb
    refine lc_range (lo := 0) (n := 40) (fun j G => Kept b H G ∧ Box (200 + 8 * j) G b ∧ G p = some (.lst (ys.map V.str)) ∧
      ∃ vs : List V, G D = some (.lst vs) ∧ vs.length = j ∧ ∀ v ∈ vs, Fine G (fun a => a = b ∨ a = D) v) ?_ ?_ ?_
    · exact ⟨k1.new hD, hb1.off nDb, by rw [upd_ne nDp.symm]; exact ep, [], upd_same, rfl, fun v h => by cases h⟩
    · rintro j G hj ⟨kG, bG, pG, vs, eD, lv, fv⟩
      refine ⟨rfl, ?_⟩
      refine ⟨.ref b, rfl, b, _, rfl, bG, by omega, fun G2 v k2 b2 dv => ?_⟩
      have eD2 := k2 _ _ eD nDb
      have pG2 := k2 _ _ pG npb
      refine ⟨_, eD2, small1000 (by omega), (kG.trans k2).new hD, (b2.off nDb).le (by omega), by rw [upd_ne nDp.symm]; exact pG2, vs ++ [v], upd_same,
        by rw [List.length_append, lv]; rfl, fun u hu => ?_⟩
      rcases List.mem_append.mp hu with h | h
      · refine (fv u h).mono (fun _ z => z) fun a o n e => ?_
        rw [upd_ne fun z => n (.inr z)]
        exact k2 _ _ e fun z => n (.inl z)
      · rw [List.mem_singleton.mp h]
        obtain ⟨d, sd, gd, pd⟩ := dv
        refine ⟨d, sd.mono (fun a z => ?_) (fun a o n e => ?_), gd, pd⟩
        · rcases z with z | z
          · rw [z]
            exact bG.some
          · rw [z, eD]
            simp
        · have nab : a ≠ D := fun z => n (by
            rw [z, eD]
            simp)
          rw [upd_ne nab]
          exact e
    · rintro G ⟨kG, bG, pG, vs, eD, lv, fv⟩
      have lv : vs.length = 40 := lv
      -- both together
      refine ⟨p, D, _, vs, rfl, rfl, pG, eD, by rw [List.length_map]; exact tiny (by omega), fun N1 n1 => ?_⟩
      obtain ⟨s1, f1, u1⟩ := grow (o := .lst (ys.map V.str ++ vs)) n1
      have kg1 := kG.trans (keptS s1)
      have fv1 : ∀ v ∈ vs, Fine (upd G N1 (.lst (ys.map V.str ++ vs))) (fun _ => False) v := fun v h => (fv v h).mono (fun _ z => z.elim) fun a o _ e => s1 _ _ e
      generalize upd G N1 (.lst (ys.map V.str ++ vs)) = G1 at s1 f1 u1 kg1 fv1 ⊢
      -- the last three
      refine ⟨len_le (n := 1) (by decide) rfl, fun t1 n2 => ?_⟩
      obtain ⟨s2, f2, u2⟩ := grow (o := .tup [.str "box"]) n2
      generalize upd G1 t1 (.tup [.str "box"]) = G2 at s2 f2 u2 ⊢
      refine ⟨len_le (n := 1) (by decide) rfl, fun l1 n3 m3 => ?_⟩
      obtain ⟨s3, f3, u3⟩ := grow (o := .lst [.str "box"]) n3
      generalize upd G2 l1 (.lst [.str "box"]) = G3 at s3 f3 u3 ⊢
      intro d1 n4
      refine ⟨upd_same, [(Sum.inr "box", .int 1)], rfl, by decide, ?_⟩
      rw [upd_upd]
      obtain ⟨s4, f4, u4⟩ := grow (o := .dK [(Sum.inr "box", .int 1)]) n4
      show tNil _ (upd G3 d1 (.dK [(Sum.inr "box", .int 1)])) _
      generalize upd G3 d1 (.dK [(Sum.inr "box", .int 1)]) = G4 at s4 f4 u4 ⊢
      refine ⟨len_le (n := 3) (by decide) rfl, fun M n5 => ?_⟩
      obtain ⟨s5, f5, u5⟩ := grow (o := .lst [.ref t1, .ref l1, .ref d1]) n5
      show rCat _ (.ref M) (upd G4 M (.lst [.ref t1, .ref l1, .ref d1])) _
      generalize upd G4 M (.lst [.ref t1, .ref l1, .ref d1]) = G5 at s5 f5 u5 ⊢
      have s15 : Same G1 G5 := s2.trans (s3.trans (s4.trans s5))
      refine ⟨N1, M, _, _, rfl, rfl, s15 _ _ f1, f5, ?_, fun N2 n6 => ?_⟩
      · rw [List.length_append, List.length_map]
        exact tiny (by show ys.length + vs.length + 3 ≤ 1000; omega)
      obtain ⟨s6, f6, u6⟩ := grow (o := .lst ((ys.map V.str ++ vs) ++ [.ref t1, .ref l1, .ref d1])) n6
      generalize upd G5 N2 (.lst ((ys.map V.str ++ vs) ++ [.ref t1, .ref l1, .ref d1])) = G6 at s6 f6 u6 ⊢
      have kg6 : Kept b H G6 := kg1.trans (keptS (s15.trans s6))
      have all : ∀ v ∈ (ys.map V.str ++ vs) ++ [.ref t1, .ref l1, .ref d1], Fine G6 (fun _ => False) v := by
        intro v hv
        rcases List.mem_append.mp hv with hv | hv
        · rcases List.mem_append.mp hv with hv | hv
          · obtain ⟨y, hy, rfl⟩ := List.mem_map.mp hv
            exact fine_str (oy y hy)
          · exact (fv1 v hv).mono (fun _ z => z.elim) fun a o _ e => (s15.trans s6) _ _ e
        · simp only [List.mem_cons, List.not_mem_nil, or_false] at hv
          have bx : Good 0 (.str (Str.ofString "box")) := Good.str (by decide +kernel) (by decide +kernel)
          rcases hv with h | h | h <;> subst h
          · exact ⟨_, .tup ((s3.trans (s4.trans (s5.trans s6))) _ _ f2) id (.cons (.str _) .nil), bx.tup1.le (by decide), trivial⟩
          · exact ⟨_, .lst ((s4.trans (s5.trans s6)) _ _ f3) id m3 (.cons (.str _) .nil), bx.list1.le (by decide), trivial⟩
          · exact ⟨_, .dic1 ((s5.trans s6) _ _ f4) id (.int 1), ⟨by decide +kernel, by decide +kernel, by decide +kernel⟩, trivial⟩
      generalize (ys.map V.str ++ vs) ++ [.ref t1, .ref l1, .ref d1] = zs at f6 all ⊢
      clear fv1 fv s1 s2 s3 s4 s5 f1 f2 f3 f4 f5 u1 u2 u3 u4 u5 u6 n1 n2 n3 n4 n5 n6 s15
      refine ⟨N2, rfl, ⟨_, SqL.of f6⟩, for_list (K := K) (a := N2) (xs := zs) (fun i σ G' => Same G6 G' ∧ ∃ y1 y2 y3, σ = [some (.ref b), y1, y2, y3, none])
        ⟨Same.refl _, none, none, none, rfl⟩ (fun i σ G' _ h => h.1.seq (SqL.of f6)) ?_ ?_⟩
      · rintro i x σ G' hi ⟨sG, y1, y2, y3, rfl⟩
        obtain ⟨d, sd, gd, pd⟩ := all x (List.mem_of_getElem? hi)
        have sh : ∀ {G'' : Hp}, Same G' G'' → Sh G'' (fun _ => False) x d := fun {G''} z => sd.mono (fun _ z => z.elim) fun a o _ e => z _ _ (sG _ _ e)
        -- kept, due
        refine ⟨x, rfl, x, d, _, 12, rfl, sh (Same.refl _), gd, by decide, x, rfl, x, d, _, rfl, sh (Same.refl _), pd, fun G2 s2 => ⟨_, _, rfl, ?_⟩⟩
        -- repr([is_name(thing), is_name(value=thing)])
        refine ⟨x, rfl, x, d, _, rfl, sh s2, pd, fun G3 s3 => ?_⟩
        refine ⟨x, rfl, x, d, _, rfl, sh (s2.trans s3), pd, fun G4 s4 => ?_⟩
        refine ⟨len_le (n := 2) (by decide) rfl, fun p1 x1 m1 => ?_⟩
        have t1 := same_upd (o := .lst [.bl (nmV x), .bl (nmV x)]) x1
        refine ⟨.ref p1, _, fun _ => False, 12, rfl, .lst upd_same id m1 (.cons (.bl _) (.cons (.bl _) .nil)), good_two _ _, by decide, ?_⟩
        -- repr([due, due])
        refine ⟨.bl (nmV x), rfl, .bl (nmV x), rfl, len_le (n := 2) (by decide) rfl, fun p2 x2 m2 => ?_⟩
        have t2 := same_upd (o := .lst [.bl (nmV x), .bl (nmV x)]) x2
        refine ⟨.ref p2, _, fun _ => False, 12, rfl, .lst upd_same id m2 (.cons (.bl _) (.cons (.bl _) .nil)), good_two _ _, by decide, ?_⟩
        have s5 : Same G' (upd (upd G4 p1 (.lst [.bl (nmV x), .bl (nmV x)])) p2 (.lst [.bl (nmV x), .bl (nmV x)])) := s2.trans (s3.trans (s4.trans (t1.trans t2)))
        refine ⟨rfl, _, rfl, ?_⟩
        refine ite2 (fun e => ?_) (fun _ => ?_)
        · simp at e
        -- repr(thing) != kept
        · refine ⟨x, rfl, x, d, _, 12, rfl, sh s5, gd, by decide, _, rfl, rfl, _, rfl, ?_⟩
          refine ite2 (fun e => ?_) (fun _ => ?_)
          · simp at e
          · exact ⟨sG.trans s5, _, _, _, rfl⟩
      · rintro σ G' ⟨sG, y1, y2, y3, rfl⟩
        exact q G' (kg6.trans (keptS sG))
end
end K1
namespace K1
open PySem PySem.Spec PyProof.Rows L2

theorem scLaw : FnScope ["_law_script", "_law_k"] ["_law_script"] (defScope sLaw) :=
  ⟨rfl, rfl, rfl, by decide +kernel, rfl, by decide +kernel, by decide +kernel⟩
def spLaw (K : PySem.W.Frag) : Sp := fun vs H Q _ => ∃ (a : Addr) (ns : List Int), vs = [.ref a] ∧ SqL K H a (ns.map V.int) ∧ ns.length ≤ 63 ∧ ∀ H', Q (.bl true) H'

section
variable {P : Program} {w : World} {K : PySem.W.Frag} {mg : Str → Option Value} {base : Heap}

theorem ok_law {f fB fR : Addr} {fd fdB fdR : FuncData} (F : Fun K "law" "law" sLaw f fd) (Z : Bare mg)
    (FB : Fun K "_law_box" "_law_box" sBox fB fdB) (bB : Binds K fdB ["_law_script", "_law_k"] []) (gB : mg "_law_box" = some (.ref fB))
    (FR : Fun K "_law_right" "_law_right" sRight fR fdR) (bR : Binds K fdR ["_law_box_here"] []) (gR : mg "_law_right" = some (.ref fR))
    (GR : FnG P w K mg base 4 fR fdR ["_law_box_here"] spRight) : FnG P w K mg base 5 f fd ["_law_script"] (spLaw K) := by
  have GB : FnOk P w K mg base CX0 1 fB fdB ["_law_script", "_law_k"] (spBox K) := ok_box FB Z
  refine FnG.mk' F scLaw (fun vs H Q E h => ?_) (fun cdv A outer s H vs Q E hG hr h => ?_)
  · obtain ⟨a, ns, rfl, _⟩ := h
    rfl
  · obtain ⟨a, ns, rfl, hS, hl, q⟩ := h
    have hr1 : Room 1 _ := hr.mono (by decide)
    refine ⟨_, pss_one (ps_ret (pe_callB (cr_all rfl) (by rfl) Z.all (by decide +kernel) (pa_cons
      (pe_lc (own := [("_law_k", 1)]) (g := gName 1) (tt := tYes) rfl scLaw.nd
        (pi_range1 (by rfl) Z.range (pa_cons (pe_callB (call_max2 rfl) (by rfl) Z.max (by decide +kernel) (pa_cons pe_int
          (pa_cons (pe_callB (call_min2 rfl) (by rfl) Z.min (by decide +kernel) (pa_cons pe_int
            (pa_cons (pe_callB call_len_seq (by rfl) Z.len PySem.boot_len (pa_cons (pv 0) pa_nil)) pa_nil))) pa_nil))) pa_nil))
        (blkOk_by (N := ["_law_script", "_law_k"]) (sc := defScope sLaw) (by decide +kernel))
        (fun _ _ _ _ _ => pg_name (i := 1) scLaw.nd rfl (Or.inl rfl)) (fun _ _ _ _ _ => pts_nil)
        (fun _ _ _ _ _ => pe_callG GR hG hr (by rfl) gR FR.kp bR pass0
          (pa_cons (pe_call GB hr1 (by rfl) gB FB.kp bB .nil pass0 (pa_cons (pv 0) (pa_cons (pv 1) pa_nil))) pa_nil))) pa_nil))), ?_⟩
    refine ⟨.ref a, rfl, a, _, rfl, .inl hS, _, _, rfl, _, _, rfl, _, rfl, ?_⟩
    rw [List.length_map]
    generalize hn : (if (if (ns.length : Int) < 3 then (ns.length : Int) else 3) > 1 then (if (ns.length : Int) < 3 then (ns.length : Int) else 3) else 1) = n
    have n0 : 1 ≤ n ∧ n ≤ 3 := by
      rw [← hn]
      split <;> split <;> omega
    refine ⟨by omega, by omega, fun D nD => ?_⟩
    refine lc_range (lo := 0) (n := n.toNat) (fun j G => Same H G ∧ G D = some (.lst (List.replicate j (.bl true)))) ?_ ?_ ?_
    · exact ⟨same_upd nD, upd_same⟩
    · rintro j G hj ⟨sG, eD⟩
      refine ⟨rfl, ?_⟩
      refine ⟨.ref a, rfl, .int (0 + j), rfl, a, ns, 0 + j, rfl, sG.seq hS, by omega, by omega, fun G1 p s1 np bp => ?_⟩
      have nDp : D ≠ p := fun e => by
        rw [← e, eD] at np
        cases np
      refine ⟨p, rfl, bp, fun G2 k2 => ?_⟩
      have eD2 : G2 D = some (.lst (List.replicate j (.bl true))) := k2 _ _ (s1 _ _ eD) nDp
      refine ⟨_, eD2, ?_, fun b o e => ?_, ?_⟩
      · rw [List.length_replicate]
        exact small1000 (by omega)
      · rw [upd_ne (ne_of_none e nD)]
        refine k2 _ _ (s1 _ _ (sG _ _ e)) fun z => ?_
        rw [z] at e
        have e2 := sG _ _ e
        rw [np] at e2
        cases e2
      · rw [upd_same, List.replicate_succ']
    · rintro G ⟨sG, eD⟩
      refine ⟨D, List.replicate n.toNat true, rfl, ?_, ?_⟩
      · refine SqL.of ?_
        rw [eD, List.map_replicate]
      · have e : (List.replicate n.toNat true).all id = true := by
          simp
        rw [e]
        exact q G
end
end K1
namespace K1
open PySem PySem.Spec PyProof.Rows L2

section
variable {P : Program} {w : World} {K : PySem.W.Frag} {mg mb : Str → Option Value} {k : Nat} {fa a : Addr} {fd : FuncData} {x : Str} {sp : Sp}
  {s₁ : Shared} {vs : List Value} {ns : List Int}

/-- the law's call from an abstract heap that tracks the script alone, or nothing -/
theorem from_heap (KX : K.In s₁.heap) (hns : s₁.heap.Ns mainGlobals mg) (hb : s₁.heap.Ns builtinsNs mb)
    (hbb : ∀ y : Str, y ≠ "__name__" → mb y = bootBuiltins y) (nol : s₁.heap.NoLimit) (gens : s₁.gens = #[])
    (obj : s₁.heap.get? a = some { cls := .type "list", data := .seq vs.toArray }) (room : Room k callerA)
    (F : ∀ base : Heap, K.In base → base.Ns mainGlobals mg → FnG P w K mg base k fa fd [x] sp)
    (bd : ∀ (s : Shared) (u : Value), BindsTo s fd ⟨[u], []⟩ [(x, u)]) (H : Hp)
    (only : ∀ b, H b = none ∨ (b = a ∧ K.lookup a = none ∧ ∃ o xs, H b = some (.frz o (.lst xs)))) (ok : HOk P w H s₁.heap)
    (want : sp [.ref a] H (fun v _ => v = .bl true) fun _ _ _ => False) :
    codeAny (model P w) callerA (.call (.ref fa) ⟨[.ref a], []⟩)
      (fun r s' => r = .ok (.ret (.bool true)) ∧ OldK s₁.heap s'.heap ∧ s'.os = s₁.os ∧ AllBare s'.gens) s₁ := by
  -- what stands in the heap and is not tracked stands in the base, too
  have stay : ∀ {b : Addr} {o : Obj}, s₁.heap.get? b = some o → H b = none → (hidT s₁.heap H).get? b = some o := fun h n => hidT_get h n
  have dict : ∀ {b : Addr} {o : Obj} {es : Array DictEntry} {ep : Nat}, s₁.heap.get? b = some o → o.data = .dict es ep → H b = none := by
    intro b o es ep h d
    rcases only b with z | ⟨rfl, _⟩
    · exact z
    · rw [obj] at h
      cases h
      exact absurd d (by intro q; cases q)
  have names : ∀ {b : Addr} {m : Str → Option Value}, s₁.heap.Ns b m → (hidT s₁.heap H).Ns b m := by
    rintro b m ⟨o, es, ep, h, d, r⟩
    exact ⟨o, es, ep, stay h (dict h d), d, r⟩
  have kin : K.In (hidT s₁.heap H) := fun b o h => by
    refine stay (KX b o h) ?_
    rcases only b with z | ⟨rfl, n, _⟩
    · exact z
    · rw [n] at h
      cases h
  obtain ⟨mc, c1, c2⟩ := nol
  have mod : Mod K mg (hidT s₁.heap H) := ⟨kin, names hns, ⟨mb, names hb, hbb⟩, ⟨mc, names c1, c2⟩⟩
  have e0 : Env0 P w K mg (hidT s₁.heap H) callerA [] s₁ H := by
    refine ⟨rfl, mod, fun b o h => of_hidT h, Nat.le_of_eq (hidT_size _ _), trivial, fun b h => ?_, ok, .of_eq gens⟩
    exact absurd (show b ∈ ([] : List Addr) from h) List.not_mem_nil
  refine codeAny_mono ((F _ kin (names hns)).run callerA [] s₁ H ⟨[.ref a], []⟩ [.ref a] [.ref a] _ _ rfl room e0
    (bd s₁ (.ref a)) (.cons rfl .nil) want) ?_
  rintro (⟨e⟩ | ⟨fl⟩) s' h
  · exact False.elim h
  · rcases fl with _ | _ | _ | u
    · exact False.elim h
    · exact False.elim h
    · exact False.elim h
    · obtain ⟨v, H', os, bare, un, ok', r', q⟩ := h
      obtain rfl : v = .bl true := q
      obtain rfl : u = Value.bool true := r'
      refine ⟨rfl, OldK.of_keep fun b o h => ?_, os, bare⟩
      rcases only b with z | ⟨rfl, _, ob, xs, z⟩
      · exact un.keep b o h z (fun y => absurd (show b ∈ ([] : List Addr) from y) List.not_mem_nil) List.not_mem_nil
      · have z2 := un.frzs b ob _ z
        obtain ⟨e1, _⟩ := ok b _ z
        obtain ⟨e2, _⟩ := ok' b _ z2
        rw [h] at e1
        cases e1
        exact e2

/-- the same from the script alone -/
theorem from_script (KX : K.In s₁.heap) (hns : s₁.heap.Ns mainGlobals mg) (hb : s₁.heap.Ns builtinsNs mb)
    (hbb : ∀ y : Str, y ≠ "__name__" → mb y = bootBuiltins y) (nol : s₁.heap.NoLimit) (gens : s₁.gens = #[])
    (obj : s₁.heap.get? a = some { cls := .type "list", data := .seq vs.toArray }) (nums : IntsAre vs ns) (len : ns.length ≤ sizeLine)
    (room : Room k callerA) (F : ∀ base : Heap, K.In base → base.Ns mainGlobals mg → FnG P w K mg base k fa fd [x] sp)
    (bd : ∀ (s : Shared) (u : Value), BindsTo s fd ⟨[u], []⟩ [(x, u)])
    (want : ∀ H : Hp, SqL K H a (ns.map V.int) → sp [.ref a] H (fun v _ => v = .bl true) fun _ _ _ => False) :
    codeAny (model P w) callerA (.call (.ref fa) ⟨[.ref a], []⟩)
      (fun r s' => r = .ok (.ret (.bool true)) ∧ OldK s₁.heap s'.heap ∧ s'.os = s₁.os ∧ AllBare s'.gens) s₁ := by
  have rel := vals_ints nums
  have size := nums.length
  cases kl : K.lookup a with
  | some o =>
    have e := KX a o kl
    rw [obj] at e
    cases e
    refine from_heap KX hns hb hbb nol gens obj room F bd (fun _ => none) (fun b => .inl rfl) (fun b u z => by cases (show (none : Option HO) = some u from z))
      (want _ (.inr ⟨_, vs.toArray, _, kl, rfl, rfl, rfl, ?_, by simpa using rel⟩))
    rw [List.size_toArray, size]
    exact len
  | none =>
    refine from_heap KX hns hb hbb nol gens obj room F bd
      (fun b => if b = a then some (.frz { cls := .type "list", data := .seq vs.toArray } (.lst (ns.map V.int))) else none) (fun b => ?_) (fun b u z => ?_)
      (want _ (.inl (.inr ⟨{ cls := .type "list", data := .seq vs.toArray }, if_pos rfl⟩)))
    · by_cases h : b = a
      · exact .inr ⟨h, kl, _, _, if_pos h⟩
      · exact .inl (if_neg h)
    · by_cases h : b = a
      · have z2 := (if_pos h).symm.trans z
        cases z2
        subst h
        exact ⟨obj, by rw [List.length_map]; exact len, vs, _, rel, obj⟩
      · have z2 := (if_neg h).symm.trans z
        cases z2
end

theorem walkG {l : PySem.W.OpenLaw} {n k : Nat} {q : Program} {loose : List Str} {XP : (Str → Option Value) → Heap → Prop}
    {YP : World → Heap → Prop} {d : DefRec} {K : Params → PySem.W.Frag} {sp : PySem.W.Frag → Sp} {x : Str}
    (most : l.most = some n) (small : n ≤ sizeLine) (plain : d.params.defaults = []) (room : Room k callerA)
    (hY : ∀ (w : World) (h : Heap), YP w h → (K w.params).In h)
    (F : ∀ (w : World) (mg : Str → Option Value) (fa : Addr) (h : Heap), (K w.params).In h → h.Ns mainGlobals mg → mg d.name = some (.ref fa) →
      ∃ fd : FuncData, (∀ (s : Shared) (u : Value), BindsTo s fd ⟨[u], []⟩ [(x, u)]) ∧
        ∀ base : Heap, (K w.params).In base → base.Ns mainGlobals mg → FnG l.prog w (K w.params) mg base k fa fd [x] (sp (K w.params)))
    (want : ∀ (K : PySem.W.Frag) (H : Hp) (a : Addr) (ns : List Int), ns.length ≤ n → SqL K H a (ns.map V.int) →
      sp K [.ref a] H (fun v _ => v = .bl true) fun _ _ _ => False) :
    PySem.W.WalkO q loose XP YP l.row.toRowW d [] (fun f vs => PySem.call f vs) := by
  refine Att.attach_call most plain fun w s₀ s₁ mg mb fa o pm cd doc a vs ns G Y ho hd hcd hmg obj nums len gens => ?_
  have KX := hY w _ Y
  obtain ⟨fd, bd, FF⟩ := F w mg fa _ KX G.T.g hmg
  exact from_script KX G.T.g G.T.b G.T.builtins G.T.nolimit gens obj nums (Nat.le_trans len small) room FF bd fun H hS => want _ H a ns len hS

/-- the values are just these texts -/
def strsAre : List Value → List Str → Bool
  | [], [] => true
  | v :: vs, x :: xs => Value.isStrOf x v && strsAre vs xs
  | _, _ => false
theorem strsAre_vals : ∀ {vs : List Value} {xs : List Str}, strsAre vs xs = true → Vals (xs.map V.str) vs
  | [], [], _ => .nil
  | v :: vs, x :: xs, h => by
    simp only [strsAre, Bool.and_eq_true] at h
    obtain ⟨t, e⟩ := Value.isStrOf_shape h.1
    exact .cons ⟨t, e⟩ (strsAre_vals h.2)
  | [], _ :: _, h => by cases h
  | _ :: _, [], h => by cases h

/-! ### what the top has written -/
theorem all_mk {l : PySem.W.OpenLaw} {w : World} {K : PySem.W.Frag} {h : Heap} {mg : Str → Option Value} {fa : Addr} (X : K.In h)
    (G : h.Ns mainGlobals mg) (hfa : mg "law" = some (.ref fa)) {f4 f6 f7 f8 f9 f10 f11 f12 f13 pw : Addr}
    {od4 od6 od7 od8 od9 od10 od11 od12 od13 odw an4 an6 an7 an8 an9 an10 an11 an12 an13 : Option Addr}
    {sl4 sl6 sl7 sl8 sl9 sl10 sl11 sl12 sl13 slw : Array (Option Value)}
    {oc4 oc6 oc7 oc8 oc9 oc10 oc11 oc12 oc13 kV4 kV6 kV7 kV8 kV9 kV10 kV11 kV12 kV13 dc4 dc6 dc7 dc8 dc9 dc10 dc11 dc12 dc13 : Value}
    {pm4 pm6 pm7 pm8 pm9 pm10 pm11 pm12 pm13 cd4 cd6 cd7 cd8 cd9 cd10 cd11 cd12 cd13 ct4 ct6 ct7 ct8 ct9 ct10 ct11 ct12 ct13 : Value}
    {tl tn : Tok} {its : Array Value} {nw : Nat}
    (a4 : PySem.W.nsIn K mainGlobals "is_name" = some (some (.ref f4)))
    (l4 : K.lookup f4 = some ⟨oc4, od4, .func (PySem.W.fnOf "is_name" "is_name" (defArgs sIs) (defBody sIs) (defScope sIs) .none kV4 dc4 pm4 an4 cd4 ct4), sl4⟩)
    (c4 : PySem.W.codeIn K cd4 "is_name" = true) (k4 : PySem.W.keepIn K (.ref f4) = true)
    (a6 : PySem.W.nsIn K mainGlobals "_law_box" = some (some (.ref f6)))
    (l6 : K.lookup f6 = some ⟨oc6, od6, .func (PySem.W.fnOf "_law_box" "_law_box" (defArgs sBox) (defBody sBox) (defScope sBox) .none kV6 dc6 pm6 an6 cd6 ct6), sl6⟩)
    (c6 : PySem.W.codeIn K cd6 "_law_box" = true) (k6 : PySem.W.keepIn K (.ref f6) = true)
    (a7 : PySem.W.nsIn K mainGlobals "_law_take" = some (some (.ref f7)))
    (l7 : K.lookup f7 = some ⟨oc7, od7, .func (PySem.W.fnOf "_law_take" "_law_take" (defArgs sTake) (defBody sTake) (defScope sTake) .none kV7 dc7 pm7 an7 cd7 ct7), sl7⟩)
    (c7 : PySem.W.codeIn K cd7 "_law_take" = true) (k7 : PySem.W.keepIn K (.ref f7) = true)
    (a8 : PySem.W.nsIn K mainGlobals "_law_of" = some (some (.ref f8)))
    (l8 : K.lookup f8 = some ⟨oc8, od8, .func (PySem.W.fnOf "_law_of" "_law_of" (defArgs sOf) (defBody sOf) (defScope sOf) .none kV8 dc8 pm8 an8 cd8 ct8), sl8⟩)
    (c8 : PySem.W.codeIn K cd8 "_law_of" = true) (k8 : PySem.W.keepIn K (.ref f8) = true)
    (a9 : PySem.W.nsIn K mainGlobals "_law_any" = some (some (.ref f9)))
    (l9 : K.lookup f9 = some ⟨oc9, od9, .func (PySem.W.fnOf "_law_any" "_law_any" (defArgs sAny) (defBody sAny) (defScope sAny) .none kV9 dc9 pm9 an9 cd9 ct9), sl9⟩)
    (c9 : PySem.W.codeIn K cd9 "_law_any" = true) (k9 : PySem.W.keepIn K (.ref f9) = true)
    (a10 : PySem.W.nsIn K mainGlobals "_law_is_name" = some (some (.ref f10)))
    (l10 : K.lookup f10 = some ⟨oc10, od10, .func (PySem.W.fnOf "_law_is_name" "_law_is_name" (defArgs sOwn) (defBody sOwn) (defScope sOwn) .none kV10 dc10 pm10 an10 cd10 ct10), sl10⟩)
    (c10 : PySem.W.codeIn K cd10 "_law_is_name" = true) (k10 : PySem.W.keepIn K (.ref f10) = true)
    (a11 : PySem.W.nsIn K mainGlobals "_law_words" = some (some (.ref f11)))
    (l11 : K.lookup f11 = some ⟨oc11, od11, .func (PySem.W.fnOf "_law_words" "_law_words" (defArgs sWords) (defBody sWords) (defScope sWords) .none kV11 dc11 pm11 an11 cd11 ct11), sl11⟩)
    (c11 : PySem.W.codeIn K cd11 "_law_words" = true) (k11 : PySem.W.keepIn K (.ref f11) = true)
    (a12 : PySem.W.nsIn K mainGlobals "_law_right" = some (some (.ref f12)))
    (l12 : K.lookup f12 = some ⟨oc12, od12, .func (PySem.W.fnOf "_law_right" "_law_right" (defArgs sRight) (defBody sRight) (defScope sRight) .none kV12 dc12 pm12 an12 cd12 ct12), sl12⟩)
    (c12 : PySem.W.codeIn K cd12 "_law_right" = true) (k12 : PySem.W.keepIn K (.ref f12) = true)
    (a13 : PySem.W.nsIn K mainGlobals "law" = some (some (.ref f13)))
    (l13 : K.lookup f13 = some ⟨oc13, od13, .func (PySem.W.fnOf "law" "law" (defArgs sLaw) (defBody sLaw) (defScope sLaw) .none kV13 dc13 pm13 an13 cd13 ct13), sl13⟩)
    (c13 : PySem.W.codeIn K cd13 "law" = true) (k13 : PySem.W.keepIn K (.ref f13) = true)
    (gL : PySem.W.nsIn K mainGlobals "LETTERS" = some (some (.str letters tl)))
    (gN : PySem.W.nsIn K mainGlobals "LONGEST_NAME" = some (some (.int 12 tn)))
    (gW : PySem.W.nsIn K mainGlobals "WORDS" = some (some (.ref pw)))
    (lW : K.lookup pw = some ⟨.type "tuple", odw, .seq its nw, slw⟩) (vW : strsAre its.toList shut = true)
    (z1 : PySem.W.nsIn K mainGlobals "len" = some none) (z2 : PySem.W.nsIn K mainGlobals "abs" = some none)
    (z3 : PySem.W.nsIn K mainGlobals "int" = some none) (z4 : PySem.W.nsIn K mainGlobals "isinstance" = some none)
    (z5 : PySem.W.nsIn K mainGlobals "str" = some none) (z6 : PySem.W.nsIn K mainGlobals "all" = some none)
    (z7 : PySem.W.nsIn K mainGlobals "range" = some none) (z8 : PySem.W.nsIn K mainGlobals "list" = some none)
    (z9 : PySem.W.nsIn K mainGlobals "repr" = some none) (z10 : PySem.W.nsIn K mainGlobals "max" = some none)
    (z11 : PySem.W.nsIn K mainGlobals "min" = some none) :
    ∃ fd : FuncData, (∀ (s : Shared) (v : Value), BindsTo s fd ⟨[v], []⟩ [("_law_script", v)]) ∧
      ∀ base : Heap, K.In base → base.Ns mainGlobals mg → FnG l.prog w K mg base 5 fa fd ["_law_script"] (spLaw K) := by
  have e := hfa.symm.trans (PySem.W.mg_of X G a13)
  cases e
  have non : ∀ {y : Str}, PySem.W.nsIn K mainGlobals y = some none → mg y = none := fun z => PySem.W.mg_none_of X G z
  have Z : Bare mg := ⟨non z1, non z2, non z3, non z4, non z5, non z6, non z7, non z8, non z9, non z10, non z11⟩
  have rW := strsAre_vals vW
  have sW : its.size ≤ sizeLine := by
    have n := rW.length
    clear n
    rw [show its.size = its.toList.length from Array.length_toList.symm, ← rW.length, List.length_map]
    decide
  have C : Cons K mg := ⟨⟨tl, PySem.W.mg_of X G gL⟩, ⟨tn, PySem.W.mg_of X G gN⟩, ⟨pw, PySem.W.mg_of X G gW, fun H => .inr ⟨_, its, nw, lW, rfl, rfl, sW, rW⟩⟩⟩
  have F4 := fun_mk (st := sIs) l4 c4 k4
  have F6 := fun_mk (st := sBox) l6 c6 k6
  have F7 := fun_mk (st := sTake) l7 c7 k7
  have F8 := fun_mk (st := sOf) l8 c8 k8
  have F9 := fun_mk (st := sAny) l9 c9 k9
  have F10 := fun_mk (st := sOwn) l10 c10 k10
  have F11 := fun_mk (st := sWords) l11 c11 k11
  have F12 := fun_mk (st := sRight) l12 c12 k12
  have F13 := fun_mk (st := sLaw) l13 c13 k13
  have b4 := F4.binds (ps := ["value"]) fun _ _ _ _ _ _ us hl => match us, hl with | [_], _ => rfl
  have b6 := F6.binds (ps := ["_law_script", "_law_k"]) fun _ _ _ _ _ _ us hl => match us, hl with | [_, _], _ => rfl
  have b7 := F7.binds (ps := ["_law_box_here", "_law_many"]) fun _ _ _ _ _ _ us hl => match us, hl with | [_, _], _ => rfl
  have b8 := F8.binds (ps := ["_law_box_here", "_law_some"]) fun _ _ _ _ _ _ us hl => match us, hl with | [_, _], _ => rfl
  have b9 := F9.binds (ps := ["_law_box_here"]) fun _ _ _ _ _ _ us hl => match us, hl with | [_], _ => rfl
  have b10 := F10.binds (ps := ["_law_word"]) fun _ _ _ _ _ _ us hl => match us, hl with | [_], _ => rfl
  have b11 := F11.binds (ps := ["_law_box_here"]) fun _ _ _ _ _ _ us hl => match us, hl with | [_], _ => rfl
  have b12 := F12.binds (ps := ["_law_box_here"]) fun _ _ _ _ _ _ us hl => match us, hl with | [_], _ => rfl
  have bk : ∀ (s : Shared) (u : Value), BindsTo s (PySem.W.fnOf "is_name" "is_name" (defArgs sIs) (defBody sIs) (defScope sIs) .none kV4 dc4 pm4 an4 cd4 ct4)
      ⟨[], [("value", u)]⟩ [("value", u)] := fun s u => .of_eq rfl
  have g4 := PySem.W.mg_of X G a4
  have g6 := PySem.W.mg_of X G a6
  have g7 := PySem.W.mg_of X G a7
  have g8 := PySem.W.mg_of X G a8
  have g9 := PySem.W.mg_of X G a9
  have g10 := PySem.W.mg_of X G a10
  have g11 := PySem.W.mg_of X G a11
  have g12 := PySem.W.mg_of X G a12
  refine ⟨PySem.W.fnOf "law" "law" (defArgs sLaw) (defBody sLaw) (defScope sLaw) .none kV13 dc13 pm13 an13 cd13 ct13, fun s v => .of_eq rfl, fun base _ _ => ?_⟩
  have G7 : FnOk l.prog w K mg base CX0 1 f7 _ ["_law_box_here", "_law_many"] spTake := ok_take F7
  have G8 : FnOk l.prog w K mg base CX0 2 f8 _ ["_law_box_here", "_law_some"] spOf := ok_of F8 F7 b7 g7 Z
  have G9 : FnOk l.prog w K mg base CX0 3 f9 _ ["_law_box_here"] spAny := ok_any F9 F8 b8 g8 Z G8
  have G10 : FnOk l.prog w K mg base CX0 1 f10 _ ["_law_word"] spName := ok_own F10 Z
  have G4 : FnOk l.prog w K mg base CX0 1 f4 _ ["value"] spName := ok_is F4 Z C
  have G11 : FnOk l.prog w K mg base CX0 3 f11 _ ["_law_box_here"] spWords := ok_words F11 F8 b8 g8 Z G8 F7 b7 g7 G7
  have G12 : FnG l.prog w K mg base 4 f12 _ ["_law_box_here"] spRight :=
    ok_right F12 Z F11 b11 g11 G11 F9 b9 g9 G9 F10 b10 g10 G10 F4 b4 g4 bk G4
  exact ok_law F13 Z F6 b6 g6 F12 b12 g12 G12
end K1
open PySem PySem.W PyProof.Rows
set_option maxHeartbeats 0 in
theorem PySem.Challenge.cw_sourceback_k01_names_of_any_value_holds : PySem.Challenge.rw_sourceback_k01_names_of_any_value.Holds := by
  w_on; o_law; k_head; (case hw => w_witness2)
  k_fill
  refine K1.walkG (l := PySem.Challenge.rw_sourceback_k01_names_of_any_value) (n := 63) (k := 5) (x := "_law_script") (sp := fun K => K1.spLaw K) rfl (by decide) rfl ⟨rfl, by decide, by decide⟩ (fun w h Y => PySem.W.kIn_of Y) ?F (fun K H a ns hl hS => ⟨a, ns, rfl, hS, hl, fun _ => rfl⟩)
  case F =>
    intro w mg fa h KX G hmg
    refine' K1.all_mk KX G hmg ?a4 ?l4 ?c4 ?k4 ?a6 ?l6 ?c6 ?k6 ?a7 ?l7 ?c7 ?k7 ?a8 ?l8 ?c8 ?k8 ?a9 ?l9 ?c9 ?k9 ?a10 ?l10 ?c10 ?k10 ?a11 ?l11 ?c11 ?k11 ?a12 ?l12 ?c12 ?k12 ?a13 ?l13 ?c13 ?k13 ?gL ?gN ?gW ?lW ?vW ?z1 ?z2 ?z3 ?z4 ?z5 ?z6 ?z7 ?z8 ?z9 ?z10 ?z11
    (case a4 => k_is); (case l4 => k_is); (case c4 => k_is); (case k4 => k_is)
    (case a6 => k_is); (case l6 => k_is); (case c6 => k_is); (case k6 => k_is)
    (case a7 => k_is); (case l7 => k_is); (case c7 => k_is); (case k7 => k_is)
    (case a8 => k_is); (case l8 => k_is); (case c8 => k_is); (case k8 => k_is)
    (case a9 => k_is); (case l9 => k_is); (case c9 => k_is); (case k9 => k_is)
    (case a10 => k_is); (case l10 => k_is); (case c10 => k_is); (case k10 => k_is)
    (case a11 => k_is); (case l11 => k_is); (case c11 => k_is); (case k11 => k_is)
    (case a12 => k_is); (case l12 => k_is); (case c12 => k_is); (case k12 => k_is)
    (case a13 => k_is); (case l13 => k_is); (case c13 => k_is); (case k13 => k_is)
    (case gL => k_is); (case gN => k_is); (case gW => k_is); (case lW => k_is); (case vW => decide +kernel)
    (case z1 => k_is); (case z2 => k_is); (case z3 => k_is); (case z4 => k_is); (case z5 => k_is); (case z6 => k_is)
    (case z7 => k_is); (case z8 => k_is); (case z9 => k_is); (case z10 => k_is); (case z11 => k_is)
