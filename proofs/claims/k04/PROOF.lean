import PyProof.Rows.All
import Wide.All
import OpenK.AllK
import Wide.FinOn
import HandS.Base
import HandS.Call
import HandS.List
import HandS.Ends
import HandS.Words
import HandS.Comp
import HandS.Iter
import HandS.Dict
import HandS.ForMost
import HandS.Walk
import KE.GoesEnum
import HandS.SetFor
import HandS.Conv
import HandS.IsInst
import HandS.FStrTup
import HandS.TupSets
import HandS.Style
import PySem.Challenge.RW_nextmarks_k04_named_marks
set_option Elab.async false
set_option linter.all false
set_option maxRecDepth 100000
/-! The hand layer with one thing more that is known: no repr is under way. -/
namespace GL
open PySem PySem.Spec PyProof.Rows L2

/-- a def's promise, kept wherever no repr is under way -/
structure FnG (P : Program) (w : World) (K : PySem.W.Frag) (mg : Str → Option Value) (base : Heap)
    (k : Nat) (f : Addr) (fd : FuncData) (ps : List Str) (sp : Sp) : Prop where
  many : ∀ vs H Q E, sp vs H Q E → vs.length = ps.length
  does : ∀ (A : Around) (out : List Env) (s : Shared) (H : Hp) (ar : Args) (us : List Value) (vs : List V) (Q : VK) (E : XK),
    A.guards = some [] → Room k A → Env0 P w K mg base A out s H → BindsTo s fd ar (ps.zip us) → Vals vs us → sp vs H Q E →
    codeAny (model P w) A (.call (.ref f) ar) (CR CX0 out P w H s Q E) s

section
variable {P : Program} {w : World} {K : PySem.W.Frag} {mg : Str → Option Value} {base : Heap}

theorem FnG.of {k : Nat} {f : Addr} {fd : FuncData} {ps : List Str} {sp : Sp} (F : FnOk P w K mg base CX0 k f fd ps sp) :
    FnG P w K mg base k f fd ps sp :=
  ⟨F.len, fun A out s H ar us vs Q E _ => F.run A out s H ar us vs Q E⟩

/-- a def by its body, no repr under way -/
theorem funG {x qual : Str} {st : Stmt} {f : Addr} {fd : FuncData} {N ps : List Str} {k : Nat} {sp : Sp}
    (F : Fun K x qual st f fd) (S : FnScope N ps (defScope st)) (many : ∀ vs H Q E, sp vs H Q E → vs.length = ps.length)
    (body : ∀ (cdv : Value) (A : Around) (out : List Env) (s : Shared) (H : Hp) (vs : List V) (Q : VK) (E : XK),
      A.guards = some [] → Room k (A.deeper (envOfC qual (defScope st) s.heap.objs.size f cdv)) → sp vs H Q E →
      ∃ t, PSs (cxOf CX0 P w K mg base N qual (defScope st) f cdv A out s H E).nox (defBody st) t ∧
        t { nx := fun _ H' => Q .non H', rt := Q } (start N vs) H) :
    FnG P w K mg base (k + 1) f fd ps sp := by
  obtain ⟨oc, od, kV, doc, pm, an, cdv, ct, osl, rfl, lk, hcd⟩ := F.ex
  refine ⟨many, fun A out s H ar us vs Q E gu room e0 bi rel wish => ?_⟩
  have n0 := many _ _ _ _ wish
  have kin : K.In s.heap := e0.mod.kin.keeps fun b o e => (e0.bs b o e).1
  have nol : s.heap.NoLimit := e0.mod.nolimit.keeps fun b o e => (e0.bs b o e).1
  have kinds : ∀ y ∈ ps.zip us, (defScope st).names.lookup y.1 = some .local ∨ ((defScope st).names.lookup y.1 = some .cell ∧
      ((cellsFrom (s.heap.objs.size + 1) (defScope st).names []).lookup y.1).isSome = true) := by
    rintro ⟨n, v⟩ hy
    rcases S.par n (List.of_mem_zip hy).1 with q | q
    · exact Or.inl q
    · exact Or.inr ⟨q, PySem.W.cellsFrom_some _ _ _ (Or.inl q)⟩
  apply codeAny_call_function room.depth (kin _ _ lk) rfl S.co S.gen rfl (PySem.W.codeRec_of kin hcd)
  refine bi _ _ _ _ ?_
  refine wpAny_newFunctionEnv_cells S.kind kinds fun env he s1 ic => ?_
  subst he
  refine And.intro (nol.keeps ic.toInCall.keep) (codeAny_func ?_)
  obtain ⟨t, ht, hq⟩ := body cdv A out s H vs Q E gu (room.deeper _) wish
  have ht' := ht.nox
  have J0 : Inv (cxOf CX0 P w K mg base N qual (defScope st) f cdv A out s H E) [] (start N vs) H s1 :=
    inv_start S room.hd e0 n0 rel ic
  refine wpAny_mono (ht'.run [] s1 (start N vs) H _ J0 hq) (fun fl s' hs => ?_) (fun e s' hs => hs)
  cases fl with
  | ret u =>
    obtain ⟨v, σ', H', J, rv, q⟩ := hs
    exact ⟨v, H', J.os, J.bare, J.base, J.hok, rv, q⟩
  | next =>
    obtain ⟨σ', H', J, q⟩ := hs
    exact ⟨V.non, H', J.os, J.bare, J.base, J.hok, rfl, q⟩
  | brk =>
    obtain ⟨_, _, _, q⟩ := hs
    cases q
  | cont =>
    obtain ⟨_, _, _, q⟩ := hs
    cases q
end

section
variable {X : Cx} {k : Nat} {f : Addr} {fd : FuncData} {ps : List Str} {sp : Sp} {x : Str} {p pos : Pos} {e : Expr} {es : List Expr} {t : TA} {E : XK}

theorem runG {pins : List (Addr × Obj)} {σ : L2.St} {H : Hp} {s : Shared} {Q : VK} {us : List Value} {vs : List V}
    (F : FnG X.prog X.w X.K X.mg X.base k f fd ps sp) (gu : X.A.guards = some []) (room : Room k X.A) (hb : Binds X.K fd ps [])
    (I : Inv X pins σ H s) (r : Vals vs us) (h : sp vs H Q E) :
    wpAny (model X.prog X.w) X.A (call (.ref f) us) (EP X pins σ Q) X.xe s := by
  have nl : (us ++ []).length = ps.length := by
    rw [List.append_nil, ← r.length]
    exact F.many _ _ _ _ h
  have bi := hb s us I.kIn nl
  rw [List.append_nil] at bi
  apply wpAny_call
  refine codeAny_mono (F.does X.A X.stack s H ⟨us, []⟩ us vs Q E gu room I.env0 bi r h) fun res s' hq => ?_
  rcases res with e | fl
  · exact False.elim hq
  · rcases fl with _ | _ | _ | u
    all_goals first | exact False.elim hq | exact I.after hq

def tCallG (sp : Sp) (E : XK) (t : TA) : TE := fun σ H Q => t σ H fun vs H1 => sp vs H1 Q E
theorem callG (F : FnG X.prog X.w X.K X.mg X.base k f fd ps sp) (gu : X.A.guards = some []) (room : Room k X.A) (hg : Gl X x)
    (hm : X.mg x = some (.ref f)) (hk : PySem.W.keepIn X.K (.ref f) = true) (hb : Binds X.K fd ps [])
    (ha : PA X (e :: es) t) (hdb : (x == ("__debug__" : Str)) = false := by decide)
    (he : starEach (e :: es) X.env = (false, eval e X.env) :: starEach es X.env := by rfl)
    (hpl : (backTo pos (starEach es X.env)).any (·.1) = false := by rfl) :
    PE X (.Call (.Name x p) (e :: es) [] pos) (tCallG sp E t) := by
  constructor
  intro pins s σ H Q I h
  apply wpAny_Call_Name_kw
  refine ld_glob I hg hm ?_ hdb
  refine PySem.W.callWith_K (h₀ := X.base) I.ok.mod.kin hk ?_ he hpl
  refine thn (ha.run pos pins s σ H _ I h) ?_
  rintro us s1 ⟨vs, H1, I1, r, q⟩
  exact ⟨I1.kIn, runG F gu room hb I1 r q⟩

/-- repr of data, where no repr is under way -/
theorem reprG (gu : X.A.guards = some []) (hu : X.A.units + 64 < cLine) :
    CallR X (.builtin "repr") (fun xs H Q => ∃ a d, xs = [.ref a] ∧ Dp X.K H (.ref a) d ∧ d.showable = true ∧ d.hasDict = false ∧
      d.depth ≤ 20 ∧ d.shown.length ≤ sizeLine ∧ Q (.str d.shown) H) := by
  intro pins s σ H xs us Q I r h
  obtain ⟨a, d, rfl, dp, sh, nd, de, sz, q⟩ := h
  obtain ⟨u, rfl, rfl⟩ := vals1 r
  obtain ⟨as, rd⟩ := Dp.reads I d (.ref a) (.ref a) dp rfl
  refine repr_of_reads' (h₀ := s.heap) rd sh (PyData.noDict_hsm nd) gu (by omega) (fun _ _ z => z) ?_ sz
  intro h' u tk kp
  exact ⟨.str _, H, I.kept kp, ⟨_, rfl⟩, q⟩
/-- an expression, with a word of what it gives -/
def tCutE (te : TE) : TE := fun σ H Q => ∃ P : VK, te σ H P ∧ ∀ v H', P v H' → Q v H'
theorem pe_cut {te : TE} (h : PE X e te) : PE X e (tCutE te) := by
  constructor
  intro pins s σ H Q I h1
  obtain ⟨P, h2, h3⟩ := h1
  refine thn (h.run pins s σ H P I h2) ?_
  rintro u s1 ⟨v, H1, I1, r, q⟩
  exact ⟨v, H1, I1, r, h3 v H1 q⟩
/-- a statement, then the others, with a word between -/
def tMid (t u : TS) : TS := fun D σ H => ∃ M : L2.St → Hp → Prop, t { D with nx := M } σ H ∧ ∀ σ' H', M σ' H' → u D σ' H'
theorem pss_mid {st : Stmt} {more : List Stmt} {t u : TS} (a : PS X st t) (b : PSs X more u) : PSs X (st :: more) (tMid t u) := by
  constructor
  intro pins s σ H D I h
  obtain ⟨M, hm, hu⟩ := h
  apply wpAny_execs_cons
  refine thn (a.run pins s σ H { D with nx := M } I hm) ?_
  rintro (_ | _ | _ | u) s1 q
  · obtain ⟨σ', H', I', q⟩ := q
    exact b.run pins s1 σ' H' D I' (hu σ' H' q)
  all_goals exact q
theorem reprBool : CallR X (.builtin "repr") (fun xs H Q => ∃ b, xs = [.bl b] ∧ Q (.str (if b then "True" else "False")) H) := by
  intro pins s σ H xs us Q I r h
  obtain ⟨b, rfl, q⟩ := h
  obtain ⟨u, rfl, rfl⟩ := vals1 r
  exact PySem.P.repr_of_bool ⟨.str _, H, I.tok _, ⟨_, rfl⟩, q⟩
/-! the rules that speak of the written part, with that part by name (within comprehensions) -/
def rTupOf (K : PySem.W.Frag) : List V → Hp → VK → Prop := fun xs H Q => ∃ p ys, xs = [.ref p] ∧ ((SqL K H p ys ∧ ∀ l, H l = none → Q (.ref l) (upd H l (.tup ys))) ∨ (SqT K H p ys ∧ Q (.ref p) H))
theorem tupOfK {K : PySem.W.Frag} (hK : X.K = K := by rfl) : CallR X (.type "tuple") (rTupOf K) := by
  subst hK
  exact call_tuple_of
def rLstOf (K : PySem.W.Frag) : List V → Hp → VK → Prop := fun xs H Q => ∃ p ys, xs = [.ref p] ∧ (SqL K H p ys ∨ SqT K H p ys) ∧ ∀ l, H l = none → Q (.ref l) (upd H l (.lst ys))
theorem lstOfK {K : PySem.W.Frag} (hK : X.K = K := by rfl) : CallR X (.type "list") (rLstOf K) := by
  subst hK
  exact call_list_of
def rLen (K : PySem.W.Frag) : List V → Hp → VK → Prop := fun xs H Q => ∃ p ys, xs = [.ref p] ∧ (SqL K H p ys ∨ SqT K H p ys) ∧ Q (.int ys.length) H
theorem lenK {K : PySem.W.Frag} (hK : X.K = K := by rfl) : CallR X (.builtin "len") (rLen K) := by
  subst hK
  exact call_len_seq
theorem ixTupK {K : PySem.W.Frag} (hK : X.K = K := by rfl) : IxR X (rIxT K) := by
  subst hK
  exact ix_tup
theorem ixLstK {K : PySem.W.Frag} (hK : X.K = K := by rfl) : IxR X (rIxL K) := by
  subst hK
  exact ix_list
theorem inK {K : PySem.W.Frag} (hK : X.K = K := by rfl) : OpR X (compareOp .In) (rIn K false) := by
  subst hK
  exact op_in_seq
theorem piLstK {K : PySem.W.Frag} {tg l : Expr} {tl : TE} (h : PE X l tl) (hK : X.K = K := by rfl) : PI X tg l (iList K tl) := by
  subst hK
  exact pi_list h
theorem piTupK {K : PySem.W.Frag} {tg l : Expr} {tl : TE} (h : PE X l tl) (hK : X.K = K := by rfl) : PI X tg l (iTup K tl) := by
  subst hK
  exact pi_tup h
theorem piEnumK {K : PySem.W.Frag} {e : Expr} {ta : TA} {p pos tpos : Pos} {elts : List Expr} {kk : Nat} (hg : Gl X "enumerate") (hm : X.mg "enumerate" = none) (ha : PA X [e] ta)
    (hs : starEach [e] X.env = [(false, eval e X.env)] := by rfl) (hK : X.K = K := by rfl) : PI X (.Tuple elts kk tpos) (.Call (.Name "enumerate" p) [e] [] pos) (iEnum K ta) := by
  subst hK
  exact pi_enum hg hm ha hs
theorem pgTupK {K : PySem.W.Frag} {es : List Expr} {k : Nat} {pos : Pos} {t : TGs} {n : Nat} (hc : X.calm = true) (h : PGs X es t)
    (hn : (assignEach es X.env).length = n := by rfl) (hst : (assignEach es X.env).findIdx? (·.1) = none := by rfl) (hK : X.K = K := by rfl) : PG X (.Tuple es k pos) (gTup K n t) := by
  subst hK
  exact pg_tup hc h hn hst
end
/-- the scope of a comprehension -/
def lcSc : Expr → Scope
  | .ListComp _ _ sc _ => sc
  | _ => { kind := .function, names := [], isGenerator := false, isCoroutine := false }
/-- e of «return f(e)» -/
def retArg : Stmt → Expr
  | .Return (some (.Call _ (e :: _) _ _)) _ => e
  | _ => .Constant .none 0 ⟨0, 0, 0, 0⟩
end GL

namespace Nm
open PySem PySem.Spec PyProof.Rows L2 GL
/-! ### the text -/
def topS (i : Nat) : Stmt := PySem.Challenge.pw_nextmarks_k04_named_marks.main.body.getD i (.Pass ⟨0, 0, 0, 0⟩)
abbrev sPot : Stmt := topS 16
abbrev sTake : Stmt := topS 17
theorem scPot : FnScope ["_law_script", "_law_k", "_law_cell", "_law_great"] ["_law_script", "_law_k"] (defScope sPot) := ⟨rfl, rfl, rfl, by decide +kernel, rfl, by decide +kernel, by decide +kernel⟩
theorem scTake : FnScope ["_law_pot_here", "_law_size", "_law_digit", "_law_prime", "_law_mixed"] ["_law_pot_here", "_law_size"] (defScope sTake) := ⟨rfl, rfl, rfl, by decide +kernel, rfl, by decide +kernel, by decide +kernel⟩
/-! ### heaps -/
theorem same_upd {H : Hp} {p : Addr} {o : HO} (h : H p = none) : Same H (upd H p o) := fun b x e => by
  rw [upd_ne (ne_of_none e h)]
  exact e
/-- a pot: digits, a seed, a count of at most n -/
def Pot (H : Hp) (p : Addr) (n : Nat) : Prop := ∃ g s c : Int, H p = some (.lst [.int g, .int s, .int c]) ∧ 0 ≤ g ∧ 0 ≤ s ∧ s < 2305843009213693921 ∧ 0 ≤ c ∧ c ≤ n
/-- all but the pot is as it was -/
def Kp (p : Addr) (H H' : Hp) : Prop := ∀ b o, b ≠ p → H b = some o → H' b = some o
theorem Kp.refl (p : Addr) (H : Hp) : Kp p H H := fun _ _ _ h => h
theorem Kp.trans {p : Addr} {H H1 H2 : Hp} (a : Kp p H H1) (b : Kp p H1 H2) : Kp p H H2 := fun c o n h => b c o n (a c o n h)
theorem Kp.of {p : Addr} {H H' : Hp} (a : Same H H') : Kp p H H' := fun c o _ h => a c o h
theorem Kp.upd {p : Addr} {H : Hp} {o : HO} : Kp p H (upd H p o) := fun b x n e => by
  rw [upd_ne n]
  exact e
theorem Pot.same {H H' : Hp} {p : Addr} {n : Nat} (h : Pot H p n) (s : Same H H') : Pot H' p n := by
  obtain ⟨g, t, c, e, r⟩ := h
  exact ⟨g, t, c, s _ _ e, r⟩
theorem Pot.mono {H : Hp} {p : Addr} {m n : Nat} (h : Pot H p m) (l : m ≤ n) : Pot H p n := by
  obtain ⟨g, t, c, e, r1, r2, r3, r4, r5⟩ := h
  exact ⟨g, t, c, e, r1, r2, r3, r4, by omega⟩
theorem Kp.tup {p a : Addr} {H H' : Hp} {n : Nat} {xs : List V} (k : Kp p H H') (h : Pot H p n) (e : H a = some (.tup xs)) : H' a = some (.tup xs) := by
  obtain ⟨g, t, c, q, _⟩ := h
  exact k a _ (ne_of e q (by intro z; cases z)) e
theorem Kp.seq {K : PySem.W.Frag} {p a : Addr} {H H' : Hp} {xs : List V} (k : Kp p H H') (n : a ≠ p) (h : SqL K H a xs) : SqL K H' a xs := by
  rcases h with (h | ⟨o, h⟩) | h
  · exact .inl (.inl (k _ _ n h))
  · exact .inl (.inr ⟨o, k _ _ n h⟩)
  · exact .inr h
theorem Same.seqT {K : PySem.W.Frag} {H H' : Hp} {a : Addr} {xs : List V} (e : Same H H') (h : SqT K H a xs) : SqT K H' a xs := by
  rcases h with (h | ⟨o, h⟩) | h
  · exact .inl (.inl (e _ _ h))
  · exact .inl (.inr ⟨o, e _ _ h⟩)
  · exact .inr h
section
variable {X : Cx}
theorem op_powW : OpR X (binaryOp .Pow) (rI (fun i j => 0 ≤ j ∧ (Builtin.Int.intBits i : Int) * j ≤ 2 ^ 27) fun i j => .int (i ^ j.toNat)) :=
  opI fun _ _ _ _ _ _ _ hc q => pow_int hc.1 hc.2 q
end
section
variable {P : Program} {w : World} {K : PySem.W.Frag} {mg : Str → Option Value} {base : Heap}
/-! ### pot -/
def spPot (K : PySem.W.Frag) : Sp := fun vs H Q _ => ∃ (a : Addr) (ns : List Int) (k : Int), vs = [.ref a, .int k] ∧ SqL K H a (ns.map V.int) ∧ 0 ≤ k ∧ k < 1000 ∧
  ∀ p H', H p = none → Same H H' → Pot H' p 0 → Q (.ref p) H'
theorem ok_pot {f : Addr} {fd : FuncData} {k : Nat} (F : Fun K "_law_pot" "_law_pot" sPot f fd) (ml : mg "len" = none) (ma : mg "abs" = none) :
    FnOk P w K mg base CX0 (k + 1) f fd ["_law_script", "_law_k"] (spPot K) := by
  refine F.ok scPot (fun vs H Q E h => ?_) (fun cdv A outer s H vs Q E hr h => ?_)
  · obtain ⟨a, ns, k, rfl, _⟩ := h
    rfl
  · obtain ⟨a, ns, k, rfl, hS, k0, k3, q⟩ := h
    refine ⟨_, pss_cons (ps_set (i := 2) scPot.nd rfl (.inl rfl) (pe_cut (pe_ifExp (pt_cmpR op_lt (pv 1) (pe_callB call_len_seq (by rfl) ml PySem.boot_len (pa_cons (pv 0) pa_nil)) (nomark _))
          (pe_ix ix_list (pv 0) (pv 1) (fun _ _ => rfl)) (pe_op op_add (pe_op op_mul pe_int (pv 1)) pe_int))))
      (pss_cons (ps_set (i := 3) scPot.nd rfl (.inl rfl) (pe_cut (pe_ifExp (pt_cmpR op_ge (pe_callB call_abs (by rfl) ma (by decide +kernel) (pa_cons (pv 2) pa_nil)) (pe_op op_pow pe_int pe_int) (nomark _))
          (pe_op op_mod (pe_callB call_abs (by rfl) ma (by decide +kernel) (pa_cons (pv 2) pa_nil)) (pe_op op_powW (pe_op op_pow pe_int pe_int) pe_int)) pe_int)))
      (pss_one (ps_ret (pe_lst (pa_cons (pv 3) (pa_cons (pe_op op_mod (pe_op op_add (pe_op op_add (pe_op op_mul (pe_op op_mod (pv 2) pe_int) pe_int) (pe_op op_mul (pe_op op_mul pe_int (pv 1)) (pv 1))) pe_int) pe_int)
          (pa_cons pe_int pa_nil))))))), ?_⟩
    have hl : (ns.map V.int).length = ns.length := List.length_map _
    refine ⟨fun v H' => (∃ c, v = .int c) ∧ H' = H, ?_, ?_⟩
    · refine ⟨.int k, rfl, .ref a, rfl, a, _, rfl, .inl hS, _, _, rfl, rfl, _, rfl, ?_⟩
      refine ite2 (fun e => ?_) (fun e => ?_)
      · have hk : k < (ns.length : Int) := by
          have := of_decide_eq_true e
          rw [hl] at this
          exact this
        have hi : k.toNat < ns.length := by omega
        have ek : k = (k.toNat : Int) := by omega
        refine ⟨.ref a, rfl, .int k, rfl, a, _, k, .int ns[k.toNat], rfl, rfl, hS, ?_, ⟨_, rfl⟩, rfl⟩
        have z := atI_nat (xs := ns.map V.int) (j := k.toNat) (v := .int ns[k.toNat]) (by rw [List.getElem?_map, List.getElem?_eq_getElem hi]; rfl)
        rw [← ek] at z
        exact z
      · exact ⟨.int k, rfl, 17, k, rfl, rfl, .inl ⟨by decide, by decide⟩, _, _, rfl, rfl, ⟨_, rfl⟩, rfl⟩
    rintro v H' ⟨⟨c, rfl⟩, rfl⟩
    refine ⟨fun v H'' => (∃ c, v = .int c ∧ 0 ≤ c) ∧ H'' = H', ?_, ?_⟩
    · refine ⟨.int c, rfl, c, rfl, 10, 18, rfl, rfl, ⟨by decide, by decide, by decide⟩, _, _, rfl, rfl, _, rfl, ?_⟩
      refine ite2 (fun e => ?_) (fun e => ?_)
      · exact ⟨.int c, rfl, c, rfl, 10, 60, rfl, rfl, ⟨by decide, by decide, by decide⟩, _, _, rfl, rfl, ⟨by decide, by decide +kernel⟩, _, _, rfl, rfl, (by show (0 : Int) < (10 ^ Int.toNat 60) ^ Int.toNat 3; decide +kernel), ⟨_, rfl, Int.emod_nonneg _ (by decide +kernel)⟩, rfl⟩
      · exact ⟨⟨0, rfl, Int.le_refl _⟩, rfl⟩
    rintro v H'' ⟨⟨g, rfl, g0⟩, rfl⟩
    have hM := Int.emod_nonneg (c % 2305843009213693951 * 69621 + 104729 * k * k + 71) (show (2305843009213693921 : Int) ≠ 0 by decide)
    have hM2 := Int.emod_lt_of_pos (c % 2305843009213693951 * 69621 + 104729 * k * k + 71) (show (0 : Int) < 2305843009213693921 by decide)
    refine ⟨.int g, rfl, .int c, rfl, c, 2305843009213693951, rfl, rfl, (by show (0 : Int) < 2305843009213693951; decide), _, 69621, rfl, rfl, .inr ⟨by decide, by decide⟩, .int k, rfl, 104729, k, rfl, rfl, .inl ⟨by decide, by decide⟩, .int k, rfl, _, k, rfl, rfl, .inr ⟨by omega, by omega⟩, _, _, rfl, rfl, _, _, rfl, rfl, _, _, rfl, rfl, (by show (0 : Int) < 2305843009213693921; decide), by show 3 ≤ sizeLine; decide, fun p np => ?_⟩
    exact q p _ np (same_upd np) ⟨_, _, _, upd_same, g0, hM, hM2, by decide, by decide⟩
/-! ### take -/
def spTake (K : PySem.W.Frag) : Sp := fun vs H Q _ => ∃ (p : Addr) (n : Nat) (z : Int), vs = [.ref p, .int z] ∧ Pot H p n ∧ n < 1000000 ∧ 1 ≤ z ∧ z < 1000000 ∧
  ∀ r H', 0 ≤ r → r < z → Pot H' p (n + 1) → Kp p H H' → Q (.int r) H'
theorem take_lt {m z : Int} (h : 1 ≤ z) : 0 ≤ m % z ∧ m % z < z := ⟨Int.emod_nonneg _ (by omega), Int.emod_lt_of_pos _ (by omega)⟩
theorem bnd64 {x m : Int} (h0 : 0 ≤ x) (h1 : x < m) (h2 : m ≤ 2147483647) : -(2 ^ 64) < x ∧ x < 2 ^ 64 := ⟨by omega, by omega⟩
theorem prime_at {r : Int} (h0 : 0 ≤ r) (h1 : r < 5) :
    ∃ m : Int, atI [V.int 2147483647, .int 2147483629, .int 2147483587, .int 2147483579, .int 2147483563] r = some (.int m) ∧ 2147483563 ≤ m ∧ m ≤ 2147483647 := by
  obtain rfl | rfl | rfl | rfl | rfl : r = 0 ∨ r = 1 ∨ r = 2 ∨ r = 3 ∨ r = 4 := by omega
  all_goals exact ⟨_, rfl, by decide, by decide⟩
theorem ok_take {f : Addr} {fd : FuncData} {k : Nat} (F : Fun K "_law_take" "_law_take" sTake f fd) :
    FnOk P w K mg base CX0 (k + 1) f fd ["_law_pot_here", "_law_size"] (spTake K) := by
  refine F.ok scTake (fun vs H Q E h => ?_) (fun cdv A outer s H vs Q E hr h => ?_)
  · obtain ⟨p, n, z, rfl, _⟩ := h
    rfl
  · obtain ⟨p, n, z, rfl, ⟨g, t, c, hp, g0, t0, t1, c0, c1⟩, hn, z1, z2, q⟩ := h
    have i0 : ∀ {a b d : V}, atI [a, b, d] 0 = some a := fun {a b d} => rfl
    have i1 : ∀ {a b d : V}, atI [a, b, d] 1 = some b := fun {a b d} => rfl
    have i2 : ∀ {a b d : V}, atI [a, b, d] 2 = some d := fun {a b d} => rfl
    refine ⟨_, pss_cons (ps_if (pt_cmpR op_gt (pe_ix ix_list (pv 0) pe_int (fun _ _ => rfl)) pe_int (nomark _))
          (pss_cons (ps_set (i := 2) scTake.nd rfl (.inl rfl) (pe_op op_mod (pe_ix ix_list (pv 0) pe_int (fun _ _ => rfl)) (pv 1)))
          (pss_cons (ps_asg (pe_op op_fdivN (pe_ix ix_list (pv 0) pe_int (fun _ _ => rfl)) (pv 1)) (pg_sub (pv 0) pe_int set_list))
          (pss_one (ps_ret (pv 2))))) pss_nil)
      (pss_cons (ps_asg (pe_op op_add (pe_ix ix_list (pv 0) pe_int (fun _ _ => rfl)) pe_int) (pg_sub (pv 0) pe_int set_list))
      (pss_cons (ps_set (i := 3) scTake.nd rfl (.inl rfl) (pe_cut (pe_ix ix_list (pe_lst (pa_cons pe_int (pa_cons pe_int (pa_cons pe_int (pa_cons pe_int (pa_cons pe_int pa_nil))))))
          (pe_op op_mod (pe_ix ix_list (pv 0) pe_int (fun _ _ => rfl)) pe_int) (fun _ _ => rfl))))
      (pss_cons (ps_set (i := 4) scTake.nd rfl (.inl rfl) (pe_op op_mod (pe_op op_pow (pe_op op_add (pe_op op_add (pe_ix ix_list (pv 0) pe_int (fun _ _ => rfl))
            (pe_op op_mul (pe_op op_mul pe_int (pe_ix ix_list (pv 0) pe_int (fun _ _ => rfl))) (pe_ix ix_list (pv 0) pe_int (fun _ _ => rfl)))) pe_int) pe_int) (pv 3)))
      (pss_one (ps_ret (pe_op op_mod (pe_op op_fdivN (pe_op op_mod (pe_op op_mul (pv 4) (pe_op op_add (pe_op op_mod (pv 4) pe_int) (pe_op op_mul pe_int (pe_ix ix_list (pv 0) pe_int (fun _ _ => rfl))))) pe_int) pe_int) (pv 1))))))), ?_⟩
    refine ⟨.ref p, rfl, p, _, 0, _, rfl, rfl, SqL.of hp, i0, g, 0, rfl, rfl, _, rfl, ite2 (fun e => ?_) (fun e => ?_)⟩
    · -- a digit
      have hd := take_lt (m := g) z1
      refine ⟨.ref p, rfl, p, _, 0, _, rfl, rfl, SqL.of hp, i0, .int z, rfl, g, z, rfl, rfl, (by show (0 : Int) < z; omega), ?_⟩
      refine ⟨.ref p, rfl, p, _, 0, _, rfl, rfl, SqL.of hp, i0, .int z, rfl, g, z, rfl, rfl, ⟨by omega, by omega⟩, .ref p, rfl, p, _, 0, 0, rfl, rfl, hp, rfl, ?_⟩
      refine ⟨_, rfl, q _ _ hd.1 hd.2 ⟨_, t, c, upd_same, ?_, t0, t1, c0, by omega⟩ Kp.upd⟩
      exact Int.fdiv_nonneg g0 (by omega)
    · refine ⟨.ref p, rfl, p, _, 2, _, rfl, rfl, SqL.of hp, i2, c, 1, rfl, rfl, .ref p, rfl, p, _, 2, 2, rfl, rfl, hp, rfl, ?_⟩
      have hp1 : upd H p (.lst ([V.int g, .int t, .int c].set 2 (.int (c + 1)))) p = some (.lst [.int g, .int t, .int (c + 1)]) := upd_same
      generalize eH : upd H p (.lst ([V.int g, .int t, .int c].set 2 (.int (c + 1)))) = H1 at hp1 ⊢
      have k1 : Kp p H H1 := by
        rw [← eH]
        exact Kp.upd
      generalize ed : c + 1 = d at hp1
      have d0 : 0 ≤ d := by omega
      have d1 : d ≤ 1000000 := by omega
      refine ⟨fun v H' => (∃ m : Int, v = .int m ∧ 2147483563 ≤ m ∧ m ≤ 2147483647) ∧ Same H1 H', ?_, ?_⟩
      · refine ⟨by show 5 ≤ sizeLine; decide, fun l nl => ?_⟩
        have s2 := same_upd (o := .lst [V.int 2147483647, .int 2147483629, .int 2147483587, .int 2147483579, .int 2147483563]) nl
        have h5 := take_lt (m := d) (z := 5) (by decide)
        obtain ⟨m, em, m1, m2⟩ := prime_at h5.1 h5.2
        exact ⟨.ref p, rfl, p, _, 2, _, rfl, rfl, SqL.of (s2 _ _ hp1), i2, d, 5, rfl, rfl, (by show (0 : Int) < 5; decide), l, _, _, _, rfl, rfl, SqL.of upd_same, em, ⟨m, rfl, m1, m2⟩, s2⟩
      rintro v H2 ⟨⟨m, rfl, m1, m2⟩, s2⟩
      have hp2 := s2 _ _ hp1
      have b1 : 0 ≤ 40009 * d * d ∧ 40009 * d * d ≤ 40009 * 1000000 * 1000000 := by
        refine ⟨Int.mul_nonneg (by omega) d0, Int.mul_le_mul (by omega) d1 d0 (by omega)⟩
      have hm := take_lt (m := (t + 40009 * d * d + 31) ^ Int.toNat 3) (z := m) (by omega)
      refine ⟨.ref p, rfl, p, _, 1, _, rfl, rfl, SqL.of hp2, i1, .ref p, rfl, p, _, 2, _, rfl, rfl, SqL.of hp2, i2, 40009, d, rfl, rfl, .inl ⟨by decide, by decide⟩,
        .ref p, rfl, p, _, 2, _, rfl, rfl, SqL.of hp2, i2, _, d, rfl, rfl, .inr ⟨by omega, by omega⟩, t, _, rfl, rfl, _, 31, rfl, rfl, _, 3, rfl, rfl, ⟨by decide, by decide, by omega⟩, .int m, rfl, _, m, rfl, rfl, (by show (0 : Int) < m; omega), ?_⟩
      refine ⟨_, rfl, _, rfl, _, 10009, rfl, rfl, (by show (0 : Int) < 10009; decide), .ref p, rfl, p, _, 2, _, rfl, rfl, SqL.of hp2, i2, 89, d, rfl, rfl, .inl ⟨by decide, by decide⟩, _, _, rfl, rfl, _, _, rfl, rfl, .inl (bnd64 hm.1 hm.2 m2),
        _, 2305843009213693907, rfl, rfl, (by show (0 : Int) < 2305843009213693907; decide), _, 89, rfl, rfl, ⟨by decide, by decide⟩, .int z, rfl, _, z, rfl, rfl, (by show (0 : Int) < z; omega), ?_⟩
      refine q _ _ (take_lt z1).1 (take_lt z1).2 ⟨g, t, d, hp2, g0, t0, t1, d0, by omega⟩ (k1.trans (.of s2))
end
end Nm

namespace Nm
open PySem PySem.Spec PyProof.Rows L2 GL
/-! sPick -/
/-! sMixed -/
/-! sSome -/
/-! ### data -/
theorem dpInts {K : PySem.W.Frag} {H : Hp} : ∀ ns : List Int, DpAll K H (ns.map V.int) (ns.map PyData.int)
  | [] => .nil
  | n :: ns => .cons (.int n) (dpInts ns)
theorem layInts : ∀ ns : List Int, PyData.canLayAll0 (ns.map PyData.int) = true
  | [] => by simp [PyData.canLayAll0]
  | n :: ns => by simp [PyData.canLayAll0, PyData.canLay0, layInts ns]
theorem deepInts : ∀ ns : List Int, PyData.depthAll (ns.map PyData.int) = 0
  | [] => by simp [PyData.depthAll]
  | n :: ns => by simp [PyData.depthAll, PyData.depth, deepInts ns]
theorem shapedL (ns : List Int) : SeqAt.shaped (.list (ns.map PyData.int)) = true := by
  simp [SeqAt.shaped, PyData.canLay0, layInts, PyData.depth, deepInts]
theorem shapedT (ns : List Int) : SeqAt.shaped (.tuple (ns.map PyData.int)) = true := by
  simp [SeqAt.shaped, PyData.canLay0, layInts, PyData.depth, deepInts]
theorem eqv_nil (ns : List Int) : PyData.eqv (.list (ns.map PyData.int)) (.list []) = ns.isEmpty := by
  cases ns <;> simp [PyData.eqv, PyData.eqvAll]
theorem pot_lst {H : Hp} {p : Addr} {n : Nat} (h : Pot H p n) : ∃ xs, H p = some (.lst xs) := by
  obtain ⟨g, t, c, e, _⟩ := h
  exact ⟨_, e⟩
theorem atI_of {α : Type} {xs : List α} {r : Int} (h0 : 0 ≤ r) (h1 : r < (xs.length : Int)) : atI xs r = some (xs[r.toNat]'(by omega)) := by
  have hi : r.toNat < xs.length := by omega
  have z := atI_nat (xs := xs) (j := r.toNat) (v := xs[r.toNat]) (List.getElem?_eq_getElem hi)
  have e : ((r.toNat : Nat) : Int) = r := by omega
  rw [e] at z
  exact z
section
variable {P : Program} {w : World} {K : PySem.W.Frag} {mg : Str → Option Value} {base : Heap}
/-! ### pick -/
def spPick (K : PySem.W.Frag) : Sp := fun vs H Q _ => ∃ (p a : Addr) (n : Nat) (xs : List V), vs = [.ref p, .ref a] ∧ Pot H p n ∧ n < 1000000 ∧ SqL K H a xs ∧ a ≠ p ∧ xs ≠ [] ∧ xs.length < 1000000 ∧
  ∀ (i : Nat) (v : V) (H' : Hp), xs[i]? = some v → Pot H' p (n + 1) → Kp p H H' → Q v H'
/-! ### mixed -/
def spMixed (K : PySem.W.Frag) : Sp := fun vs H Q _ => ∃ (p a : Addr) (n : Nat) (ns : List Int), vs = [.ref p, .ref a] ∧ Pot H p n ∧ n + ns.length < 1000000 ∧ SqL K H a (ns.map V.int) ∧
  ∀ (o : Addr) (ms : List Int) (H' : Hp), H o = none → ms.Perm ns → H' o = some (.lst (ms.map V.int)) → Pot H' p (n + ns.length) → Kp p H H' → Q (.ref o) H'
theorem erase_perm {α : Type} : ∀ {l : List α} {i : Nat} {x : α}, l[i]? = some x → (x :: l.eraseIdx i).Perm l
  | [], i, x, h => by simp at h
  | y :: l, 0, x, h => by
    have e : y = x := by simpa using h
    subst e
    exact List.Perm.refl _
  | y :: l, i + 1, x, h => by
    have ih := erase_perm (l := l) (i := i) (x := x) (by simpa using h)
    rw [List.eraseIdx_cons_succ]
    exact (List.Perm.swap y x _).trans (ih.cons y)
theorem map_eraseIdx {α β : Type} (f : α → β) : ∀ (l : List α) (i : Nat), (l.map f).eraseIdx i = (l.eraseIdx i).map f
  | [], i => by simp
  | x :: l, 0 => by simp
  | x :: l, i + 1 => by simp [map_eraseIdx f l i]
theorem lenLine {n : Nat} (h : n < 1000001) : n < sizeLine := Nat.lt_of_lt_of_le h (by decide)
/-! ### some -/
def spSome (K : PySem.W.Frag) : Sp := fun vs H Q _ => ∃ (p a : Addr) (n : Nat) (ns : List Int) (z : Int), vs = [.ref p, .ref a, .int z] ∧ Pot H p n ∧ n + ns.length < 1000000 ∧ SqL K H a (ns.map V.int) ∧ a ≠ p ∧ 1 ≤ z ∧ z < 1000000 ∧
  ∀ (o : Addr) (ms : List Int) (H' : Hp), H o = none → ms.Sublist ns → H' o = some (.tup (ms.map V.int)) → Pot H' p (n + ns.length) → Kp p H H' → Q (.ref o) H'
end
end Nm

namespace Nm
open PySem PySem.Spec PyProof.Rows L2 GL
/-! sNamed -/
abbrev nNamed : List Str := ["_law_wide", "_law_signs", "_law_own", "_law_named_here", "_law_at", "_law_pair"]
/-! ### pairs and tables -/
section
variable {α β : Type} {F : α → β → Prop}
theorem paired_get : ∀ {l₁ : List α} {l₂ : List β} {i : Nat} {a : α}, Paired F l₁ l₂ → l₁[i]? = some a → ∃ b, l₂[i]? = some b ∧ F a b
  | _, _, _, _, .nil, e => by simp at e
  | _, _, 0, _, .cons r _, e => by
    simp at e
    subst e
    exact ⟨_, rfl, r⟩
  | _, _, i + 1, a, .cons _ t, e => by
    obtain ⟨u, h1, h2⟩ := paired_get (i := i) (a := a) t (by simpa using e)
    exact ⟨u, by simpa using h1, h2⟩
theorem paired_append : ∀ {l₁ m₁ : List α} {l₂ m₂ : List β}, Paired F l₁ l₂ → Paired F m₁ m₂ → Paired F (l₁ ++ m₁) (l₂ ++ m₂)
  | _, _, _, _, .nil, s => s
  | _, _, _, _, .cons r t, s => .cons r (paired_append t s)
end
/-- pairs of ints at these addresses -/
def PR (H : Hp) (rs : List Addr) (ps : List (Int × Int)) : Prop := Paired (fun a q => H a = some (.tup [.int q.1, .int q.2])) rs ps
/-- rows of ints at these addresses -/
def Rows (H : Hp) (rs : List Addr) (T : List (List Int)) : Prop := Paired (fun a row => H a = some (.tup (row.map V.int))) rs T
/-- a table: a tuple of rows -/
def Tbl (H : Hp) (p : Addr) (T : List (List Int)) : Prop := ∃ rs : List Addr, H p = some (.tup (rs.map V.ref)) ∧ Rows H rs T
theorem PR.same {H H' : Hp} {rs : List Addr} {ps : List (Int × Int)} (h : PR H rs ps) (s : Same H H') : PR H' rs ps := Paired.mapP h fun a b e => s _ _ e
theorem Rows.same {H H' : Hp} {rs : List Addr} {T : List (List Int)} (h : Rows H rs T) (s : Same H H') : Rows H' rs T := Paired.mapP h fun a b e => s _ _ e
theorem Tbl.same {H H' : Hp} {p : Addr} {T : List (List Int)} (h : Tbl H p T) (s : Same H H') : Tbl H' p T := by
  obtain ⟨rs, e, r⟩ := h
  exact ⟨rs, s _ _ e, r.same s⟩
theorem Rows.kp {p : Addr} {n : Nat} {H H' : Hp} {rs : List Addr} {T : List (List Int)} (h : Rows H rs T) (k : Kp p H H') (hp : Pot H p n) : Rows H' rs T := Paired.mapP h fun a b e => k.tup hp e
theorem Tbl.kp {q : Addr} {n : Nat} {H H' : Hp} {p : Addr} {T : List (List Int)} (h : Tbl H p T) (k : Kp q H H') (hp : Pot H q n) : Tbl H' p T := by
  obtain ⟨rs, e, r⟩ := h
  exact ⟨rs, k.tup hp e, r.kp k hp⟩
/-- a table is stays where only lists are changed -/
def KT (H H' : Hp) : Prop := ∀ a xs, H a = some (.tup xs) → H' a = some (.tup xs)
theorem Rows.kt {H H' : Hp} {rs : List Addr} {T : List (List Int)} (h : Rows H rs T) (k : KT H H') : Rows H' rs T := Paired.mapP h fun a b e => k _ _ e
theorem PR.kt {H H' : Hp} {rs : List Addr} {T : List (Int × Int)} (h : PR H rs T) (k : KT H H') : PR H' rs T := Paired.mapP h fun a b e => k _ _ e
theorem KT.of {H H' : Hp} (s : Same H H') : KT H H' := fun _ _ e => s _ _ e
theorem KT.trans {H H1 H2 : Hp} (a : KT H H1) (b : KT H1 H2) : KT H H2 := fun _ _ e => b _ _ (a _ _ e)
theorem KT.lst {H : Hp} {l : Addr} {xs : List V} {o : HO} (h : H l = some (.lst xs)) : KT H (upd H l o) := fun a ys e => by
  rw [upd_ne (ne_of e h (by intro z; cases z))]
  exact e
theorem KT.new {H : Hp} {l : Addr} {o : HO} (h : H l = none) : KT H (upd H l o) := .of (same_upd h)
theorem ref_at {rs : List Addr} {i : Nat} {x : V} (h : (rs.map V.ref)[i]? = some x) : ∃ a, rs[i]? = some a ∧ x = .ref a := by
  rw [List.getElem?_map] at h
  cases e : rs[i]? with
  | none => rw [e] at h; cases h
  | some a => rw [e] at h; exact ⟨a, rfl, (Option.some.inj h).symm⟩
theorem int_at {ns : List Int} {i : Nat} {x : V} (h : (ns.map V.int)[i]? = some x) : ∃ a, ns[i]? = some a ∧ x = .int a := by
  rw [List.getElem?_map] at h
  cases e : ns[i]? with
  | none => rw [e] at h; cases h
  | some a => rw [e] at h; exact ⟨a, rfl, (Option.some.inj h).symm⟩
theorem yesI {σ : L2.St} {H : Hp} {A B : Hp → Prop} (h : A H) : tYes σ H (fun b H3 => if b = true then A H3 else B H3) := by
  show if true = true then A H else B H
  exact iteT h
def prsTo (w i : Nat) : List (Int × Int) := (List.range i).flatMap fun (o : Nat) => (List.range w).map fun (m : Nat) => ((o : Int), (m : Int))
theorem prsTo_succ (w i : Nat) : prsTo w (i + 1) = prsTo w i ++ (List.range w).map fun (m : Nat) => ((i : Int), (m : Int)) := by
  unfold prsTo
  rw [List.range_succ, List.flatMap_append, List.flatMap_singleton]
theorem prsTo_length (w : Nat) : ∀ i, (prsTo w i).length = i * w
  | 0 => by simp [prsTo]
  | i + 1 => by rw [prsTo_succ, List.length_append, prsTo_length w i, List.length_map, List.length_range, Nat.add_mul, Nat.one_mul]
def rowTo (ps : List (Int × Int)) (m : Int) (j : Nat) : List Int := ((List.range j).filter fun (i : Nat) => decide (ps[i]?.map (·.1) = some m)).map fun (i : Nat) => (i : Int)
theorem rowTo_yes {ps : List (Int × Int)} {m : Int} {j : Nat} (h : ps[j]?.map (·.1) = some m) : rowTo ps m (j + 1) = rowTo ps m j ++ [(j : Int)] := by
  unfold rowTo
  rw [List.range_succ, List.filter_append, List.map_append]
  simp [h]
theorem rowTo_no {ps : List (Int × Int)} {m : Int} {j : Nat} (h : ps[j]?.map (·.1) ≠ some m) : rowTo ps m (j + 1) = rowTo ps m j := by
  unfold rowTo
  rw [List.range_succ, List.filter_append, List.map_append]
  simp [h]
theorem rowTo_length (ps : List (Int × Int)) (m : Int) (j : Nat) : (rowTo ps m j).length ≤ j := by
  unfold rowTo
  rw [List.length_map]
  exact Nat.le_trans (List.length_filter_le _ _) (by simp)
def ofPrs (ps : List (Int × Int)) : List (List Int) := ps.map fun q => rowTo ps q.2 ps.length
section
variable {P : Program} {w : World} {K : PySem.W.Frag} {mg : Str → Option Value} {base : Heap}
/-! ### named -/
def spNamed (K : PySem.W.Frag) : Sp := fun vs H Q _ => ∃ n : Nat, vs = [.int n] ∧ n ≤ 4 ∧
  ∀ (p : Addr) (H' : Hp), H p = none → Same H H' → Tbl H' p (ofPrs (prsTo n n)) → Q (.ref p) H'
end
end Nm

/-! enumerate over a tuple -/
namespace PySem
open PyProof.Rows
set_option maxHeartbeats 1000000 in
theorem enumNew1 {v : Value} {o : Obj} {H : Heap → Prop} (B : Begins v o H) :
    Meets (Builtin.«enumerate.__new__» ⟨[.type "enumerate", v], []⟩) (fun _ R s => H s.heap ∧
      R (.ok (.ret (.ref (s.heap.push o).objs.size)))
        { s with heap := (s.heap.push o).push { cls := .type "enumerate", data := .fields #[.none, .bool false, .ref s.heap.objs.size, rawInt 0, .none, .none] } }) :=
  .of_wp fun prog w A R s h => by
    obtain ⟨hp, g, d, tk, os⟩ := s
    obtain ⟨h1, h2⟩ := h
    have sub := sub_enumerate
    have go : ∀ {A' : Around} {E : Value → Shared → Prop} {Q : Value → Shared → Prop}, Q (.ref hp.objs.size) ⟨hp.push o, g, d, tk, os⟩ →
        wpAny (model prog w) A' (pyIter v) Q E ⟨hp, g, d, tk, os⟩ := fun q => B.iter prog w _ _ ⟨hp, g, d, tk, os⟩ _ h1 q
    wp_walk using go
    refine wpAny_stack_any fun st => wpAny_pure ?_
    split
    · rename_i c _ _ _ _ _
      by_cases e : (c == Value.type "enumerate") = true
      · rw [e]
        wp_walk using go
        exact ⟨_, rfl, h2⟩
      · rw [Bool.eq_false_iff.mpr e]
        wp_walk using go
        exact ⟨_, rfl, h2⟩
    · wp_walk using go
      exact ⟨_, rfl, h2⟩
section
variable {prog : Program} {w : World} {A : Around} {E : Value → Shared → Prop} {s : Shared}
theorem enumCall1 {v : Value} {o : Obj} {H : Heap → Prop} {Q : Value → Shared → Prop} (B : Begins v o H) (h1 : H s.heap)
    (h : ∀ h', IsEnum h' (s.heap.objs.size + 1) s.heap.objs.size 0 .none → h'.get? s.heap.objs.size = some o → h'.objs.size = s.heap.objs.size + 2 →
      (∀ b o, s.heap.get? b = some o → h'.get? b = some o) → Q (.ref (s.heap.objs.size + 1)) { s with heap := h' }) :
    wpAny (model prog w) A (call (.type "enumerate") [v]) Q E s := by
  refine callType_new F.called_enumerate (by decide) (F.typeCall_enumerate_1 _) (F.newCall_enumerate_1 _) (fun obj => F.args_object_init_2 obj _)
    F.entry_enumerate_new (enumNew1 B) (And.intro h1 ?_)
  have size1 : (s.heap.push o).objs.size = s.heap.objs.size + 1 := Heap.size_push ..
  show _ ∧ _
  rw [size1]
  have en : IsEnum ((s.heap.push o).push { cls := .type "enumerate", data := .fields #[.none, .bool false, .ref s.heap.objs.size, rawInt 0, .none, .none] })
      (s.heap.objs.size + 1) s.heap.objs.size 0 .none := by
    have z := Heap.get?_push_size (s.heap.push o) (o := { cls := .type "enumerate", data := .fields #[.none, .bool false, .ref s.heap.objs.size, rawInt 0, .none, .none] }) rfl
    rw [size1] at z
    exact z
  have h0 := Heap.get?_push_size s.heap (o := o) B.free
  refine And.intro ⟨_, en, rfl⟩ (h _ en (Heap.get?_push_of_some _ h0) ?_ ?_)
  · rw [Heap.size_push, size1]
  · intro b ob q
    exact Heap.get?_push_of_some _ (Heap.get?_push_of_some _ q)
end
end PySem
namespace GL
open PySem PySem.Spec PyProof.Rows L2
/-- the tuple at a, each item in a new pair -/
def IteT (K : PySem.W.Frag) (a : Addr) : It where
  go i H := ∃ (xs : List V) (x : V), SqT K H a xs ∧ xs[i]? = some x
  yld i H v H' := ∃ T x, v = .ref T ∧ H T = none ∧ H' = upd H T (.tup [.int (i : Nat), x]) ∧ ∀ xs, SqT K H a xs → xs[i]? = some x
  stop i H := ∃ xs : List V, SqT K H a xs ∧ xs.length = i
theorem turnET {P : Program} {w : World} {K : PySem.W.Frag} {elts : List Expr} {kk : Nat} {tpos : Pos} (a e it : Addr) :
    Turn P w K (.Tuple elts kk tpos) (IteT K a) [e, it] e
      (fun i h => (∃ old, IsEnum h e it ((i : Nat) : Int) old) ∧ h.IsTupleIter it a i ∧ e ≠ it ∧ a ≠ it ∧ e ≠ a) where
  mem := List.mem_cons_self
  obj := by
    rintro i h ⟨⟨old, he⟩, ⟨o, ho, hc, hd⟩, _⟩ b hb
    rcases List.mem_cons.mp hb with rfl | hb
    · exact ⟨_, he, fun v q => nomatch q⟩
    · rcases List.mem_cons.mp hb with rfl | hb
      · exact ⟨o, ho, fun v q => by rw [hd] at q; cases q⟩
      · cases hb
  keep := by
    rintro i h h' ⟨⟨old, he⟩, hi, r⟩ k
    exact ⟨⟨old, k e (by simp) _ he⟩, hi.at fun o q => k it (by simp) o q, r⟩
  item := by
    intro X hP hw hK hc i pins s σ H E I hf st hg
    subst hP hw hK
    obtain ⟨⟨old, he⟩, hit, n1, n2, n3⟩ := st
    obtain ⟨xs, x, hq, hx⟩ := hg
    obtain ⟨its, rv, tp, hz⟩ := I.tuple hq
    obtain ⟨u, hu, ru⟩ := rv.get hx
    have el : e < s.heap.objs.size := Heap.lt_size he
    have il : it < s.heap.objs.size := by
      obtain ⟨_, q, _⟩ := hit
      exact Heap.lt_size q
    have dr := Draws.tuple (prog := X.prog) (w := X.w) (A := X.A.in1) (I.ok.hd hc) it a n2 its.toArray
    have hlt : i < its.toArray.size := by
      have := (List.getElem?_eq_some_iff.mp hu).1
      simpa using this
    have nef : e ∉ [it, a] := by
      simp [n1, n3]
    refine wpAny_pyNext_enum_itemD dr he ⟨hit, tp⟩ hlt n1 nef fun y h' tk hy ho st' hT hsz hk => ?_
    have ey : y = u := by
      have hy' : its.toArray[i]? = some y := hy
      rw [List.getElem?_toArray, hu] at hy'
      exact (Option.some.inj hy').symm
    subst ey
    refine ⟨_, rfl, wpAny_letOwnedTupleGo_enum (s := { s with heap := h', toks := tk + 1 }) ho fun h'' he' sb => ?_⟩
    have hT2 : h''.get? s.heap.objs.size = some { cls := .type "tuple", data := .seq #[.int i tk, y] } := (sb.2 _ (Nat.ne_of_gt el)).trans hT
    have neu : ObjOk X.prog X.w (upd H s.heap.objs.size (.tup [.int (i : Nat), x])) h'' s.heap.objs.size (.tup [.int (i : Nat), x]) := by
      refine ⟨?_, [.int i tk, y], .cons ⟨_, rfl⟩ (.cons ru .nil), ⟨_, hT2, rfl, _, rfl⟩⟩
      show 2 ≤ sizeLine
      decide
    have J : Inv X pins σ (upd H s.heap.objs.size (.tup [.int (i : Nat), x])) { s with heap := h'', toks := tk + 1 } := by
      refine I.turnedNew (ch := [e, it]) (fun b ob hb q => ?_) hf (Nat.le_refl _) neu
      have b1 : b ≠ e := fun z => hb (by simp [z])
      have b2 : b ≠ it := fun z => hb (by simp [z])
      exact (sb.2 b b1).trans (hk b ob b1 b2 q)
    refine ⟨.ref s.heap.objs.size, _, J, rfl, ⟨_, x, rfl, I.hok.fresh (Nat.le_refl _), rfl, fun ys hy' => ?_⟩, ⟨⟨y, ?_⟩, ?_, n1, n2, n3⟩, fun b hb => ?_⟩
    · rw [I.tuple_inj hy' hq]
      exact hx
    · have e1 : ((i + 1 : Nat) : Int) = (i : Int) + 1 := by omega
      rw [e1]
      exact he'
    · exact st'.1.at fun o q => (sb.2 it (Ne.symm n1)).trans q
    · have lb : b < s.heap.objs.size := by
        rcases List.mem_cons.mp hb with rfl | hb
        · exact el
        · rcases List.mem_cons.mp hb with rfl | hb
          · exact il
          · cases hb
      rw [upd_ne (Nat.ne_of_lt lb)]
      exact (hf b hb).1
  done := by
    intro X hP hw hK hc i pins s σ H E I hf st hg
    subst hP hw hK
    obtain ⟨⟨old, he⟩, hit, n1, n2, n3⟩ := st
    obtain ⟨xs, hq, hx⟩ := hg
    obtain ⟨its, rv, tp, hz⟩ := I.tuple hq
    obtain ⟨f0, f1, f2, f3, f4, f5⟩ := hf it (by simp)
    have hl := rv.length
    have dr := Draws.tuple (prog := X.prog) (w := X.w) (A := X.A.in1) (I.ok.hd hc) it a n2 its.toArray
    have ei : its.toArray.size = i := by
      simp
      omega
    rw [← ei] at hit
    exact wpAny_pyNext_enum_endD dr he ⟨hit, tp⟩ fun h' eb => ⟨rfl, I.turned (t' := s.toks) (fun b o hb q => eb b o hb q) f0 f1 f3 f4 f5⟩
  self := by
    rintro A i s Q E ⟨⟨_, he⟩, _⟩ h
    exact wpAny_pyIter_enum he h
def iEnumT (K : PySem.W.Frag) (ta : TA) : TI := fun σ H R => ta σ H fun vs H1 => ∃ a xs, vs = [.ref a] ∧ SqT K H1 a xs ∧ R (IteT K a) H1
theorem pi_enumT {X : Cx} {K : PySem.W.Frag} {e : Expr} {ta : TA} {p pos tpos : Pos} {elts : List Expr} {kk : Nat} (hg : Gl X "enumerate") (hm : X.mg "enumerate" = none) (ha : PA X [e] ta)
    (hs : starEach [e] X.env = [(false, eval e X.env)] := by rfl) (hK : X.K = K := by rfl) : PI X (.Tuple elts kk tpos) (.Call (.Name "enumerate" p) [e] [] pos) (iEnumT K ta) := by
  subst hK
  constructor
  intro pins s σ H R I h
  refine Call_ ?_
  refine ld_blt I hg hm boot_enumerate (PyProof.Rows.callWith_type1 (thn (ha.run pos pins s σ H _ I h) ?_) hs rfl)
  rintro us s1 ⟨vs, H1, I1, r1, a, xs, rfl, hq, q⟩
  cases r1 with
  | cons r rr =>
    cases rr
    cases r
    obtain ⟨its, rv, tp, hz⟩ := I1.tuple hq
    have al : a < s1.heap.objs.size := by
      obtain ⟨o, ho, _⟩ := tp
      exact Heap.lt_size ho
    refine enumCall1 (begins_tuple a its.toArray) tp fun h' he hit hsz hk => wpAny_pyIter_enum he ?_
    have I2 : Inv X pins σ H1 { s1 with heap := h' } := I1.kept (t' := s1.toks) hk
    refine ⟨s1.heap.objs.size + 1, [s1.heap.objs.size + 1, s1.heap.objs.size], _, _, H1, rfl, I2, turnET a (s1.heap.objs.size + 1) s1.heap.objs.size,
      ⟨⟨.none, he⟩, ⟨_, hit, rfl, rfl⟩, Nat.succ_ne_self _, Nat.ne_of_lt al, Nat.ne_of_gt (Nat.lt_succ_of_lt al)⟩, fun b hb => ?_, q⟩
    have le : s1.heap.objs.size ≤ b := by
      rcases List.mem_cons.mp hb with rfl | hb
      · exact Nat.le_succ _
      · rcases List.mem_cons.mp hb with rfl | hb
        · exact Nat.le_refl _
        · cases hb
    exact I1.fpOk le (I1.hok.fresh le)
theorem walkET {K : PySem.W.Frag} {a : Addr} {xs : List V} : Walk (IteT K a) xs.length (fun H => SqT K H a xs) (YPair (fun i => some (.int (i : Nat))) (fun i => xs[i]?)) := by
  refine ⟨fun i _ hi q => ⟨xs, xs[i], q, List.getElem?_eq_getElem hi⟩, fun _ q => ⟨xs, q, rfl⟩, ?_⟩
  rintro i H v H' _ q ⟨T, x, h1, h2, h3, h4⟩
  exact ⟨T, .int (i : Nat), x, h1, h2, h3, rfl, h4 xs q⟩
end GL

namespace Nm
open PySem PySem.Spec PyProof.Rows L2 GL
/-! sCso -/
abbrev nCso : List Str := ["_law_table_here", "_law_led", "_law_found", "_law_sign", "_law_row", "_law_near"]
/-! ### marks called otherwise -/
def rangeI (n : Nat) : List Int := (List.range n).map fun (i : Nat) => (i : Int)
theorem rangeI_length (n : Nat) : (rangeI n).length = n := by
  unfold rangeI
  rw [List.length_map, List.length_range]
theorem mem_rangeI {n : Nat} {x : Int} : x ∈ rangeI n ↔ 0 ≤ x ∧ x < n := by
  unfold rangeI
  rw [List.mem_map]
  constructor
  · rintro ⟨i, hi, rfl⟩
    rw [List.mem_range] at hi
    omega
  · rintro ⟨h0, h1⟩
    exact ⟨x.toNat, List.mem_range.mpr (by omega), by omega⟩
theorem nodup_rangeI (n : Nat) : (rangeI n).Nodup := by
  unfold rangeI
  refine List.Pairwise.map _ (fun a b h z => h ?_) List.nodup_range
  omega
/-- the name of a mark -/
def at_ (ms : List Int) (x : Int) : Int := ms.getD x.toNat 0
/-- row' holds the names of row, from the least on -/
def RowC (ms row row' : List Int) : Prop := row'.Perm (row.map (at_ ms)) ∧ row'.Pairwise (· ≤ ·)
def Called (T T' : List (List Int)) (ms : List Int) : Prop := T'.length = T.length ∧ ∀ (s : Nat) (row : List Int) (j : Int), T[s]? = some row → ms[s]? = some j → ∃ row', T'[j.toNat]? = some row' ∧ RowC ms row row'
theorem putK_length {κ : Type} [DecidableEq κ] (kvs : List (κ × V)) (k : κ) (v : V) : (putK kvs k v).length ≤ kvs.length + 1 := by
  unfold putK
  split
  · rw [List.length_map]
    omega
  · rw [List.length_append]
    exact Nat.le_refl _
def Sq (K : PySem.W.Frag) (H : Hp) (a : Addr) (xs : List V) : Prop := SqL K H a xs ∨ SqT K H a xs
theorem Sq.same {K : PySem.W.Frag} {H H' : Hp} {a : Addr} {xs : List V} (h : Sq K H a xs) (s : Same H H') : Sq K H' a xs := h.elim (fun z => .inl (s.seq z)) fun z => .inr (Nm.Same.seqT s z)
theorem ixSeqK {X : Cx} {K : PySem.W.Frag} (hK : X.K = K := by rfl) : IxR X (rIx K) := by
  subst hK
  exact ix_seq
theorem rIx_of {K : PySem.W.Frag} {H : Hp} {a : Addr} {xs : List V} {i : Int} {v : V} {Q : VK} (h : Sq K H a xs) (e : atI xs i = some v) (q : Q v H) : rIx K (.ref a) (.int i) H Q :=
  h.elim (fun z => .inl ⟨a, xs, i, v, rfl, rfl, z, e, q⟩) fun z => .inr (.inl ⟨a, xs, i, v, rfl, rfl, z, e, q⟩)
theorem at_get {ms : List Int} {x : Int} (h0 : 0 ≤ x) (h1 : x < (ms.length : Int)) : atI (ms.map V.int) x = some (.int (at_ ms x)) := by
  have hi : x.toNat < ms.length := by omega
  have z := atI_nat (xs := ms.map V.int) (j := x.toNat) (v := .int (at_ ms x)) (by
    rw [List.getElem?_map, List.getElem?_eq_getElem hi]
    unfold at_
    rw [List.getD_eq_getElem?_getD, List.getElem?_eq_getElem hi]
    rfl)
  have e : ((x.toNat : Nat) : Int) = x := by omega
  rw [e] at z
  exact z
section
variable {P : Program} {w : World} {K : PySem.W.Frag} {mg : Str → Option Value} {base : Heap}
def spCso (K : PySem.W.Frag) : Sp := fun vs H Q _ => ∃ (p l : Addr) (T : List (List Int)) (ms : List Int), vs = [.ref p, .ref l] ∧ Tbl H p T ∧ Sq K H l (ms.map V.int) ∧ T.length ≤ 1000 ∧ ms.Perm (rangeI T.length) ∧
  (∀ row ∈ T, row.length < 64 ∧ ∀ x ∈ row, 0 ≤ x ∧ x < (T.length : Int)) ∧
  ∀ (p' : Addr) (T' : List (List Int)) (H' : Hp), H p' = none → Same H H' → Tbl H' p' T' → Called T T' ms → Q (.ref p') H'
end
end Nm

namespace Nm
open PySem PySem.Spec PyProof.Rows L2 GL
/-! sChg -/
abbrev nChg : List Str := ["_law_pot_here", "_law_table_here", "_law_rows", "_law_turn", "_law_sign", "_law_near", "_law_row"]
/-! ### rules -/
def Good (n : Nat) (row : List Int) : Prop := row.Pairwise (· < ·) ∧ ∀ x ∈ row, 0 ≤ x ∧ x < (n : Int)
def IsRule (T : List (List Int)) : Prop := 1 ≤ T.length ∧ T.length ≤ 16 ∧ ∀ row ∈ T, Good T.length row
theorem asc_len (n : Nat) : ∀ (row : List Int) (a : Nat), row.Pairwise (· < ·) → (∀ x ∈ row, (a : Int) ≤ x ∧ x < (n : Int)) → row.length + a ≤ n ∨ row = []
  | [], _, _, _ => .inr rfl
  | x :: r, a, hp, hx => by
    have h0 := hx x List.mem_cons_self
    have hp' := List.pairwise_cons.mp hp
    rcases asc_len n r (x.toNat + 1) hp'.2 (fun y hy => ⟨by have := hp'.1 y hy; omega, (hx y (List.mem_cons_of_mem _ hy)).2⟩) with h | h
    · left
      rw [List.length_cons]
      omega
    · left
      subst h
      simp
      omega
theorem Good.len {n : Nat} {row : List Int} (h : Good n row) : row.length ≤ n := by
  rcases asc_len n row 0 h.1 h.2 with z | z
  · omega
  · subst z
    exact Nat.zero_le _
theorem Good.nodup {n : Nat} {row : List Int} (h : Good n row) : row.Nodup := h.1.imp fun h => Int.ne_of_lt h
theorem strict_of {l : List Int} (h : l.Pairwise (· ≤ ·)) (nd : l.Nodup) : l.Pairwise (· < ·) :=
  (List.Pairwise.and h nd).imp fun ⟨a, b⟩ => by omega
theorem Good.sub {n : Nat} {row r : List Int} (h : Good n row) (s : r.Sublist row) : Good n r := ⟨h.1.sublist s, fun x hx => h.2 x (s.subset hx)⟩
/-! ### lists of rows that change -/
structure LR (H : Hp) (ls : List Addr) (T : List (List Int)) : Prop where
  len : ls.length = T.length
  at' : ∀ (i : Nat) (a : Addr) (row : List Int), ls[i]? = some a → T[i]? = some row → H a = some (.lst (row.map V.int))
  inj : ∀ (i j : Nat) (a : Addr), ls[i]? = some a → ls[j]? = some a → i = j
theorem inV_int (x : Int) : ∀ row : List Int, inV (.int x) (row.map V.int) = decide (x ∈ row)
  | [] => by simp [inV]
  | y :: r => by
    have ih := inV_int x r
    unfold inV at ih ⊢
    rw [List.map_cons, List.any_cons, ih]
    have e : eqV (.int y) (.int x) = decide (y = x) := by
      by_cases h : y = x
      · subst h
        simp [eqV]
      · simp [eqV, h]
    rw [e]
    by_cases h : y = x
    · subst h
      simp
    · have h' : ¬ x = y := fun z => h z.symm
      simp [h, h']
theorem flat_ints (row : List Int) : (row.map V.int).all flatV = true := by
  rw [List.all_eq_true]
  intro x hx
  obtain ⟨y, _, rfl⟩ := List.mem_map.mp hx
  rfl
theorem first_at {row : List Int} {x : Int} (h : x ∈ row) : ∃ (j : Nat), row[j]? = some x ∧ ∀ (m : Nat), m < j → row[m]? ≠ some x := by
  induction row with
  | nil => cases h
  | cons y r ih =>
    by_cases e : y = x
    · subst e
      exact ⟨0, rfl, fun m hm => absurd hm (Nat.not_lt_zero _)⟩
    · have hr : x ∈ r := by
        rcases List.mem_cons.mp h with z | z
        · exact absurd z.symm e
        · exact z
      obtain ⟨j, h1, h2⟩ := ih hr
      refine ⟨j + 1, by simpa using h1, fun m hm => ?_⟩
      cases m with
      | zero =>
        intro z
        exact e (by simpa using z)
      | succ m =>
        have := h2 m (by omega)
        simpa using this
theorem mem_set {α : Type} {l : List α} {i : Nat} {a x : α} (h : x ∈ l.set i a) : x ∈ l ∨ x = a := List.mem_or_eq_of_mem_set h
theorem ixN_of {n : Nat} {k : Int} (h0 : 0 ≤ k) (h1 : k < (n : Int)) : ixN n k = some k.toNat := by
  unfold ixN
  rw [if_pos h0, if_pos h1]
/-- the rows between two turns -/
def Mid (H0 H : Hp) (p L : Addr) (m c : Nat) : Prop := ∃ (ls : List Addr) (T : List (List Int)), H L = some (.lst (ls.map V.ref)) ∧ LR H ls T ∧ (∀ a ∈ ls, H0 a = none ∧ a ≠ L) ∧ T.length = m ∧ (∀ row ∈ T, Good m row) ∧ Pot H p c ∧ Kp p H0 H
theorem Mid.kp {H0 H H' : Hp} {p L : Addr} {m c c' : Nat} {xs : List V} (h : Mid H0 H p L m c) (k : Kp p H H') (hp : Pot H' p c') (h0 : H0 p = some (.lst xs)) (nL : H0 L = none) : Mid H0 H' p L m c' := by
  obtain ⟨ls, T, hL, ⟨l1, l2, l3⟩, fr, lt, gd, _, kp⟩ := h
  have nLp : L ≠ p := fun z => by subst z; rw [h0] at nL; cases nL
  refine ⟨ls, T, k _ _ nLp hL, ⟨l1, fun i a row hi hr => k _ _ (fun z => ?_) (l2 i a row hi hr), l3⟩, fr, lt, gd, hp, kp.trans k⟩
  have := (fr a (List.mem_of_getElem? hi)).1
  subst z
  rw [h0] at this
  cases this
section
variable {P : Program} {w : World} {K : PySem.W.Frag} {mg : Str → Option Value} {base : Heap}
def spChg (K : PySem.W.Frag) : Sp := fun vs H Q _ => ∃ (p a : Addr) (n : Nat) (T : List (List Int)), vs = [.ref p, .ref a] ∧ Pot H p n ∧ n + 7 < 1000000 ∧ Tbl H a T ∧ IsRule T ∧
  ∀ (o : Addr) (T' : List (List Int)) (H' : Hp), H o = none → Pot H' p (n + 7) → Kp p H H' → Tbl H' o T' → IsRule T' → T'.length = T.length → Q (.ref o) H'
end
end Nm

namespace Nm
open PySem PySem.Spec PyProof.Rows L2 GL
/-! sTab -/
abbrev nTab : List Str := ["_law_pot_here", "_law_most", "_law_way", "_law_size", "_law_signs", "_law_table_here", "_law_sign", "_law_wide"]
theorem allK {X : Cx} {K : PySem.W.Frag} (hc : X.calm = true) (hK : X.K = K := by rfl) : CallR X (.builtin "all") (rAll K) := by
  subst hK
  exact cr_all hc
theorem rgV_range (n : Nat) : rgV 0 (n : Int) = (rangeI n).map V.int := by
  unfold rgV rangeI
  rw [List.map_map, show ((n : Int) - 0).toNat = n by omega]
  refine List.map_congr_left fun i _ => ?_
  show V.int (0 + (i : Int)) = V.int (i : Int)
  rw [Int.zero_add]
theorem rangeI_asc (n : Nat) : (rangeI n).Pairwise (· < ·) := by
  unfold rangeI
  refine List.Pairwise.map _ (fun a b h => ?_) List.pairwise_lt_range
  omega
theorem good_sub {n : Nat} {row : List Int} (h : row.Sublist (rangeI n)) : Good n row := ⟨(rangeI_asc n).sublist h, fun x hx => mem_rangeI.mp (h.subset hx)⟩
instance (n : Nat) (row : List Int) : Decidable (Good n row) := inferInstanceAs (Decidable (_ ∧ _))
instance (T : List (List Int)) : Decidable (IsRule T) := inferInstanceAs (Decidable (_ ∧ _))
theorem named_rule {m : Nat} (h1 : 1 ≤ m) (h4 : m ≤ 4) : IsRule (ofPrs (prsTo m m)) := by
  obtain rfl | rfl | rfl | rfl : m = 1 ∨ m = 2 ∨ m = 3 ∨ m = 4 := by omega
  all_goals decide +kernel
theorem at_mem {ms : List Int} {x : Int} (h0 : 0 ≤ x) (h1 : x < (ms.length : Int)) : at_ ms x ∈ ms := by
  have hi : x.toNat < ms.length := by omega
  unfold at_
  rw [List.getD_eq_getElem?_getD, List.getElem?_eq_getElem hi]
  exact List.getElem_mem hi
theorem at_some {ms : List Int} {x : Int} (h0 : 0 ≤ x) (h1 : x < (ms.length : Int)) : ms[x.toNat]? = some (at_ ms x) := by
  have hi : x.toNat < ms.length := by omega
  unfold at_
  rw [List.getD_eq_getElem?_getD, List.getElem?_eq_getElem hi]
  rfl
theorem at_inj {ms : List Int} (nd : ms.Nodup) {x y : Int} (h0 : 0 ≤ x) (h1 : x < (ms.length : Int)) (k0 : 0 ≤ y) (k1 : y < (ms.length : Int)) (e : at_ ms x = at_ ms y) : x = y := by
  have hx := at_some h0 h1
  have hy := at_some k0 k1
  rw [e] at hx
  have := (List.getElem?_inj (by omega) nd).mp (hx.trans hy.symm)
  omega
theorem rowC_good {n : Nat} {ms row row' : List Int} (g : Good n row) (pm : ms.Perm (rangeI n)) (h : RowC ms row row') : Good n row' := by
  have lm : ms.length = n := by rw [pm.length_eq, rangeI_length]
  have ndm : ms.Nodup := pm.nodup_iff.mpr (nodup_rangeI _)
  have nd : row'.Nodup := by
    refine h.1.nodup_iff.mpr ?_
    refine List.pairwise_map.mpr (List.Pairwise.imp_of_mem (fun {a b} ha hb hab z => ?_) g.nodup)
    have h1 := g.2 a ha
    have h2 := g.2 b hb
    exact hab (at_inj ndm h1.1 (by omega) h2.1 (by omega) z)
  refine ⟨strict_of h.2 nd, fun x hx => ?_⟩
  obtain ⟨y, hy, rfl⟩ := List.mem_map.mp (h.1.mem_iff.mp hx)
  have h1 := g.2 y hy
  exact mem_rangeI.mp (pm.mem_iff.mp (at_mem h1.1 (by omega)))
theorem called_rule {T T' : List (List Int)} {ms : List Int} (r : IsRule T) (pm : ms.Perm (rangeI T.length)) (c : Called T T' ms) : IsRule T' := by
  obtain ⟨l, hc⟩ := c
  have lm : ms.length = T.length := by rw [pm.length_eq, rangeI_length]
  refine ⟨by rw [l]; exact r.1, by rw [l]; exact r.2.1, fun row' hr => ?_⟩
  rw [l]
  obtain ⟨j, hj⟩ := List.mem_iff_getElem?.mp hr
  have jl := (List.getElem?_eq_some_iff.mp hj).1
  have jm : (j : Int) ∈ ms := pm.mem_iff.mpr (mem_rangeI.mpr ⟨by omega, by omega⟩)
  obtain ⟨s, hs⟩ := List.mem_iff_getElem?.mp jm
  have sl := (List.getElem?_eq_some_iff.mp hs).1
  obtain ⟨row, hrow⟩ : ∃ row, T[s]? = some row := ⟨_, List.getElem?_eq_getElem (by omega)⟩
  obtain ⟨row2, h1, h2⟩ := hc s row j hrow hs
  rw [Int.toNat_natCast, hj] at h1
  cases h1
  exact rowC_good (r.2.2 row (List.mem_of_getElem? hrow)) pm h2
section
variable {P : Program} {w : World} {K : PySem.W.Frag} {mg : Str → Option Value} {base : Heap}
/-- what the drawing defs lean on -/
structure Lib (K : PySem.W.Frag) (mg : Str → Option Value) : Prop where
  len : mg "len" = none
  abs : mg "abs" = none
  list : mg "list" = none
  tuple : mg "tuple" = none
  range : mg "range" = none
  enum : mg "enumerate" = none
  sorted : mg "sorted" = none
def spTab (K : PySem.W.Frag) : Sp := fun vs H Q _ => ∃ (p : Addr) (n : Nat), vs = [.ref p, .int 16] ∧ Pot H p n ∧ n + 1000 < 1000000 ∧
  ∀ (o : Addr) (T : List (List Int)) (H' : Hp), Pot H' p (n + 1000) → Kp p H H' → Tbl H' o T → IsRule T → Q (.ref o) H'
end
end Nm

namespace Nm
open PySem PySem.Spec PyProof.Rows L2 GL
abbrev sBelow : Stmt := topS 1
abbrev sAsc : Stmt := topS 2
abbrev sIsRule : Stmt := topS 13
theorem scBelow : FnScope ["value", "limit"] ["value", "limit"] (defScope sBelow) := ⟨rfl, rfl, rfl, by decide +kernel, rfl, by decide +kernel, by decide +kernel⟩
theorem scAsc : FnScope ["value", "limit", "item", "at"] ["value", "limit"] (defScope sAsc) := ⟨rfl, rfl, rfl, by decide +kernel, rfl, by decide +kernel, by decide +kernel⟩
theorem scIsRule : FnScope ["value", "followers"] ["value"] (defScope sIsRule) := ⟨rfl, rfl, rfl, by decide +kernel, rfl, by decide +kernel, by decide +kernel⟩
theorem isiK {X : Cx} {K : PySem.W.Frag} (hK : X.K = K := by rfl) : CallR X (.builtin "isinstance") (rIsi K) := by
  subst hK
  exact call_isi
theorem chain_pw : ∀ (ns : List Int), (∀ (i : Nat) (a b : Int), ns[i]? = some a → ns[i + 1]? = some b → a < b) → ns.Pairwise (· < ·)
  | [], _ => List.Pairwise.nil
  | [x], _ => List.pairwise_singleton _ _
  | x :: y :: r, h => by
    have hr := chain_pw (y :: r) fun i a b ha hb => h (i + 1) a b (by simpa using ha) (by simpa using hb)
    have h0 := h 0 x y rfl rfl
    refine List.pairwise_cons.mpr ⟨fun z hz => ?_, hr⟩
    rcases List.mem_cons.mp hz with e | e
    · rw [e]
      exact h0
    · exact Int.lt_trans h0 ((List.pairwise_cons.mp hr).1 z e)
section
variable {P : Program} {w : World} {K : PySem.W.Frag} {mg : Str → Option Value} {base : Heap}
/-- what the judging defs lean on -/
structure LibJ (mg : Str → Option Value) : Prop where
  len : mg "len" = none
  isi : mg "isinstance" = none
  bool : mg "bool" = none
  int : mg "int" = none
  tuple : mg "tuple" = none
  range : mg "range" = none
  all : mg "all" = none
def spBelow (K : PySem.W.Frag) : Sp := fun vs H Q _ => ∃ i l : Int, vs = [.int i, .int l] ∧ Q (.bl (decide (0 ≤ i) && decide (i < l))) H
theorem ok_below {f : Addr} {fd : FuncData} {k : Nat} (F : Fun K "is_below" "is_below" sBelow f fd) (B : LibJ mg) : FnOk P w K mg base CX0 (k + 1) f fd ["value", "limit"] (spBelow K) := by
  refine F.ok scBelow (fun vs H Q E h => ?_) (fun cdv A outer s H vs Q E hr h => ?_)
  · obtain ⟨i, l, rfl, _⟩ := h
    rfl
  · obtain ⟨i, l, rfl, q⟩ := h
    refine ⟨_, pss_cons (ps_if (PW.pt (pw_or (pt_val (pe_callB (isiK (K := K)) (by rfl) B.isi (by decide +kernel) (pa_cons (pv 0) (pa_cons (pe_bltn (v := .ty "bool") (by rfl) B.bool (by decide +kernel) rfl) pa_nil))))
        (pw_or1 (pt_not (pt_val (pe_callB (isiK (K := K)) (by rfl) B.isi (by decide +kernel) (pa_cons (pv 0) (pa_cons (pe_bltn (v := .ty "int") (by rfl) B.int (by decide +kernel) rfl) pa_nil))))))))
        (pss_one (ps_ret pe_bl)) pss_nil)
      (pss_one (ps_ret (pe_chain op_le op_lt pe_int (pv 0) (pv 1)))), ?_⟩
    refine ⟨.int i, rfl, _, _, _, _, false, rfl, .ty "bool", .base (.int i), kit_ty (by decide +kernel), _, rfl, iteF ?_⟩
    refine ⟨.int i, rfl, _, _, _, _, true, rfl, .ty "int", .base (.int i), kit_ty (by decide +kernel), _, rfl, iteF ?_⟩
    refine ⟨.int i, rfl, 0, i, rfl, rfl, _, rfl, ?_⟩
    by_cases h0 : 0 ≤ i
    · rw [decide_eq_true h0] at q ⊢
      exact iteT ⟨.int l, rfl, i, l, rfl, rfl, q⟩
    · rw [decide_eq_false h0] at q ⊢
      exact iteF q
/-- a row of ints: ascending, below -/
def spAsc (K : PySem.W.Frag) : Sp := fun vs H Q _ => ∃ (a : Addr) (ns : List Int) (l : Int), vs = [.ref a, .int l] ∧ H a = some (.tup (ns.map V.int)) ∧ ns.length < 1000 ∧ (∀ x ∈ ns, 0 ≤ x ∧ x < l) ∧ ns.Pairwise (· < ·) ∧
  ∀ H', Same H H' → Q (.bl true) H'
theorem ok_asc {f fB : Addr} {fd dB : FuncData} {k : Nat} (F : Fun K "is_ascending" "is_ascending" sAsc f fd) (FB : Fun K "is_below" "is_below" sBelow fB dB) (bB : Binds K dB ["value", "limit"] []) (gB : mg "is_below" = some (.ref fB)) (B : LibJ mg) :
    FnOk P w K mg base CX0 (k + 2) f fd ["value", "limit"] (spAsc K) := by
  have GB : FnOk P w K mg base CX0 (k + 1) fB dB ["value", "limit"] (spBelow K) := ok_below FB B
  refine F.ok scAsc (fun vs H Q E h => ?_) (fun cdv A outer s H vs Q E hr h => ?_)
  · obtain ⟨a, ns, l, rfl, _⟩ := h
    rfl
  · obtain ⟨a, ns, l, rfl, ha, ln, bd, pw, q⟩ := h
    refine ⟨_, pss_cons (ps_if (pt_not (pt_val (pe_callB (isiK (K := K)) (by rfl) B.isi (by decide +kernel) (pa_cons (pv 0) (pa_cons (pe_bltn (v := .ty "tuple") (by rfl) B.tuple (by decide +kernel) rfl) pa_nil)))))
        (pss_one (ps_ret pe_bl)) pss_nil)
      (pss_cons (ps_if (pt_not (pt_val (pe_callB (allK (K := K) rfl) (by rfl) B.all (by decide +kernel) (pa_cons
          (pe_lc (own := [("item", 2)]) (g := gName 2) (by rfl) scAsc.nd (piTupK (K := K) (pv 0))
            (blkOk_by (own := [("item", 2)]) (N := ["value", "limit", "item", "at"]) (sc := defScope sAsc) (by decide +kernel))
            (fun _ _ _ _ _ => pg_name (i := 2) scAsc.nd rfl (Or.inl rfl)) (fun _ _ _ _ _ => pts_nil)
            (fun _ _ _ _ _ => pe_call GB hr (by rfl) gB FB.kp bB .nil pass0 (pa_cons (pv 2) (pa_cons (pv 1) pa_nil)))) pa_nil))))
        (pss_one (ps_ret pe_bl)) pss_nil)
      (pss_one (ps_ret (pe_callB (allK (K := K) rfl) (by rfl) B.all (by decide +kernel) (pa_cons
        (pe_lc (own := [("at", 3)]) (g := gName 3) (by rfl) scAsc.nd (pi_range2 (by rfl) B.range (pa_cons pe_int (pa_cons (pe_callB (lenK (K := K)) (by rfl) B.len PySem.boot_len (pa_cons (pv 0) pa_nil)) pa_nil)))
          (blkOk_by (own := [("at", 3)]) (N := ["value", "limit", "item", "at"]) (sc := defScope sAsc) (by decide +kernel))
          (fun _ _ _ _ _ => pg_name (i := 3) scAsc.nd rfl (Or.inl rfl)) (fun _ _ _ _ _ => pts_nil)
          (fun _ _ _ _ _ => pe_cmpR op_lt (pe_ix (ixTupK (K := K)) (pv 0) (pe_op op_sub (pv 3) pe_int) (fun _ _ => rfl)) (pe_ix (ixTupK (K := K)) (pv 0) (pv 3) (fun _ _ => rfl)) (nomark _))) pa_nil))))), ?_⟩
    refine ⟨.ref a, rfl, _, _, _, _, true, rfl, .ty "tuple", .base (.tup ha), kit_ty (by decide +kernel), _, rfl, iteF ?_⟩
    refine ⟨.ref a, rfl, a, rfl, ⟨_, SqT.of ha⟩, fun D nD => ?_⟩
    have sD := same_upd (o := .lst []) nD
    refine lc_tup (K := K) (a := a) (xs := ns.map V.int) (fun i H2 => H2 D = some (.lst ((List.replicate i true).map V.bl)) ∧ Same H H2) ⟨upd_same, sD⟩ (fun i H2 _ h => SqT.of (h.2 _ _ ha)) ?_ ?_
    · rintro i x H2 hx ⟨hD, s2⟩
      obtain ⟨y, hy, rfl⟩ := int_at hx
      have yb := bd y (List.mem_of_getElem? hy)
      have il := (List.getElem?_eq_some_iff.mp hy).1
      refine ⟨rfl, yesI ⟨.int y, rfl, .int l, rfl, y, l, rfl, _, hD, ?_, ?_, ?_⟩⟩
      · rw [List.length_map, List.length_replicate]
        exact lenLine (by omega)
      · rw [upd_same, decide_eq_true yb.1, decide_eq_true yb.2, List.replicate_succ', List.map_append]
        rfl
      · intro b o hb
        rw [upd_ne (ne_of_none hb nD)]
        exact s2 _ _ hb
    · rintro H2 ⟨hD, s2⟩
      refine ⟨D, _, rfl, SqL.of hD, _, rfl, ?_⟩
      rw [show (List.replicate (ns.map V.int).length true).all id = true by simp]
      refine iteF ?_
      refine ⟨.ref a, rfl, a, _, rfl, .inr (SqT.of (s2 _ _ ha)), 1, _, rfl, ⟨by decide, by decide, by rw [List.length_map]; omega, by rw [List.length_map]; omega⟩, fun D2 nD2 => ?_⟩
      have sD2 := same_upd (o := .lst []) nD2
      have en : (((ns.map V.int).length : Int) - 1).toNat = ns.length - 1 := by
        rw [List.length_map]
        omega
      rw [en]
      refine lc_range (lo := 1) (n := ns.length - 1) (fun i H3 => H3 D2 = some (.lst ((List.replicate i true).map V.bl)) ∧ Same H2 H3) ⟨upd_same, sD2⟩ ?_ ?_
      · rintro i H3 hi ⟨hD3, s3⟩
        have h1 : i < ns.length := by omega
        have h2 : i + 1 < ns.length := by omega
        have lt : ns[i] < ns[i + 1] := (List.pairwise_iff_getElem.mp pw) i (i + 1) h1 h2 (by omega)
        have a1 : atI (ns.map V.int) (1 + (i : Int) - 1) = some (.int ns[i]) := by
          rw [show (1 : Int) + (i : Int) - 1 = ((i : Nat) : Int) by omega]
          exact atI_nat (by rw [List.getElem?_map, List.getElem?_eq_getElem h1]; rfl)
        have a2 : atI (ns.map V.int) (1 + (i : Int)) = some (.int ns[i + 1]) := by
          rw [show (1 : Int) + (i : Int) = ((i + 1 : Nat) : Int) by omega]
          exact atI_nat (by rw [List.getElem?_map, List.getElem?_eq_getElem h2]; rfl)
        have ha3 := SqT.of (K := K) (s3 _ _ (s2 _ _ ha))
        refine ⟨rfl, yesI ⟨.ref a, rfl, .int (1 + i), rfl, _, 1, rfl, rfl, a, _, _, _, rfl, rfl, ha3, a1, .ref a, rfl, .int (1 + i), rfl, a, _, _, _, rfl, rfl, ha3, a2, _, _, rfl, rfl, _, hD3, ?_, ?_, ?_⟩⟩
        · rw [List.length_map, List.length_replicate]
          exact lenLine (by omega)
        · rw [upd_same]
          dsimp only
          rw [decide_eq_true lt, List.replicate_succ', List.map_append]
          rfl
        · intro b o hb
          rw [upd_ne (ne_of_none hb nD2)]
          exact s3 _ _ hb
      · rintro H3 ⟨hD3, s3⟩
        refine ⟨D2, _, rfl, SqL.of hD3, ?_⟩
        rw [show (List.replicate (ns.length - 1) true).all id = true by simp]
        exact q H3 (s2.trans s3)
/-- a rule is one -/
def spIsRule (K : PySem.W.Frag) : Sp := fun vs H Q _ => ∃ (p : Addr) (T : List (List Int)), vs = [.ref p] ∧ Tbl H p T ∧ IsRule T ∧ ∀ H', Same H H' → Q (.bl true) H'
theorem ok_isrule {f fA fB : Addr} {fd dA dB : FuncData} {k : Nat} (F : Fun K "is_rule" "is_rule" sIsRule f fd) (FA : Fun K "is_ascending" "is_ascending" sAsc fA dA) (FB : Fun K "is_below" "is_below" sBelow fB dB)
    (bA : Binds K dA ["value", "limit"] []) (gA : mg "is_ascending" = some (.ref fA)) (bB : Binds K dB ["value", "limit"] []) (gB : mg "is_below" = some (.ref fB)) (B : LibJ mg) {tm : Tok} (mm : mg "MOST_MARKS" = some (.int 16 tm)) :
    FnOk P w K mg base CX0 (k + 3) f fd ["value"] (spIsRule K) := by
  have GA : FnOk P w K mg base CX0 (k + 2) fA dA ["value", "limit"] (spAsc K) := ok_asc FA FB bB gB B
  refine F.ok scIsRule (fun vs H Q E h => ?_) (fun cdv A outer s H vs Q E hr h => ?_)
  · obtain ⟨p, T, rfl, _⟩ := h
    rfl
  · obtain ⟨p, T, rfl, ⟨rs, hp, hR⟩, ⟨t1, t16, good⟩, q⟩ := h
    have lr : rs.length = T.length := Paired.length hR
    refine ⟨_, pss_cons (ps_if (PW.pt (pw_or (pt_not (pt_val (pe_callB (isiK (K := K)) (by rfl) B.isi (by decide +kernel) (pa_cons (pv 0) (pa_cons (pe_bltn (v := .ty "tuple") (by rfl) B.tuple (by decide +kernel) rfl) pa_nil)))))
        (pw_or1 (pt_not (pt_chain op_le op_le pe_int (pe_callB (lenK (K := K)) (by rfl) B.len PySem.boot_len (pa_cons (pv 0) pa_nil)) (pe_glob (v := .int 16) rfl mm ⟨_, rfl⟩))))))
        (pss_one (ps_ret pe_bl)) pss_nil)
      (pss_one (ps_ret (pe_callB (allK (K := K) rfl) (by rfl) B.all (by decide +kernel) (pa_cons
        (pe_lc (own := [("followers", 1)]) (g := gName 1) (by rfl) scIsRule.nd (piTupK (K := K) (pv 0))
          (blkOk_by (own := [("followers", 1)]) (N := ["value", "followers"]) (sc := defScope sIsRule) (by decide +kernel))
          (fun _ _ _ _ _ => pg_name (i := 1) scIsRule.nd rfl (Or.inl rfl)) (fun _ _ _ _ _ => pts_nil)
          (fun _ _ _ _ _ => pe_call GA hr (by rfl) gA FA.kp bA .nil pass0 (pa_cons (pv 1) (pa_cons (pe_callB (lenK (K := K)) (by rfl) B.len PySem.boot_len (pa_cons (pv 0) pa_nil)) pa_nil)))) pa_nil)))), ?_⟩
    have len : ((rs.map V.ref).length : Int) = (T.length : Nat) := by rw [List.length_map, lr]
    refine ⟨.ref p, rfl, _, _, _, _, true, rfl, .ty "tuple", .base (.tup hp), kit_ty (by decide +kernel), _, rfl, iteF ?_⟩
    refine ⟨.ref p, rfl, p, _, rfl, .inr (SqT.of hp), 1, _, rfl, rfl, _, rfl, ?_⟩
    rw [decide_eq_true (show (1 : Int) ≤ ((rs.map V.ref).length : Int) by rw [len]; omega)]
    refine iteT ⟨_, 16, rfl, rfl, _, rfl, ?_⟩
    rw [decide_eq_true (show ((rs.map V.ref).length : Int) ≤ 16 by rw [len]; omega)]
    refine iteF ?_
    refine ⟨.ref p, rfl, p, rfl, ⟨_, SqT.of hp⟩, fun D nD => ?_⟩
    have sD := same_upd (o := .lst []) nD
    refine lc_tup (K := K) (a := p) (xs := rs.map V.ref) (fun i H2 => H2 D = some (.lst ((List.replicate i true).map V.bl)) ∧ Same H H2) ⟨upd_same, sD⟩ (fun i H2 _ h => SqT.of (h.2 _ _ hp)) ?_ ?_
    · rintro i x H2 hx ⟨hD, s2⟩
      obtain ⟨c, hc, rfl⟩ := ref_at hx
      obtain ⟨row, hrw, hcell⟩ := paired_get hR hc
      have g := good row (List.mem_of_getElem? hrw)
      have gl := g.len
      have il := (List.getElem?_eq_some_iff.mp hrw).1
      refine ⟨rfl, yesI ⟨.ref c, rfl, .ref p, rfl, p, _, rfl, .inr (SqT.of (s2 _ _ hp)), c, row, _, rfl, s2 _ _ hcell, by omega, ?_, g.1, fun H3 s3 => ?_⟩⟩
      · rw [len]
        exact g.2
      · refine ⟨_, s3 _ _ hD, ?_, ?_, ?_⟩
        · rw [List.length_map, List.length_replicate]
          exact lenLine (by omega)
        · rw [upd_same, List.replicate_succ', List.map_append]
          rfl
        · intro b o hb
          rw [upd_ne (ne_of_none hb nD)]
          exact s3 _ _ (s2 _ _ hb)
    · rintro H2 ⟨hD, s2⟩
      refine ⟨D, _, rfl, SqL.of hD, ?_⟩
      rw [show (List.replicate (rs.map V.ref).length true).all id = true by simp]
      exact q H2 s2
end
end Nm

/-! The end of a law whose defs ask repr: the caller's around has none under way. -/
namespace GL
open PySem PySem.Spec PyProof.Rows L2
theorem endG {P : Program} {w : World} {K : PySem.W.Frag} {mg mb : Str → Option Value} {k : Nat} {fa a : Addr} {fd : FuncData} {x : Str} {sp : Sp} {s1 : Shared}
    {vs : List Value} {ns : List Int} (kin : K.In s1.heap) (gl : s1.heap.Ns mainGlobals mg) (bl : s1.heap.Ns builtinsNs mb)
    (blb : ∀ x : Str, x ≠ "__name__" → mb x = bootBuiltins x) (nol : s1.heap.NoLimit) (gens : s1.gens = #[])
    (obj : s1.heap.get? a = some { cls := .type "list", data := .seq vs.toArray }) (hints0 : IntsAre vs ns) (few : ns.length ≤ sizeLine) (room : Room k callerA)
    (F : ∀ base : Heap, K.In base → base.Ns mainGlobals mg → FnG P w K mg base k fa fd [x] sp)
    (bind : ∀ (s : Shared) (u : Value), BindsTo s fd ⟨[u], []⟩ [(x, u)])
    (wish : ∀ H : Hp, SqL K H a (ns.map V.int) → sp [.ref a] H (fun v _ => v = .bl true) fun _ _ _ => False) :
    codeAny (model P w) callerA (.call (.ref fa) ⟨[.ref a], []⟩)
      (fun r s' => r = .ok (.ret (.bool true)) ∧ OldK s1.heap s'.heap ∧ s'.os = s1.os ∧ AllBare s'.gens) s1 := by
  have rel := vals_ints hints0
  have lens := hints0.length
  have main : ∀ H : Hp, (∀ b, H b = none ∨ (b = a ∧ ∃ o xs, H b = some (.frz o (.lst xs)))) → SqL K H a (ns.map V.int) → HOk P w H s1.heap → (H a ≠ none → K.lookup a = none) →
      codeAny (model P w) callerA (.call (.ref fa) ⟨[.ref a], []⟩)
        (fun r s' => r = .ok (.ret (.bool true)) ∧ OldK s1.heap s'.heap ∧ s'.os = s1.os ∧ AllBare s'.gens) s1 := by
    intro H only sq hok kl
    have noDict : ∀ {b : Addr} {o : Obj} {es : Array DictEntry} {ep : Nat}, s1.heap.get? b = some o → o.data = .dict es ep → H b = none := by
      intro b o es ep e d
      rcases only b with z | ⟨z, _⟩
      · exact z
      · rw [z, obj] at e
        cases e
        have d' : Data.seq vs.toArray _ = Data.dict es ep := d
        cases d'
    have ns' : ∀ {b : Addr} {m : Str → Option Value}, s1.heap.Ns b m → (hidT s1.heap H).Ns b m := by
      rintro b m ⟨o, es, ep, e, d, r⟩
      exact ⟨o, es, ep, hidT_get e (noDict e d), d, r⟩
    have kin' : K.In (hidT s1.heap H) := by
      intro b o e
      refine hidT_get (kin b o e) ?_
      rcases only b with z | ⟨z, o2, xs, y⟩
      · exact z
      · exfalso
        rw [z] at e y
        have n0 := kl (by rw [y]; intro q; cases q)
        rw [n0] at e
        cases e
    have mo : Mod K mg (hidT s1.heap H) := by
      obtain ⟨mc, h1, h2⟩ := nol
      exact ⟨kin', ns' gl, ⟨mb, ns' bl, blb⟩, ⟨mc, ns' h1, h2⟩⟩
    have env : Env0 P w K mg (hidT s1.heap H) callerA [] s1 H :=
      ⟨rfl, mo, fun b o e => of_hidT e, Nat.le_of_eq (hidT_size _ _), trivial, (fun b hb => by cases hb), hok, .of_eq gens⟩
    have go := (F _ kin' (ns' gl)).does callerA [] s1 H ⟨[.ref a], []⟩ [.ref a] [.ref a] _ _ rfl room env (bind s1 (.ref a)) (.cons rfl .nil) (wish H sq)
    refine codeAny_mono go fun r s' h => ?_
    rcases r with e | fl
    · exact h.elim
    · rcases fl with _ | _ | _ | u
      all_goals try exact False.elim h
      obtain ⟨v, H', os, bare, un, hok', r', q⟩ := h
      obtain rfl : v = .bl true := q
      obtain rfl : u = Value.bool true := r'
      refine ⟨rfl, OldK.of_keep fun b o e => ?_, os, bare⟩
      rcases only b with z | ⟨_, o2, xs, z⟩
      · exact un.keep b o e z (fun y => by cases y) (fun y => by cases y)
      · have z2 := un.frzs b o2 _ z
        obtain ⟨e1, _⟩ := hok b _ z
        obtain ⟨e2, _⟩ := hok' b _ z2
        rw [e] at e1
        cases e1
        exact e2
  rcases hk : K.lookup a with _ | o
  · refine main (fun b => if b = a then some (.frz { cls := .type "list", data := .seq vs.toArray } (.lst (ns.map V.int))) else none) (fun b => ?_) (.inl (.inr ⟨_, if_pos rfl⟩)) (fun b u z => ?_) fun _ => hk
    · by_cases e : b = a
      · exact .inr ⟨e, _, _, if_pos e⟩
      · exact .inl (if_neg e)
    · by_cases e : b = a
      · have y := (if_pos e).symm.trans z
        cases y
        subst e
        exact ⟨obj, by rw [List.length_map]; exact few, vs, _, rel, obj⟩
      · have y := (if_neg e).symm.trans z
        cases y
  · have e := kin a o hk
    rw [obj] at e
    cases e
    refine main (fun _ => none) (fun _ => .inl rfl) (.inr ⟨_, vs.toArray, _, hk, rfl, rfl, rfl, ?_, ?_⟩) (fun b u z => by cases z) fun z => absurd rfl z
    · rw [List.size_toArray, lens]
      exact few
    · simpa using rel
theorem walkG {l : PySem.W.OpenLaw} {n k : Nat} {q : Program} {loose : List Str} {XP : (Str → Option Value) → Heap → Prop} {YP : World → Heap → Prop} {d : DefRec}
    {K : Params → PySem.W.Frag} {sp : World → Sp} {x : Str} (hn : l.most = some n) (hn2 : n ≤ sizeLine) (hdf : d.params.defaults = []) (hr : Room k callerA)
    (hY : ∀ (w : World) (h : Heap), YP w h → (K w.params).In h)
    (F : ∀ (w : World) (mg : Str → Option Value) (fa : Addr) (h : Heap), (K w.params).In h → h.Ns mainGlobals mg → mg d.name = some (.ref fa) →
      ∃ fd : FuncData, (∀ (s : Shared) (u : Value), BindsTo s fd ⟨[u], []⟩ [(x, u)]) ∧
        ∀ base : Heap, (K w.params).In base → base.Ns mainGlobals mg → FnG l.prog w (K w.params) mg base k fa fd [x] (sp w))
    (hsp : ∀ (w : World) (H : Hp) (a : Addr) (ns : List Int), ns.length ≤ n → SqL (K w.params) H a (ns.map V.int) → sp w [.ref a] H (fun v _ => v = .bl true) fun _ _ _ => False) :
    PySem.W.WalkO q loose XP YP l.row.toRowW d [] (fun f vs => PySem.call f vs) := by
  apply Att.attach_call hn hdf
  intro w s0 s1 mg mb fa o pm cd doc a vs ns G Y ho hd hcd hmg hobj hints hlen hg
  obtain ⟨fd, hb, hF⟩ := F w mg fa _ (hY w _ Y) G.T.g hmg
  exact endG (hY w _ Y) G.T.g G.T.b G.T.builtins G.T.nolimit hg hobj hints (Nat.le_trans hlen hn2) hr hF hb fun H hS => hsp w H a ns hlen hS
end GL

namespace Nm
open PySem PySem.Spec PyProof.Rows L2 GL
/-! ### what repr shows -/
def rowD (row : List Int) : PyData := .tuple (row.map PyData.int)
def tblD (T : List (List Int)) : PyData := .tuple (T.map rowD)
theorem dpRow {K : PySem.W.Frag} {H : Hp} {a : Addr} {row : List Int} (h : H a = some (.tup (row.map V.int))) : Dp K H (.ref a) (rowD row) := .tup (SqT.of h) (dpInts row)
theorem dpRows {K : PySem.W.Frag} {H : Hp} : ∀ {rs : List Addr} {T : List (List Int)}, Rows H rs T → DpAll K H (rs.map V.ref) (T.map rowD)
  | _, _, .nil => .nil
  | _, _, .cons h r => .cons (dpRow h) (dpRows r)
theorem dpTbl {K : PySem.W.Frag} {H : Hp} {p : Addr} {T : List (List Int)} (h : Tbl H p T) : Dp K H (.ref p) (tblD T) := by
  obtain ⟨rs, e, r⟩ := h
  exact .tup (SqT.of e) (dpRows r)
/-- small: numbers from 0 to 15 -/
def Sm (row : List Int) : Prop := ∀ x ∈ row, 0 ≤ x ∧ x < 16
theorem num_shown {i : Int} (h0 : 0 ≤ i) (h1 : i < 16) : (PyData.shown (.int i)).length ≤ 2 ∧ PyData.showable (.int i) = true := by
  obtain ⟨n, rfl⟩ : ∃ n : Nat, i = n := ⟨i.toNat, by omega⟩
  have all : ∀ n : Fin 16, (PyData.shown (.int (n.val : Int))).length ≤ 2 ∧ PyData.showable (.int (n.val : Int)) = true := by decide +kernel
  exact all ⟨n, by omega⟩
theorem row_piled : ∀ (row : List Int), Sm row → piled (PyData.shownAll (row.map PyData.int)) ≤ 4 * row.length ∧ PyData.showableAll (row.map PyData.int) = true ∧ PyData.hasDictAll (row.map PyData.int) = false
  | [], _ => by simp [PyData.shownAll, PyData.showableAll, PyData.hasDictAll, piled_nil]
  | x :: r, h => by
    have h1 := num_shown (h x List.mem_cons_self).1 (h x List.mem_cons_self).2
    have ih := row_piled r fun y hy => h y (List.mem_cons_of_mem _ hy)
    refine ⟨?_, ?_, ?_⟩
    · rw [List.map_cons, PyData.shownAll, piled_cons, List.length_cons]
      omega
    · simp [PyData.showableAll, h1.2, ih.2.1]
    · simp [PyData.hasDictAll, PyData.hasDict, ih.2.2]
structure Shows (d : PyData) (n : Nat) : Prop where
  ok : d.showable = true
  nd : d.hasDict = false
  len : d.shown.length ≤ n
theorem shows_row {row : List Int} (h : Sm row) : Shows (rowD row) (4 * row.length + 2) := by
  obtain ⟨h1, h2, h3⟩ := row_piled row h
  refine ⟨by simpa [rowD, PyData.showable] using h2, by simpa [rowD, PyData.hasDict] using h3, ?_⟩
  have := fmt_text (PyData.shownAll (row.map PyData.int))
  show (tupleText (PyData.shownAll (row.map PyData.int))).length ≤ _
  omega
theorem rows_piled : ∀ (T : List (List Int)), (∀ row ∈ T, Sm row ∧ row.length ≤ 16) → piled (PyData.shownAll (T.map rowD)) ≤ 70 * T.length ∧ PyData.showableAll (T.map rowD) = true ∧ PyData.hasDictAll (T.map rowD) = false
  | [], _ => by simp [PyData.shownAll, PyData.showableAll, PyData.hasDictAll, piled_nil]
  | row :: T, h => by
    have h0 := h row List.mem_cons_self
    have h1 := shows_row h0.1
    have ih := rows_piled T fun y hy => h y (List.mem_cons_of_mem _ hy)
    have l1 := h1.len
    refine ⟨?_, ?_, ?_⟩
    · rw [List.map_cons, PyData.shownAll, piled_cons, List.length_cons]
      omega
    · simp [PyData.showableAll, h1.ok, ih.2.1]
    · simp [PyData.hasDictAll, h1.nd, ih.2.2]
theorem shows_tbl {T : List (List Int)} (h : ∀ row ∈ T, Sm row ∧ row.length ≤ 16) : Shows (tblD T) (70 * T.length + 2) := by
  obtain ⟨h1, h2, h3⟩ := rows_piled T h
  refine ⟨by simpa [tblD, PyData.showable] using h2, by simpa [tblD, PyData.hasDict] using h3, ?_⟩
  have := fmt_text (PyData.shownAll (T.map rowD))
  show (tupleText (PyData.shownAll (T.map rowD))).length ≤ _
  omega
theorem shows_three {a b c : PyData} {l m n : Nat} (ha : Shows a l) (hb : Shows b m) (hc : Shows c n) : Shows (.tuple [a, b, c]) (l + m + n + 8) := by
  refine ⟨by simp [PyData.showable, PyData.showableAll, ha.ok, hb.ok, hc.ok], by simp [PyData.hasDict, PyData.hasDictAll, ha.nd, hb.nd, hc.nd], ?_⟩
  have h1 := fmt_text (PyData.shownAll [a, b, c])
  have h2 : piled (PyData.shownAll [a, b, c]) = (a.shown.length + 2) + ((b.shown.length + 2) + ((c.shown.length + 2) + 0)) := by
    simp only [PyData.shownAll, piled_cons, piled_nil]
  have e1 := ha.len
  have e2 := hb.len
  have e3 := hc.len
  show (tupleText (PyData.shownAll [a, b, c])).length ≤ _
  omega
theorem depth_row (row : List Int) : (rowD row).depth = 1 := by simp [rowD, PyData.depth, deepInts]
theorem depth_rows : ∀ T : List (List Int), PyData.depthAll (T.map rowD) ≤ 1
  | [] => by simp [PyData.depthAll]
  | row :: T => by
    have := depth_rows T
    rw [List.map_cons, PyData.depthAll, depth_row]
    omega
theorem depth_tbl (T : List (List Int)) : (tblD T).depth ≤ 2 := by
  have := depth_rows T
  rw [tblD, PyData.depth]
  omega
theorem lineBig {n : Nat} (h : n ≤ 100000) : n ≤ sizeLine := Nat.le_trans h (by decide)
theorem good_sm {n : Nat} {row : List Int} (h : Good n row) (hn : n ≤ 16) : Sm row ∧ row.length ≤ 16 := by
  have := h.len
  exact ⟨fun x hx => ⟨(h.2 x hx).1, by have := (h.2 x hx).2; omega⟩, by omega⟩
theorem rule_sm {T : List (List Int)} (r : IsRule T) : ∀ row ∈ T, Sm row ∧ row.length ≤ 16 := fun row h => good_sm (r.2.2 row h) r.2.1
/-- repr of a table -/
structure ShT (T : List (List Int)) : Prop where
  a : (tblD T).showable = true
  b : (tblD T).hasDict = false
  c : (tblD T).depth ≤ 20
  d : (tblD T).shown.length ≤ sizeLine
theorem shT {T : List (List Int)} (r : IsRule T) : ShT T := by
  have s := shows_tbl (rule_sm r)
  have dt := depth_tbl T
  have l := s.len
  have := r.2.1
  exact ⟨s.ok, s.nd, by omega, lineBig (by omega)⟩
end Nm

/-! set(t), t a tuple of tuples of ints; the size of such a set -/
namespace GL
open PySem PySem.Spec PyProof.Rows L2
section
variable {P : Program} {w : World} {A : Around} {E : Value → Shared → Prop} {s : Shared}
abbrev freshSet (w : World) : Obj := { cls := .type "set", dict := none, data := .set #[] 0 (.fresh 0 0 (!w.params.followText "set-order")) }
set_option maxRecDepth 100000 in
set_option maxHeartbeats 3200000 in
theorem setOfTup {l : Addr} {items : Array Value} (ks : List (Addr × List Int)) {Q : Value → Shared → Prop} (hh : A.handled = none) (hl : s.heap.IsTuple l items)
    (hit : items.toList = ks.map fun p => Value.ref p.1) (hk : ∀ p ∈ ks, IsT P w s.heap p.2 p.1) (hfew : ks.length < 64) (hu : A.units + 3 < cLine)
    (h : ∀ (h' : Heap) (tk : Nat) L es ep t, SetTR P w h' s.heap.objs.size L es ep t → Got ks ks.length L → (∀ b o, s.heap.get? b = some o → h'.get? b = some o) → Q (.ref s.heap.objs.size) { s with heap := h', toks := tk }) :
    wpAny (model P w) A (call (.type "set") [.ref l]) Q E s := by
  have size0 : items.size = ks.length := by
    have z := congrArg List.length hit
    rw [Array.length_toList, List.length_map] at z
    exact z
  obtain ⟨c, tl, hmro⟩ := F.called_set.mro
  have hmade := F.called_set.made
  have hsub := F.called_set.sub
  apply wpAny_call
  apply codeAny_of_tree
  show wpAny _ _ (callAny (.type "set") _) _ _ _
  refine wpAny_pure ⟨Code.quiet_builtin _ (by decide +kernel), ?_⟩
  refine codeAny_builtin F.entry_type_call ?_
  rw [Around.under_plain (weight_type_call_type "set" [.ref l] []) rfl]
  have h1 := F.called_set.notType
  have h2 := F.called_set.canCreate
  have hct := F.typeCall_set_1 (.ref l)
  repeat (any_goals (first | assumption | wp_step))
  refine codeAny_mono (code_set_led1 (.ref l) (E := E) (Q₁ := fun ob s₁ => ob = .ref s.heap.objs.size ∧ s₁ = { s with heap := s.heap.push (freshSet w) }) ⟨rfl, rfl⟩) fun r s₁ hr => ?_
  rcases r with e | fl
  · exact hr
  · rcases fl with _ | _ | _ | ob
    all_goals try exact hr.elim
    obtain ⟨rfl, rfl⟩ := hr
    have hS : (s.heap.push (freshSet w)).get? s.heap.objs.size = some (freshSet w) := Heap.get?_push_size _ rfl
    have hT : Shared.TypeIs { s with heap := s.heap.push (freshSet w) } (.ref s.heap.objs.size) "set" := ⟨_, hS, rfl⟩
    have hli := F.called_set.init.lookup
    have hbi := F.called_set.init.bind (.ref s.heap.objs.size)
    repeat (any_goals (first | assumption | wp_step))
    refine codeAny_mono (codeAny_call_builtin (R := wants (fun r s₂ => r = .none ∧ ∃ h' tk L es ep t, s₂ = { s with heap := h', toks := tk } ∧ SetTR P w h' s.heap.objs.size L es ep t ∧ Got ks ks.length L ∧
        (∀ b o, s.heap.get? b = some o → h'.get? b = some o)) E) F.called_set.init.plain F.entry_set_init (check_set_init_1 hT ?_)) fun r₂ s₂ hr₂ => ?_
    · obtain ⟨⟨ocls, odict, odata, oslots⟩, hol, hcl, nl, hdl⟩ := hl
      simp only at hcl hdl
      subst hcl
      subst hdl
      have hol' : (s.heap.push (freshSet w)).get? l = some { cls := .type "tuple", dict := odict, data := .seq items nl, slots := oslots } := Heap.get?_push_of_some _ hol
      have no1 := F.sub_tuple_set
      have no2 := F.sub_tuple_frozenset
      have no3 : (Value.type "tuple" == Value.type "dict") = false := by decide
      have hl1 : (s.heap.push (freshSet w)).IsTuple l items := ⟨_, hol', rfl, nl, rfl⟩
      unfold Builtin.«set.__init__» noKeywords Builtin.Frozenset.updateFrom
      generalize hPI : pyIter = PI
      wp_walk
      subst hPI
      refine wpAny_pyIter_tuple hl1 ?_
      refine wpAny_bind (wpAny_runValue ?_)
      have ll : l < s.heap.objs.size := Heap.lt_size hol
      have hh3 : A.in1.in1.in1.handled = none := by simp [hh]
      have nI : l ≠ (s.heap.push (freshSet w)).objs.size := by
        rw [Heap.size_push]
        exact Nat.ne_of_lt (Nat.lt_succ_of_lt ll)
      have nS : s.heap.objs.size ∉ [(s.heap.push (freshSet w)).objs.size, l] := by
        rw [Heap.size_push]
        simp only [List.mem_cons, List.mem_singleton, List.not_mem_nil, or_false, not_or]
        exact ⟨Nat.ne_of_lt (Nat.lt_succ_self _), Nat.ne_of_gt ll⟩
      have vals : ∀ (i : Nat) (v : Value), items[i]? = some v → ∃ p, ks[i]? = some p ∧ v = .ref p.1 := by
        intro i v hv
        have z : items.toList[i]? = some v := by
          rw [Array.getElem?_toList]
          exact hv
        rw [hit, List.getElem?_map] at z
        rcases hq : ks[i]? with _ | p
        · rw [hq] at z
          cases z
        · rw [hq] at z
          exact ⟨p, rfl, (Option.some.inj z).symm⟩
      have none_of : ∀ b, s.heap.objs.size ≤ b → s.heap.get? b = none := by
        intro b hb
        rcases q : s.heap.get? b with _ | o
        · rfl
        · exact absurd (Nat.lt_of_lt_of_le (Heap.lt_size q) hb) (Nat.lt_irrefl _)
      refine set_update_tups ((Walks.tuple hh3 _ l nI items).toS) s.heap.objs.size nS ks size0 hfew vals s.heap hk (none_of _ (Nat.le_refl _)) (fun b hb => none_of b ?_) hu (items.size - 0) 0 _ (by omega) (Nat.zero_le _)
        ⟨⟨_, Heap.get?_push_size _ rfl, rfl, rfl⟩, (hl1.at fun o e => Heap.get?_push_of_some _ e)⟩ (fun b o e => Heap.get?_push_of_some _ (Heap.get?_push_of_some _ e)) ?hS0 ?hR
      · rw [List.mem_singleton.mp hb, Heap.size_push]
        exact Nat.le_succ _
      case hS0 =>
        exact ⟨[], #[], 0, _, setTR_fresh (Heap.get?_push_of_some _ hS), Got.zero ks⟩
      case hR =>
        intro s' L es ep t hm hS' g' hkp
        obtain ⟨h', g2, d', tk', os'⟩ := s'
        obtain rfl : g2 = s.gens := hm.gens
        obtain rfl : d' = s.drawn := hm.drawn
        obtain rfl : os' = s.os := hm.os
        show wpAny _ _ _ _ _ _
        refine wpAny_pure ?_
        show wpAny _ _ (ret Value.none) _ _ _
        rw [size0] at g'
        exact wpAny_pure ⟨rfl, h', tk', L, es, ep, t, rfl, hS', g', hkp⟩
    · rcases r₂ with e | fl₂
      · exact hr₂
      · rcases fl₂ with _ | _ | _ | r
        all_goals try exact hr₂.elim
        obtain ⟨rfl, h', tk, L, es, ep, t, rfl, hS', g', hk'⟩ := hr₂
        repeat (any_goals (first | assumption | wp_step))
        exact h _ _ _ _ _ _ hS' g' hk'
end
section
variable {X : Cx}
/-- set(t), t a tuple of tuples of ints -/
def rSetTT (K : PySem.W.Frag) (P : Program) (w : World) : List V → Hp → VK → Prop := fun xs H Q => ∃ (l : Addr) (ks : List (Addr × List Int)), xs = [V.ref l] ∧ SqT K H l (ks.map fun p => V.ref p.1) ∧ (∀ p ∈ ks, SqT K H p.1 (p.2.map V.int)) ∧ ks.length < 64 ∧
  ∀ a L, H a = none → (∀ p ∈ L, p ∈ ks) → (∀ p ∈ ks, p.2 ∈ L.map (·.2)) → (L.map (·.2)).Nodup → Q (.ref a) (upd H a (SetTO P w a L))
theorem setTT {K : PySem.W.Frag} (hc : X.calm = true) (hu : X.A.units + 64 < cLine) (hK : X.K = K := by rfl) : CallR X (.type "set") (rSetTT K X.prog X.w) := by
  subst hK
  intro pins s σ H xs us Q I r h
  obtain ⟨l, ks, rfl, hl, hk, hf, q⟩ := h
  rw [Vals.ref1 r]
  obtain ⟨its, rv, tp, hz⟩ := I.tuple hl
  refine setOfTup (P := X.prog) (w := X.w) ks (I.ok.hd hc) tp (by simpa using refs_of_vals rv) (fun p hp => I.isT (hk p hp)) hf (by omega) fun h' tk L es ep t R g k => ?_
  refine ⟨.ref s.heap.objs.size, upd H s.heap.objs.size (SetTO X.prog X.w s.heap.objs.size L), I.laid (t' := tk) k (Nat.le_refl _) (setTO_new R.t0), rfl, q _ L (I.hok.fresh (Nat.le_refl _)) (fun p hp => ?_) (fun p hp => ?_) R.nd⟩
  · exact List.mem_of_mem_take (g.sub p hp)
  · refine g.all p ?_
    rw [List.take_length]
    exact hp
/-- the size of such a set -/
theorem lenSetT {K : PySem.W.Frag} (hK : X.K = K := by rfl) : CallR X (.builtin "len") (fun xs H Q => ∃ (a : Addr) (L : List (Addr × List Int)), xs = [V.ref a] ∧ H a = some (SetTO X.prog X.w a L) ∧ (∀ p ∈ L, SqT K H p.1 (p.2.map V.int)) ∧ Q (.int L.length) H) := by
  subst hK
  intro pins s σ H xs us Q I r h
  obtain ⟨a, L, rfl, ha, hk, q⟩ := h
  rw [Vals.ref1 r]
  have R0 : SetT0 X.prog X.w s.heap a L := (I.hok a _ ha).1
  obtain ⟨es, ep, t, R⟩ := R0.full fun p hp => I.isT (hk p hp)
  obtain ⟨o, ho, hex, hd⟩ := R.ob
  have sz := R.size
  have few := R.few
  refine call_len_set ho hex hd R.fits (by omega) ?_
  rw [sz]
  exact ⟨.int _, H, I.tok _, ⟨_, rfl⟩, q⟩
end
end GL

namespace Nm
open PySem PySem.Spec PyProof.Rows L2 GL
abbrev sRuleOf : Stmt := topS 4
abbrev sNamedRule : Stmt := topS 5
abbrev sSide : Stmt := topS 6
abbrev sIsPair : Stmt := topS 7
abbrev sDiff : Stmt := topS 8
abbrev sShows : Stmt := topS 9
theorem scRuleOf : FnScope ["names", "rows", "pair", "other"] ["names"] (defScope sRuleOf) := ⟨rfl, rfl, rfl, by decide +kernel, rfl, by decide +kernel, by decide +kernel⟩
theorem scNamedRule : FnScope ["values", "own", "named"] ["values"] (defScope sNamedRule) := ⟨rfl, rfl, rfl, by decide +kernel, rfl, by decide +kernel, by decide +kernel⟩
theorem scSide : FnScope ["count", "side"] ["count"] (defScope sSide) := ⟨rfl, rfl, rfl, by decide +kernel, rfl, by decide +kernel, by decide +kernel⟩
theorem scIsPair : FnScope ["value", "values"] ["value", "values"] (defScope sIsPair) := ⟨rfl, rfl, rfl, by decide +kernel, rfl, by decide +kernel, by decide +kernel⟩
theorem scDiff : FnScope ["value", "values", "pair"] ["value", "values"] (defScope sDiff) := ⟨rfl, rfl, rfl, by decide +kernel, rfl, by decide +kernel, by decide +kernel⟩
theorem scShows : FnScope ["rule", "value", "values"] ["rule", "value"] (defScope sShows) := ⟨rfl, rfl, rfl, by decide +kernel, rfl, by decide +kernel, by decide +kernel⟩
/-! ### a walk over a list or a tuple by its name -/
def TkS (H : Hp) (a : Addr) (xs : List V) : Prop := H a = some (.lst xs) ∨ H a = some (.tup xs)
theorem TkS.sq {K : PySem.W.Frag} {H : Hp} {a : Addr} {xs : List V} (h : TkS H a xs) : Sq K H a xs := h.elim (fun z => .inl (SqL.of z)) fun z => .inr (SqT.of z)
theorem TkS.same {H H' : Hp} {a : Addr} {xs : List V} (h : TkS H a xs) (s : Same H H') : TkS H' a xs := h.elim (fun z => .inl (s _ _ z)) fun z => .inr (s _ _ z)
theorem TkS.ne {H : Hp} {a b : Addr} {xs : List V} (h : TkS H a xs) (n : H b = none) : a ≠ b := h.elim (fun z => ne_of_none z n) fun z => ne_of_none z n
theorem TkS.eq {H H' : Hp} {a : Addr} {xs : List V} (h : TkS H a xs) (s : Same H H') : H' a = H a := h.elim (fun z => by rw [z]; exact s _ _ z) fun z => by rw [z]; exact s _ _ z
def iSeqV (i : Nat) : TI := fun σ H R => ∃ a xs, σ[i]? = some (some (.ref a)) ∧ TkS H a xs ∧ ∀ (J : It) (G : Hp → Prop), Walk J xs.length G (YAt xs) → (∀ H', H' a = H a → G H') → R J H
theorem piSeqV {X : Cx} (i : Nat) {tg : Expr} {x : Str} {pos : Pos} (h : PE X (.Name x pos) (tVar i)) : PI X tg (.Name x pos) (iSeqV i) := by
  constructor
  intro pins s σ H R I hw
  obtain ⟨a, xs, e, q1 | q1, q2⟩ := hw
  · exact (pi_list h).run pins s σ H R I ⟨_, e, a, rfl, ⟨_, SqL.of q1⟩, q2 _ _ walk_list fun H' sm => SqL.of (sm.trans q1)⟩
  · exact (pi_tup h).run pins s σ H R I ⟨_, e, a, rfl, ⟨_, SqT.of q1⟩, q2 _ _ walk_tup fun H' sm => SqT.of (sm.trans q1)⟩
section
variable {P : Program} {w : World} {K : PySem.W.Frag} {mg : Str → Option Value} {base : Heap}
/-! ### rule_of -/
def spRuleOf (K : PySem.W.Frag) : Sp := fun vs H Q _ => ∃ (a : Addr) (rs : List Addr) (ps : List (Int × Int)), vs = [.ref a] ∧ TkS H a (rs.map V.ref) ∧ PR H rs ps ∧ ps.length ≤ 64 ∧
  ∀ (o : Addr) (H' : Hp), H o = none → Same H H' → Tbl H' o (ofPrs ps) → Q (.ref o) H'
theorem ok_ruleof {f : Addr} {fd : FuncData} {k : Nat} (F : Fun K "rule_of" "rule_of" sRuleOf f fd) (B : LibJ mg) : FnOk P w K mg base CX0 (k + 1) f fd ["names"] (spRuleOf K) := by
  refine F.ok scRuleOf (fun vs H Q E h => ?_) (fun cdv A outer s H vs Q E hr h => ?_)
  · obtain ⟨a, rs, ps, rfl, _⟩ := h
    rfl
  · obtain ⟨a, rs, ps, rfl, hS, hP, lp, q⟩ := h
    refine ⟨_, pss_cons (ps_set (i := 1) scRuleOf.nd rfl (.inl rfl) (pe_lst pa_nil))
      (pss_cons (ps_for PassesOwn.never rfl (piSeqV 0 (pv 0)) (pg_name (i := 2) scRuleOf.nd rfl (.inr rfl))
        (pss_one (ps_expr (pe_bm PySem.F.plainAttrs_list PySem.F.slot_list_append PySem.F.type_list_append mt_append (pv 1) (pa_cons
          (pe_callTy (tupOfK (K := K)) (by rfl) B.tuple (by decide +kernel) (pa_cons
            (pe_lc (own := [("other", 3)]) (g := gName 3) (by rfl) scRuleOf.nd (pi_range1 (by rfl) B.range (pa_cons (pe_callB (lenK (K := K)) (by rfl) B.len PySem.boot_len (pa_cons (pv 0) pa_nil)) pa_nil))
              (blkOk_by (own := [("other", 3)]) (N := ["names", "rows", "pair", "other"]) (sc := defScope sRuleOf) (by decide +kernel))
              (fun _ _ _ _ _ => pg_name (i := 3) scRuleOf.nd rfl (Or.inl rfl))
              (fun _ _ _ _ _ => pts_one (pt_cmpR op_eq (pe_ix (ixTupK (K := K)) (pe_ix (ixSeqK (K := K)) (pv 0) (pv 3) (fun _ _ => rfl)) pe_int (fun _ _ => rfl)) (pe_ix (ixTupK (K := K)) (pv 2) pe_int (fun _ _ => rfl)) (nomark _)))
              (fun _ _ _ _ _ => pv 3)) pa_nil)) pa_nil)))))
      (pss_one (ps_ret (pe_callTy (tupOfK (K := K)) (by rfl) B.tuple (by decide +kernel) (pa_cons (pv 1) pa_nil))))), ?_⟩
    have lr : rs.length = ps.length := Paired.length hP
    refine ⟨Nat.zero_le _, fun L nL => ?_⟩
    have sL := same_upd (o := .lst []) nL
    refine ⟨a, rs.map V.ref, rfl, hS.same sL, fun J G wk hG => for_it wk
      (fun i σ H' => ∃ (y2 y3 : Option V) (ts : List Addr), σ = [some (.ref a), some (.ref L), y2, y3] ∧ H' L = some (.lst (ts.map V.ref)) ∧ Rows H' ts ((ofPrs ps).take i) ∧ Same H H')
      ⟨none, none, [], rfl, upd_same, .nil, sL⟩ (fun i σ H' _ h => ?_) ?_ ?_⟩
    · obtain ⟨_, _, _, _, _, _, sm⟩ := h
      exact hG H' ((hS.eq sm).trans (hS.eq sL).symm)
    · rintro i x σ H1 H2 hi ⟨y2, y3, ts, rfl, hL, hR, sm⟩ ⟨rfl, hx⟩
      obtain ⟨b, hb, rfl⟩ := ref_at hx
      obtain ⟨m, hm, hq⟩ := paired_get hP hb
      have hq1 := sm _ _ hq
      have hi' : i < ps.length := (List.getElem?_eq_some_iff.mp hm).1
      have lts : ts.length ≤ 64 := by
        rw [Paired.length hR, List.length_take]
        omega
      have hS1 := hS.same sm
      have ln : ((rs.map V.ref).length : Int).toNat = ps.length := by
        rw [List.length_map]
        omega
      refine ⟨.ref L, rfl, .inl ⟨rfl, _, SqL.of hL⟩, .ref a, rfl, a, _, rfl, (hS1.sq : Sq K _ a _), _, rfl, by rw [List.length_map]; omega, by rw [List.length_map]; omega, fun D nD => ?_⟩
      rw [ln]
      have sD := same_upd (o := .lst []) nD
      refine lc_range (lo := 0) (n := ps.length) (fun j H3 => H3 D = some (.lst ((rowTo ps m.2 j).map V.int)) ∧ Same H2 H3) ⟨upd_same, sD⟩ ?_ ?_
      · rintro j H3 hj ⟨hD, s3⟩
        obtain ⟨c, hc⟩ : ∃ c, rs[j]? = some c := ⟨_, List.getElem?_eq_getElem (by omega)⟩
        obtain ⟨m', hm', hq'⟩ := paired_get hP hc
        have lj := rowTo_length ps m.2 j
        refine ⟨rfl, .ref a, rfl, .int (0 + j), rfl, rIx_of ((hS1.same s3).sq) (v := .ref c) ?_ ?_⟩
        · rw [Int.zero_add]
          exact atI_nat (by rw [List.getElem?_map, hc]; rfl)
        refine ⟨c, _, 0, _, rfl, rfl, SqT.of (s3 _ _ (sm _ _ hq')), rfl, .ref b, rfl, b, _, 1, _, rfl, rfl, SqT.of (s3 _ _ hq1), rfl, rfl, _, rfl, ite2 (fun e => ?_) (fun e => ?_)⟩
        · have e' : m'.1 = m.2 := V.int.inj (of_decide_eq_true e)
          refine ⟨_, rfl, _, hD, ?_, ?_, ?_⟩
          · rw [List.length_map]
            exact lenLine (by omega)
          · rw [upd_same, rowTo_yes (by rw [hm', ← e']; rfl), List.map_append, Int.zero_add]
            rfl
          · intro d o hd
            rw [upd_ne (ne_of_none hd nD)]
            exact s3 _ _ hd
        · have e' : m'.1 ≠ m.2 := fun z => e (decide_eq_true (congrArg V.int z))
          refine ⟨?_, s3⟩
          rw [rowTo_no (by rw [hm']; exact fun z => e' (Option.some.inj z))]
          exact hD
      · rintro H3 ⟨hD, s3⟩
        refine ⟨D, _, rfl, .inl ⟨SqL.of hD, fun t nt => ?_⟩⟩
        have st := same_upd (o := .tup ((rowTo ps m.2 ps.length).map V.int)) nt
        have hL3 := st _ _ (s3 _ _ hL)
        refine ⟨L, _, _, rfl, rfl, hL3, by rw [List.length_map]; exact lenLine (by omega), _, _, ts ++ [t], rfl, ?_, ?_, ?_⟩
        · rw [upd_same, List.map_append]
          rfl
        · have e : (ofPrs ps).take (i + 1) = (ofPrs ps).take i ++ [rowTo ps m.2 ps.length] := by
            rw [List.take_add_one]
            unfold ofPrs
            rw [List.getElem?_map, hm]
            rfl
          rw [e]
          exact Rows.kt (paired_append (hR.same (s3.trans st)) (.cons upd_same .nil)) (KT.lst hL3)
        · intro d o hd
          rw [upd_ne (ne_of_none hd nL)]
          exact st _ _ (s3 _ _ (sm _ _ hd))
    · rintro σ H1 ⟨y2, y3, ts, rfl, hL, hR, sm⟩
      rw [List.length_map, lr, show ps.length = (ofPrs ps).length by unfold ofPrs; rw [List.length_map], List.take_length] at hR
      refine ⟨.ref L, rfl, L, _, rfl, .inl ⟨SqL.of hL, fun o no => ?_⟩⟩
      have so := same_upd (o := .tup (ts.map V.ref)) no
      exact q o _ (sm.free no) (sm.trans so) ⟨ts, upd_same, hR.same so⟩
/-! ### named_rule -/
def spNamedRule (K : PySem.W.Frag) : Sp := fun vs H Q _ => ∃ n : Nat, vs = [.int n] ∧ n ≤ 4 ∧ ∀ (o : Addr) (H' : Hp), Same H H' → Tbl H' o (ofPrs (prsTo n n)) → Q (.ref o) H'
theorem ok_namedrule {f fO : Addr} {fd dO : FuncData} {k : Nat} (F : Fun K "named_rule" "named_rule" sNamedRule f fd) (FO : Fun K "rule_of" "rule_of" sRuleOf fO dO) (bO : Binds K dO ["names"] []) (gO : mg "rule_of" = some (.ref fO)) (B : LibJ mg) :
    FnOk P w K mg base CX0 (k + 2) f fd ["values"] (spNamedRule K) := by
  have GO : FnOk P w K mg base CX0 (k + 1) fO dO ["names"] (spRuleOf K) := ok_ruleof FO B
  refine F.ok scNamedRule (fun vs H Q E h => ?_) (fun cdv A outer s H vs Q E hr h => ?_)
  · obtain ⟨n, rfl, _⟩ := h
    rfl
  · obtain ⟨n, rfl, hn, q⟩ := h
    refine ⟨_, pss_one (ps_ret (pe_call GO hr (by rfl) gO FO.kp bO .nil pass0 (pa_cons
      (pe_lc2 (own := [("own", 1), ("named", 2)]) (vs1 := [2]) (g := gName 1) (g1 := gName 2) (by rfl) scNamedRule.nd (pi_range1 (by rfl) B.range (pa_cons (pv 0) pa_nil))
        (blkOk_by (own := [("own", 1), ("named", 2)]) (N := ["values", "own", "named"]) (sc := defScope sNamedRule) (by decide +kernel)) (by decide)
        (fun _ _ _ _ _ => pg_name (i := 1) scNamedRule.nd rfl (Or.inl rfl)) (fun _ _ _ _ _ => pts_nil)
        (fun _ _ _ _ _ => pi_range1 (by rfl) B.range (pa_cons (pv 0) pa_nil))
        (fun _ _ _ _ _ => pg_name (i := 2) scNamedRule.nd rfl (Or.inl rfl)) (fun _ _ _ _ _ => pts_nil)
        (fun _ _ _ _ _ => pe_tup (pa_cons (pv 1) (pa_cons (pv 2) pa_nil)))) pa_nil))), ?_⟩
    refine ⟨.int n, rfl, (n : Int), rfl, by omega, by omega, fun D nD => ?_⟩
    have sD := same_upd (o := .lst []) nD
    refine ⟨fun i m H1 => m = n - i ∧ i ≤ n ∧ ∃ rs : List Addr, H1 D = some (.lst (rs.map V.ref)) ∧ PR H1 rs (prsTo n i) ∧ Same H H1, ⟨n, by simp, Nat.zero_le _, [], upd_same, .nil, sD⟩, ?_⟩
    rintro i m H1 ⟨rfl, hi, rs, hD, hP, sm⟩
    have lr : rs.length = i * n := by rw [Paired.length hP, prsTo_length]
    by_cases hlt : i < n
    · refine .inr ⟨hlt, fun H' => ∃ rs : List Addr, H' D = some (.lst (rs.map V.ref)) ∧ PR H' rs (prsTo n (i + 1)) ∧ Same H H', fun H' p' => ⟨n - (i + 1), by omega, rfl, hlt, p'⟩, fun x H' y => ?_⟩
      obtain ⟨e1, e2⟩ := y
      subst e1
      subst e2
      refine ⟨rfl, yesI ⟨.int n, rfl, (n : Int), rfl, by omega, by omega, ?_⟩⟩
      refine ⟨fun j m H2 => m = n - j ∧ j ≤ n ∧ ∃ rs2 : List Addr, H2 D = some (.lst ((rs ++ rs2).map V.ref)) ∧ PR H2 (rs ++ rs2) (prsTo n i ++ (List.range j).map fun (m : Nat) => ((i : Int), (m : Int))) ∧ rs2.length = j ∧ Same H H2,
        ⟨n, by simp, Nat.zero_le _, [], by rw [List.append_nil]; exact hD, by simpa using hP, rfl, sm⟩, ?_⟩
      rintro j m H2 ⟨rfl, hj, rs2, hD2, hP2, l2, sm2⟩
      by_cases hjl : j < n
      · refine .inr ⟨hjl, fun H' => ∃ rs2 : List Addr, H' D = some (.lst ((rs ++ rs2).map V.ref)) ∧ PR H' (rs ++ rs2) (prsTo n i ++ (List.range (j + 1)).map fun (m : Nat) => ((i : Int), (m : Int))) ∧ rs2.length = j + 1 ∧ Same H H',
          fun H' p' => ⟨n - (j + 1), by omega, rfl, hjl, p'⟩, fun x H' y => ?_⟩
        obtain ⟨e1, e2⟩ := y
        subst e1
        subst e2
        have i16 : i * n ≤ 4 * 4 := Nat.mul_le_mul (by omega) hn
        refine ⟨rfl, yesI ⟨_, rfl, _, rfl, by show 2 ≤ sizeLine; decide, fun T nT => ⟨_, (same_upd nT) _ _ hD2, ?_, rs2 ++ [T], ?_, ?_, ?_, ?_⟩⟩⟩
        · rw [List.length_map, List.length_append]
          exact lenLine (by omega)
        · rw [upd_same]
          simp only [List.map_append, List.append_assoc]
          rfl
        · have hDT := (same_upd (o := .tup [.int (0 + (i : Int)), .int (0 + (j : Int))]) nT) _ _ hD2
          have e1 : prsTo n i ++ (List.range (j + 1)).map (fun (m : Nat) => ((i : Int), (m : Int))) = (prsTo n i ++ (List.range j).map fun (m : Nat) => ((i : Int), (m : Int))) ++ [((i : Int), (j : Int))] := by
            rw [List.range_succ, List.map_append, List.append_assoc]
            rfl
          rw [e1, ← List.append_assoc]
          refine PR.kt (paired_append (hP2.same (same_upd nT)) (.cons ?_ .nil)) (KT.lst hDT)
          rw [upd_same, Int.zero_add, Int.zero_add]
        · rw [List.length_append, l2]
          rfl
        · intro b o hb
          rw [upd_ne (ne_of_none hb nD)]
          exact same_upd nT _ _ (sm2 _ _ hb)
      · have ej : j = n := by omega
        subst ej
        refine .inl ⟨Nat.le_refl _, rs ++ rs2, hD2, ?_, sm2⟩
        rw [prsTo_succ]
        exact hP2
    · have ei : i = n := by omega
      subst ei
      have i16 : i * i ≤ 4 * 4 := Nat.mul_le_mul hn hn
      refine .inl ⟨Nat.le_refl _, D, rs, _, rfl, .inl hD, hP, by rw [prsTo_length]; omega, fun o H' no sH hT => ?_⟩
      exact q o H' (sm.trans sH) hT
/-! ### side_of -/
def spSide (K : PySem.W.Frag) : Sp := fun vs H Q _ => ∃ n : Nat, vs = [.int n] ∧ n ≤ 10000 ∧ (∀ s : Nat, s * s = n → Q (.int s) H) ∧ ((∀ s : Nat, s * s ≠ n) → Q .non H)
theorem sq_lt {a b : Nat} (h : a < b) : a * a < b * b := Nat.mul_lt_mul_of_lt_of_le h (Nat.le_of_lt h) (by omega)
theorem ok_side {f : Addr} {fd : FuncData} {k : Nat} (F : Fun K "side_of" "side_of" sSide f fd) : FnOk P w K mg base CX0 (k + 1) f fd ["count"] (spSide K) := by
  refine F.ok scSide (fun vs H Q E h => ?_) (fun cdv A outer s H vs Q E hr h => ?_)
  · obtain ⟨n, rfl, _⟩ := h
    rfl
  · obtain ⟨n, rfl, hn, q1, q2⟩ := h
    refine ⟨_, pss_cons (ps_set (i := 1) scSide.nd rfl (.inl rfl) pe_int)
      (pss_cons (ps_while PassesOwn.never (pt_cmpR op_lt (pe_op op_mul (pv 1) (pv 1)) (pv 0) (nomark _)) (pss_one (ps_aug (i := 1) scSide.nd rfl (.inl rfl) pe_int ip_add)))
      (pss_one (ps_ret (pe_ifExp (pt_cmpR op_eq (pe_op op_mul (pv 1) (pv 1)) (pv 0) (nomark _)) (pv 1) pe_non)))), ?_⟩
    refine ⟨fun m σ H' => H' = H ∧ ∃ t : Nat, σ = [some (.int n), some (.int t)] ∧ m = n - t ∧ t ≤ n ∧ ∀ u : Nat, u < t → u * u < n, ⟨n, rfl, 0, rfl, by omega, by omega, fun u hu => absurd hu (Nat.not_lt_zero _)⟩, ?_⟩
    rintro m σ H' ⟨rfl, t, rfl, rfl, ht, hl⟩
    refine ⟨.int t, rfl, .int t, rfl, (t : Int), (t : Int), rfl, rfl, .inl ⟨by omega, by omega⟩, .int n, rfl, _, _, rfl, rfl, _, rfl, ite2 (fun e => ?_) (fun e => ?_)⟩
    · have hlt : (t : Int) * t < n := of_decide_eq_true e
      have hlt' : t * t < n := by exact_mod_cast hlt
      have tl : t < n := by
        rcases Nat.eq_zero_or_pos t with z | z
        · subst z
          simpa using hlt'
        · exact Nat.lt_of_le_of_lt (Nat.le_mul_of_pos_left t z) hlt'
      refine ⟨fun σ H2 => H2 = H' ∧ σ = [some (.int n), some (.int (t + 1 : Nat))], fun σ' H2 z => ?_, ?_⟩
      · obtain ⟨z1, z2⟩ := z
        refine ⟨n - (t + 1), by omega, z1, t + 1, z2, rfl, by omega, fun u hu => ?_⟩
        rcases Nat.lt_or_ge u t with y | y
        · exact hl u y
        · have : u = t := by omega
          rw [this]
          exact hlt'
      · exact ⟨.int t, rfl, (t : Int), 1, rfl, rfl, rfl, rfl⟩
    · have hge : ¬ (t : Int) * t < n := fun z => e (decide_eq_true z)
      have hge' : ¬ t * t < n := fun z => hge (by exact_mod_cast z)
      refine ⟨.int t, rfl, .int t, rfl, (t : Int), (t : Int), rfl, rfl, .inl ⟨by omega, by omega⟩, .int n, rfl, rfl, _, rfl, ite2 (fun e2 => ?_) (fun e2 => ?_)⟩
      · have z : (t : Int) * t = n := V.int.inj (of_decide_eq_true e2)
        exact ⟨.int t, rfl, q1 t (by exact_mod_cast z)⟩
      · refine q2 fun u hu => ?_
        rcases Nat.lt_trichotomy u t with y | y | y
        · have := hl u y
          omega
        · subst y
          refine e2 (decide_eq_true (congrArg V.int ?_))
          exact_mod_cast hu
        · have := sq_lt y
          omega
/-! ### is_pair -/
def bel (x l : Int) : Bool := decide (0 ≤ x) && decide (x < l)
def spIsPair (K : PySem.W.Frag) : Sp := fun vs H Q _ => ∃ (a : Addr) (x y l : Int), vs = [.ref a, .int l] ∧ H a = some (.tup [.int x, .int y]) ∧ Q (.bl (bel x l && bel y l)) H
theorem ok_ispair {f fB : Addr} {fd dB : FuncData} {k : Nat} (F : Fun K "is_pair" "is_pair" sIsPair f fd) (FB : Fun K "is_below" "is_below" sBelow fB dB) (bB : Binds K dB ["value", "limit"] []) (gB : mg "is_below" = some (.ref fB)) (B : LibJ mg) :
    FnOk P w K mg base CX0 (k + 2) f fd ["value", "values"] (spIsPair K) := by
  have GB : FnOk P w K mg base CX0 (k + 1) fB dB ["value", "limit"] (spBelow K) := ok_below FB B
  refine F.ok scIsPair (fun vs H Q E h => ?_) (fun cdv A outer s H vs Q E hr h => ?_)
  · obtain ⟨a, x, y, l, rfl, _⟩ := h
    rfl
  · obtain ⟨a, x, y, l, rfl, ha, q⟩ := h
    refine ⟨_, pss_cons (ps_if (PW.pt (pw_or (pt_not (pt_val (pe_callB (isiK (K := K)) (by rfl) B.isi (by decide +kernel) (pa_cons (pv 0) (pa_cons (pe_bltn (v := .ty "tuple") (by rfl) B.tuple (by decide +kernel) rfl) pa_nil)))))
        (pw_or1 (pt_cmpR op_ne (pe_callB (lenK (K := K)) (by rfl) B.len PySem.boot_len (pa_cons (pv 0) pa_nil)) pe_int (nomark _))))) (pss_one (ps_ret pe_bl)) pss_nil)
      (pss_one (ps_ret (pe_and (pe_call GB hr (by rfl) gB FB.kp bB .nil pass0 (pa_cons (pe_ix (ixTupK (K := K)) (pv 0) pe_int (fun _ _ => rfl)) (pa_cons (pv 1) pa_nil)))
        (pe_one (pe_call GB hr (by rfl) gB FB.kp bB .nil pass0 (pa_cons (pe_ix (ixTupK (K := K)) (pv 0) pe_int (fun _ _ => rfl)) (pa_cons (pv 1) pa_nil))))))), ?_⟩
    refine ⟨.ref a, rfl, _, _, _, _, true, rfl, .ty "tuple", .base (.tup ha), kit_ty (by decide +kernel), _, rfl, iteF ?_⟩
    refine ⟨.ref a, rfl, a, _, rfl, .inr (SqT.of ha), rfl, _, rfl, iteNS rfl ?_⟩
    refine ⟨.ref a, rfl, a, _, 0, _, rfl, rfl, SqT.of ha, rfl, .int l, rfl, x, l, rfl, _, rfl, ?_⟩
    unfold bel at q
    cases hx : (decide (0 ≤ x) && decide (x < l)) with
    | false =>
      rw [hx] at q
      exact iteF q
    | true =>
      rw [hx] at q
      exact iteT ⟨.ref a, rfl, a, _, 1, _, rfl, rfl, SqT.of ha, rfl, .int l, rfl, y, l, rfl, q⟩
/-! ### are_different_pairs, where they are -/
def spDiff (K : PySem.W.Frag) : Sp := fun vs H Q _ => ∃ (a : Addr) (rs : List Addr) (ps : List (Int × Int)) (l : Int), vs = [.ref a, .int l] ∧ H a = some (.tup (rs.map V.ref)) ∧ PR H rs ps ∧ ps.length < 64 ∧ (∀ q ∈ ps, (0 ≤ q.1 ∧ q.1 < l) ∧ 0 ≤ q.2 ∧ q.2 < l) ∧ ps.Nodup ∧
  ∀ H', Same H H' → Q (.bl true) H'
def ksOf : List Addr → List (Int × Int) → List (Addr × List Int)
  | a :: rs, q :: ps => (a, [q.1, q.2]) :: ksOf rs ps
  | _, _ => []
theorem ksOf_refs : ∀ {rs : List Addr} {ps : List (Int × Int)}, rs.length = ps.length → (ksOf rs ps).map (fun p => V.ref p.1) = rs.map V.ref
  | [], [], _ => rfl
  | [], _ :: _, h => by cases h
  | _ :: _, [], h => by cases h
  | a :: rs, q :: ps, h => by
    have ih := ksOf_refs (rs := rs) (ps := ps) (by simpa using h)
    show V.ref a :: _ = V.ref a :: _
    rw [ih]
theorem ksOf_vals : ∀ {rs : List Addr} {ps : List (Int × Int)}, rs.length = ps.length → (ksOf rs ps).map (·.2) = ps.map fun q => [q.1, q.2]
  | [], [], _ => rfl
  | [], _ :: _, h => by cases h
  | _ :: _, [], h => by cases h
  | a :: rs, q :: ps, h => by
    have ih := ksOf_vals (rs := rs) (ps := ps) (by simpa using h)
    show [q.1, q.2] :: _ = [q.1, q.2] :: _
    rw [ih]
theorem ksOf_at {H : Hp} : ∀ {rs : List Addr} {ps : List (Int × Int)}, PR H rs ps → ∀ p ∈ ksOf rs ps, H p.1 = some (.tup (p.2.map V.int))
  | _, _, .nil, p, h => by cases h
  | _, _, .cons h0 t, p, h => by
    rcases List.mem_cons.mp h with z | z
    · rw [z]
      exact h0
    · exact ksOf_at t p z
theorem ok_diff {f fB fI : Addr} {fd dB dI : FuncData} {k : Nat} (F : Fun K "are_different_pairs" "are_different_pairs" sDiff f fd) (FB : Fun K "is_below" "is_below" sBelow fB dB) (bB : Binds K dB ["value", "limit"] []) (gB : mg "is_below" = some (.ref fB))
    (FI : Fun K "is_pair" "is_pair" sIsPair fI dI) (bI : Binds K dI ["value", "values"] []) (gI : mg "is_pair" = some (.ref fI)) (B : LibJ mg) (mset : mg "set" = none) :
    FnOk P w K mg base CX0 (k + 3) f fd ["value", "values"] (spDiff K) := by
  have GI : FnOk P w K mg base CX0 (k + 2) fI dI ["value", "values"] (spIsPair K) := ok_ispair FI FB bB gB B
  refine F.ok scDiff (fun vs H Q E h => ?_) (fun cdv A outer s H vs Q E hr h => ?_)
  · obtain ⟨a, rs, ps, l, rfl, _⟩ := h
    rfl
  · obtain ⟨a, rs, ps, l, rfl, ha, hP, lp, bd, nd, q⟩ := h
    have lr : rs.length = ps.length := Paired.length hP
    refine ⟨_, pss_cons (ps_if (pt_not (pt_val (pe_callB (isiK (K := K)) (by rfl) B.isi (by decide +kernel) (pa_cons (pv 0) (pa_cons (pe_bltn (v := .ty "tuple") (by rfl) B.tuple (by decide +kernel) rfl) pa_nil)))))
        (pss_one (ps_ret pe_bl)) pss_nil)
      (pss_cons (ps_if (pt_not (pt_val (pe_callB (allK (K := K) rfl) (by rfl) B.all (by decide +kernel) (pa_cons
          (pe_lc (own := [("pair", 2)]) (g := gName 2) (by rfl) scDiff.nd (piTupK (K := K) (pv 0))
            (blkOk_by (own := [("pair", 2)]) (N := ["value", "values", "pair"]) (sc := defScope sDiff) (by decide +kernel))
            (fun _ _ _ _ _ => pg_name (i := 2) scDiff.nd rfl (Or.inl rfl)) (fun _ _ _ _ _ => pts_nil)
            (fun _ _ _ _ _ => pe_call GI hr (by rfl) gI FI.kp bI .nil pass0 (pa_cons (pv 2) (pa_cons (pv 1) pa_nil)))) pa_nil))))
        (pss_one (ps_ret pe_bl)) pss_nil)
      (pss_one (ps_ret (pe_cmpR op_eq (pe_callB (lenSetT (K := K)) (by rfl) B.len PySem.boot_len (pa_cons (pe_callTy (setTT (K := K) rfl hr.units) (by rfl) mset (by decide +kernel) (pa_cons (pv 0) pa_nil)) pa_nil))
        (pe_callB (lenK (K := K)) (by rfl) B.len PySem.boot_len (pa_cons (pv 0) pa_nil)) (nomark _))))), ?_⟩
    refine ⟨.ref a, rfl, _, _, _, _, true, rfl, .ty "tuple", .base (.tup ha), kit_ty (by decide +kernel), _, rfl, iteF ?_⟩
    refine ⟨.ref a, rfl, a, rfl, ⟨_, SqT.of ha⟩, fun D nD => ?_⟩
    have sD := same_upd (o := .lst []) nD
    refine lc_tup (K := K) (a := a) (xs := rs.map V.ref) (fun i H2 => H2 D = some (.lst ((List.replicate i true).map V.bl)) ∧ Same H H2) ⟨upd_same, sD⟩ (fun i H2 _ h => SqT.of (h.2 _ _ ha)) ?_ ?_
    · rintro i x H2 hx ⟨hD, s2⟩
      obtain ⟨c, hc, rfl⟩ := ref_at hx
      obtain ⟨m, hm, hq⟩ := paired_get hP hc
      have b1 := bd m (List.mem_of_getElem? hm)
      have il := (List.getElem?_eq_some_iff.mp hm).1
      refine ⟨rfl, yesI ⟨.ref c, rfl, .int l, rfl, c, m.1, m.2, l, rfl, s2 _ _ hq, _, hD, ?_, ?_, ?_⟩⟩
      · rw [List.length_map, List.length_replicate]
        exact lenLine (by omega)
      · rw [upd_same, List.replicate_succ', List.map_append]
        unfold bel
        rw [decide_eq_true b1.1.1, decide_eq_true b1.1.2, decide_eq_true b1.2.1, decide_eq_true b1.2.2]
        rfl
      · intro b o hb
        rw [upd_ne (ne_of_none hb nD)]
        exact s2 _ _ hb
    · rintro H2 ⟨hD, s2⟩
      refine ⟨D, _, rfl, SqL.of hD, _, rfl, ?_⟩
      rw [show (List.replicate (rs.map V.ref).length true).all id = true by simp]
      refine iteF ?_
      have ks1 := ksOf_at (hP.same s2)
      refine ⟨.ref a, rfl, a, ksOf rs ps, rfl, ?_, fun p hp => SqT.of (ks1 p hp), ?_, fun S L nS sub all nodup => ?_⟩
      · rw [ksOf_refs lr]
        exact SqT.of (s2 _ _ ha)
      · have := congrArg List.length (ksOf_vals lr)
        rw [List.length_map, List.length_map] at this
        omega
      have sS := same_upd (o := SetTO P w S L) nS
      refine ⟨S, L, rfl, upd_same, fun p hp => SqT.of (sS _ _ (ks1 p (sub p hp))), .ref a, rfl, a, _, rfl, .inr (SqT.of (sS _ _ (s2 _ _ ha))), rfl, ?_⟩
      have ndk : ((ksOf rs ps).map (·.2)).Nodup := by
        rw [ksOf_vals lr]
        refine List.pairwise_map.mpr (nd.imp fun {x y} hxy z => hxy ?_)
        have z1 : x.1 = y.1 := by injection z
        have z2 : x.2 = y.2 := by
          injection z with _ z
          injection z
        exact Prod.ext z1 z2
      have pm : (L.map (·.2)).Perm ((ksOf rs ps).map (·.2)) := by
        refine (List.perm_ext_iff_of_nodup nodup ndk).mpr fun v => ⟨fun hv => ?_, fun hv => ?_⟩
        · obtain ⟨p, hp, rfl⟩ := List.mem_map.mp hv
          exact List.mem_map.mpr ⟨p, sub p hp, rfl⟩
        · obtain ⟨p, hp, rfl⟩ := List.mem_map.mp hv
          exact all p hp
      have ll : L.length = (rs.map V.ref).length := by
        have := pm.length_eq
        rw [ksOf_vals lr, List.length_map, List.length_map] at this
        rw [List.length_map]
        omega
      rw [decide_eq_true (show V.int (L.length : Int) = V.int ((rs.map V.ref).length : Int) by rw [ll])]
      exact q _ (s2.trans sS)
end
end Nm

namespace Nm
open PySem PySem.Spec PyProof.Rows L2 GL
abbrev sFewest : Stmt := topS 10
theorem scFewest : FnScope ["mirrors", "values"] ["mirrors"] (defScope sFewest) := ⟨rfl, rfl, rfl, by decide +kernel, rfl, by decide +kernel, by decide +kernel⟩
theorem layRows : ∀ T : List (List Int), PyData.canLayAll0 (T.map rowD) = true
  | [] => by simp [PyData.canLayAll0]
  | row :: T => by simp [PyData.canLayAll0, rowD, PyData.canLay0, layInts, layRows T]
theorem shapedTbl (T : List (List Int)) : SeqAt.shaped (tblD T) = true := by
  have h := depth_tbl T
  simp only [SeqAt.shaped, tblD, PyData.canLay0, layRows, Bool.true_and]
  exact decide_eq_true (by have := depth_tbl T; unfold tblD at this; omega)
theorem eqvTbl (T : List (List Int)) : PyData.eqv (tblD T) (tblD T) = true := SeqAt.eqv_refl _ (by simp only [tblD, PyData.canLay0, layRows])
section
variable {P : Program} {w : World} {K : PySem.W.Frag} {mg : Str → Option Value} {base : Heap}
structure Nam (K : PySem.W.Frag) (mg : Str → Option Value) (fB fO fS fI fD fW : Addr) (dB dO dS dI dD dW : FuncData) : Prop where
  B : Fun K "is_below" "is_below" sBelow fB dB
  O : Fun K "rule_of" "rule_of" sRuleOf fO dO
  S : Fun K "side_of" "side_of" sSide fS dS
  I : Fun K "is_pair" "is_pair" sIsPair fI dI
  D : Fun K "are_different_pairs" "are_different_pairs" sDiff fD dD
  W : Fun K "shows_names" "shows_names" sShows fW dW
  bB : Binds K dB ["value", "limit"] []
  bO : Binds K dO ["names"] []
  bS : Binds K dS ["count"] []
  bI : Binds K dI ["value", "values"] []
  bD : Binds K dD ["value", "values"] []
  bW : Binds K dW ["rule", "value"] []
  gB : mg "is_below" = some (.ref fB)
  gO : mg "rule_of" = some (.ref fO)
  gS : mg "side_of" = some (.ref fS)
  gI : mg "is_pair" = some (.ref fI)
  gD : mg "are_different_pairs" = some (.ref fD)
  gW : mg "shows_names" = some (.ref fW)
def spShows (K : PySem.W.Frag) : Sp := fun vs H Q _ => ∃ (p a : Addr) (rs : List Addr) (ps : List (Int × Int)) (v : Nat), vs = [.ref p, .ref a] ∧ Tbl H p (ofPrs ps) ∧ H a = some (.tup (rs.map V.ref)) ∧ PR H rs ps ∧ ps.length = v * v ∧ ps.length < 64 ∧
  (∀ q ∈ ps, (0 ≤ q.1 ∧ q.1 < (v : Int)) ∧ 0 ≤ q.2 ∧ q.2 < (v : Int)) ∧ ps.Nodup ∧ ∀ H', Same H H' → Q (.bl true) H'
theorem sq_inj {a b : Nat} (h : a * a = b * b) : a = b := by
  rcases Nat.lt_trichotomy a b with y | y | y
  · have := sq_lt y
    omega
  · exact y
  · have := sq_lt y
    omega
theorem ok_shows {fB fO fS fI fD fW : Addr} {dB dO dS dI dD dW : FuncData} {k : Nat} (N : Nam K mg fB fO fS fI fD fW dB dO dS dI dD dW) (B : LibJ mg) (mset : mg "set" = none) :
    FnOk P w K mg base CX0 (k + 4) fW dW ["rule", "value"] (spShows K) := by
  have GS : FnOk P w K mg base CX0 (k + 3) fS dS ["count"] (spSide K) := ok_side N.S
  have GD : FnOk P w K mg base CX0 (k + 3) fD dD ["value", "values"] (spDiff K) := ok_diff N.D N.B N.bB N.gB N.I N.bI N.gI B mset
  have GO : FnOk P w K mg base CX0 (k + 3) fO dO ["names"] (spRuleOf K) := ok_ruleof N.O B
  refine N.W.ok scShows (fun vs H Q E h => ?_) (fun cdv A outer s H vs Q E hr h => ?_)
  · obtain ⟨p, a, rs, ps, v, rfl, _⟩ := h
    rfl
  · obtain ⟨p, a, rs, ps, v, rfl, hT, ha, hP, lv, lp, bd, nd, q⟩ := h
    refine ⟨_, pss_cons (ps_set (i := 2) scShows.nd rfl (.inl rfl) (pe_call GS hr (by rfl) N.gS N.S.kp N.bS .nil pass0 (pa_cons (pe_callB (lenK (K := K)) (by rfl) B.len PySem.boot_len (pa_cons (pv 0) pa_nil)) pa_nil)))
      (pss_cons (ps_if (PW.pt (pw_or (pt_cmpR op_isN (pv 2) pe_non (nomark _)) (pw_or1 (pt_not (pt_val (pe_call GD hr (by rfl) N.gD N.D.kp N.bD .nil pass0 (pa_cons (pv 1) (pa_cons (pv 2) pa_nil)))))))) (pss_one (ps_ret pe_bl)) pss_nil)
      (pss_one (ps_ret (pe_cmpR (op_eqD hr.units) (pe_call GO hr (by rfl) N.gO N.O.kp N.bO .nil pass0 (pa_cons (pv 1) pa_nil)) (pv 0) (nomark _))))), ?_⟩
    have hT0 := hT
    obtain ⟨rs0, hp, hR⟩ := hT0
    have l0 : (rs0.map V.ref).length = ps.length := by
      rw [List.length_map, Paired.length hR]
      unfold ofPrs
      rw [List.length_map]
    refine ⟨.ref p, rfl, p, _, rfl, .inr (SqT.of hp), (rs0.map V.ref).length, rfl, by omega, fun t ht => ?_, fun hno => absurd (by omega) (hno v)⟩
    have tv : t = v := sq_inj (by omega)
    subst tv
    refine ⟨_, rfl, rfl, _, rfl, iteF ?_⟩
    refine ⟨.ref a, rfl, .int t, rfl, a, rs, ps, t, rfl, ha, hP, lp, bd, nd, fun H1 s1 => ⟨_, rfl, iteF ?_⟩⟩
    refine ⟨.ref a, rfl, a, rs, ps, rfl, .inr (s1 _ _ ha), hP.same s1, by omega, fun o H2 no s2 hT2 => ?_⟩
    refine ⟨.ref p, rfl, tblD (ofPrs ps), tblD (ofPrs ps), dpTbl hT2, dpTbl ((hT.same s1).same s2), shapedTbl _, shapedTbl _, ?_⟩
    rw [eqvTbl]
    exact q H2 (s1.trans s2)
def spFewest (K : PySem.W.Frag) : Sp := fun vs H Q _ => ∃ m : Int, vs = [.int m] ∧ 0 ≤ m ∧ m < 1000 ∧ Q (.int ((m + 1) * (m + 1))) H
theorem ok_fewest {f : Addr} {fd : FuncData} {k : Nat} (F : Fun K "fewest_marks" "fewest_marks" sFewest f fd) : FnOk P w K mg base CX0 (k + 1) f fd ["mirrors"] (spFewest K) := by
  refine F.ok scFewest (fun vs H Q E h => ?_) (fun cdv A outer s H vs Q E hr h => ?_)
  · obtain ⟨m, rfl, _⟩ := h
    rfl
  · obtain ⟨m, rfl, m0, m1, q⟩ := h
    refine ⟨_, pss_cons (ps_set (i := 1) scFewest.nd rfl (.inl rfl) (pe_op op_add (pv 0) pe_int)) (pss_one (ps_ret (pe_op op_mul (pv 1) (pv 1)))), ?_⟩
    exact ⟨.int m, rfl, m, 1, rfl, rfl, _, rfl, _, rfl, _, _, rfl, rfl, .inl ⟨by omega, by omega⟩, q⟩
end
end Nm

namespace Nm
open PySem PySem.Spec PyProof.Rows L2 GL
abbrev sMay : Stmt := topS 14
theorem scMay : FnScope ["rule", "mark", "other"] ["rule", "mark", "other"] (defScope sMay) := ⟨rfl, rfl, rfl, by decide +kernel, rfl, by decide +kernel, by decide +kernel⟩
section
variable {P : Program} {w : World} {K : PySem.W.Frag} {mg : Str → Option Value} {base : Heap}
/-! ### may_follow -/
def spMay (K : PySem.W.Frag) : Sp := fun vs H Q _ => ∃ (p : Addr) (T : List (List Int)) (m o : Int), vs = [.ref p, .int m, .int o] ∧ Tbl H p T ∧ 0 ≤ m ∧ Q (.bl (decide (o ∈ T.getD m.toNat []))) H
theorem ok_may {f : Addr} {fd : FuncData} {k : Nat} (F : Fun K "may_follow" "may_follow" sMay f fd) (ml : mg "len" = none) : FnOk P w K mg base CX0 (k + 1) f fd ["rule", "mark", "other"] (spMay K) := by
  refine F.ok scMay (fun vs H Q E h => ?_) (fun cdv A outer s H vs Q E hr h => ?_)
  · obtain ⟨p, T, m, o, rfl, _⟩ := h
    rfl
  · obtain ⟨p, T, m, o, rfl, ⟨rs, hp, hR⟩, m0, q⟩ := h
    refine ⟨_, pss_one (ps_ret (pe_and (pe_chain op_le op_lt pe_int (pv 1) (pe_callB (lenK (K := K)) (by rfl) ml PySem.boot_len (pa_cons (pv 0) pa_nil)))
      (pe_one (pe_cmpR (inK (K := K)) (pv 2) (pe_ix (ixTupK (K := K)) (pv 0) (pv 1) (fun _ _ => rfl)) (by rfl))))), ?_⟩
    have lr : rs.length = T.length := Paired.length hR
    refine ⟨.int m, rfl, 0, m, rfl, rfl, _, rfl, ?_⟩
    rw [decide_eq_true m0]
    refine iteT ⟨.ref p, rfl, p, _, rfl, .inr (SqT.of hp), m, _, rfl, rfl, _, rfl, ite2 (fun e => ?_) (fun e => ?_)⟩
    · have hm : m < ((rs.map V.ref).length : Int) := of_decide_eq_true e
      rw [List.length_map] at hm
      have hi : m.toNat < rs.length := by omega
      obtain ⟨row, hrw, hc⟩ := paired_get hR (List.getElem?_eq_getElem hi)
      have at1 : atI (rs.map V.ref) m = some (.ref rs[m.toNat]) := by
        have z := atI_nat (xs := rs.map V.ref) (j := m.toNat) (v := .ref rs[m.toNat]) (by rw [List.getElem?_map, List.getElem?_eq_getElem hi]; rfl)
        rw [show ((m.toNat : Nat) : Int) = m by omega] at z
        exact z
      refine ⟨.int o, rfl, .ref p, rfl, .int m, rfl, p, _, m, _, rfl, rfl, SqT.of hp, at1, _, _, rfl, .inr (SqT.of hc), rfl, flat_ints row, ?_⟩
      show Q (.bl (inV (.int o) (row.map V.int))) H
      rw [inV_int]
      rw [List.getD_eq_getElem?_getD, hrw] at q
      exact q
    · have hm : ¬ m < ((rs.map V.ref).length : Int) := fun z => e (decide_eq_true z)
      rw [List.length_map, lr] at hm
      rw [List.getD_eq_getElem?_getD, List.getElem?_eq_none (by omega)] at q
      have z : decide (o ∈ (none : Option (List Int)).getD []) = false := by simp
      rw [z] at q
      exact q
end
end Nm

/-! a def of one parameter, called by its keyword -/
namespace GL
open PySem PySem.Spec PyProof.Rows L2
def tCallKw (sp : Sp) (te : TE) : TE := fun σ H Q => te σ H fun v H1 => sp [v] H1 Q E0
theorem bindKw {K : PySem.W.Frag} {x qual kx : Str} {st : Stmt} {f : Addr} {fd : FuncData} (F : Fun K x qual st f fd)
    (h : ∀ (kV doc pm : Value) (an : Option Addr) (cdv ct u : Value), bindArgs (PySem.W.fnOf x qual (defArgs st) (defBody st) (defScope st) .none kV doc pm an cdv ct) ⟨[], [(kx, u)]⟩ = pure [(kx, u)]) :
    ∀ (s : Shared) (u : Value), BindsTo s fd ⟨[], [(kx, u)]⟩ [(kx, u)] := by
  obtain ⟨oc, od, kV, doc, pm, an, cdv, ct, osl, rfl, lk, hcd⟩ := F.ex
  exact fun s u => .of_eq (h kV doc pm an cdv ct u)
theorem callKw {X : Cx} {k : Nat} {f : Addr} {fd : FuncData} {kx x : Str} {sp : Sp} {p pos kpos : Pos} {e : Expr} {te : TE} (F : FnOk X.prog X.w X.K X.mg X.base CX0 k f fd [kx] sp) (hr : Room k X.A) (hg : Gl X x) (hm : X.mg x = some (.ref f))
    (hk : PySem.W.keepIn X.K (.ref f) = true) (hb : ∀ (s : Shared) (u : Value), BindsTo s fd ⟨[], [(kx, u)]⟩ [(kx, u)]) (he : PE X e te)
    (hall : (backToKw pos (keywordEach [⟨some kx, e, kpos⟩] X.env)).all (·.1.isSome) = true := by rfl) (hks : (backToKw pos (keywordEach [⟨some kx, e, kpos⟩] X.env)).filterMap (·.1) = [kx] := by rfl)
    (hdb : (x == ("__debug__" : Str)) = false := by decide) (hpl : ((backTo pos (starEach [] X.env)).any (·.1) || (backToKw pos (keywordEach [⟨some kx, e, kpos⟩] X.env)).any (·.1.isNone)) = false := by rfl) :
    PE X (.Call (.Name x p) [] [⟨some kx, e, kpos⟩] pos) (tCallKw sp te) := by
  constructor
  intro pins s σ H Q I h
  apply wpAny_Call_Name_kw
  refine ld_glob I hg hm ?_ hdb
  refine PySem.W.callWith_KW0 (h₀ := X.base) I.ok.mod.kin hk hall ?_ hpl
  refine thn ((pk_cons he pk_nil).run pos pins s σ H (fun zs H1 => ∃ v, zs = [v] ∧ sp [v] H1 Q E0) I ?_) ?_
  · show te σ H _
    have z : tCallKw sp te σ H Q := h
    refine cast (congrArg (te σ H) ?_) z
    funext v H1
    refine propext ⟨fun y => ⟨v, rfl, y⟩, fun ⟨v', e1, y⟩ => ?_⟩
    cases e1
    exact y
  · rintro ws s2 ⟨zs, H2, I2, rz, v, rfl, q2⟩
    refine ⟨I2.kIn, ?_⟩
    rw [hks]
    cases rz with
    | cons r rr =>
      cases rr
      apply wpAny_call
      refine codeAny_mono (F.run X.A X.stack s2 H2 ⟨[], [(kx, _)]⟩ [_] [v] Q E0 hr I2.env0 (hb s2 _) (.cons r .nil) q2) fun res s' hq => ?_
      rcases res with e | fl
      · exact False.elim hq
      · rcases fl with _ | _ | _ | u
        all_goals first | exact False.elim hq | exact I2.after hq
end GL

namespace Nm
open PySem PySem.Spec PyProof.Rows L2 GL
abbrev sRight : Stmt := topS 18
abbrev sDrawn : Stmt := topS 19
abbrev sLaw : Stmt := topS 20
abbrev nRight : List Str := ["_law_wide", "_law_table", "_law_one", "_law_row", "_law_due", "_law_pairs", "_law_two"]
theorem scRight : FnScope nRight ["_law_wide"] (defScope sRight) := ⟨rfl, rfl, rfl, by decide +kernel, rfl, by decide +kernel, by decide +kernel⟩
abbrev nDrawn : List Str := ["_law_pot_here", "_law_turn", "_law_wide", "_law_one", "_law_two"]
theorem scDrawn : FnScope nDrawn ["_law_pot_here"] (defScope sDrawn) := ⟨rfl, rfl, rfl, by decide +kernel, rfl, by decide +kernel, by decide +kernel⟩
abbrev nLaw : List Str := ["_law_script", "_law_told", "_law_wide", "_law_k", "_law_m"]
theorem scLaw : FnScope nLaw ["_law_script"] (defScope sLaw) := ⟨rfl, rfl, rfl, by decide +kernel, rfl, by decide +kernel, by decide +kernel⟩
/-! ### named marks with one to four values -/
def dueTo (n i m : Nat) : List Int := ((List.range m).filter fun (two : Nat) => decide (two / n = i % n)).map fun (two : Nat) => (two : Int)
theorem due_yes {n i m : Nat} (h : m / n = i % n) : dueTo n i (m + 1) = dueTo n i m ++ [(m : Int)] := by
  unfold dueTo
  rw [List.range_succ, List.filter_append, List.map_append]
  simp [h]
theorem due_no {n i m : Nat} (h : m / n ≠ i % n) : dueTo n i (m + 1) = dueTo n i m := by
  unfold dueTo
  rw [List.range_succ, List.filter_append, List.map_append]
  simp [h]
theorem due_len (n i m : Nat) : (dueTo n i m).length ≤ m := by
  unfold dueTo
  rw [List.length_map]
  exact Nat.le_trans (List.length_filter_le _ _) (by simp)
theorem named_rows {n : Nat} (h1 : 1 ≤ n) (h4 : n ≤ 4) : (ofPrs (prsTo n n)) = (List.range (n * n)).map fun i => dueTo n i (n * n) := by
  obtain rfl | rfl | rfl | rfl : n = 1 ∨ n = 2 ∨ n = 3 ∨ n = 4 := by omega
  all_goals decide +kernel
theorem prs_eq {n : Nat} (h1 : 1 ≤ n) (h4 : n ≤ 4) : prsTo n n = (List.range (n * n)).map fun (i : Nat) => (((i / n : Nat) : Int), ((i % n : Nat) : Int)) := by
  obtain rfl | rfl | rfl | rfl : n = 1 ∨ n = 2 ∨ n = 3 ∨ n = 4 := by omega
  all_goals decide +kernel
theorem prs_bd {n : Nat} (h1 : 1 ≤ n) (h4 : n ≤ 4) : ∀ q ∈ prsTo n n, (0 ≤ q.1 ∧ q.1 < (n : Int)) ∧ 0 ≤ q.2 ∧ q.2 < (n : Int) := by
  obtain rfl | rfl | rfl | rfl : n = 1 ∨ n = 2 ∨ n = 3 ∨ n = 4 := by omega
  all_goals decide +kernel
theorem prs_nd {n : Nat} (h1 : 1 ≤ n) (h4 : n ≤ 4) : (prsTo n n).Nodup := by
  obtain rfl | rfl | rfl | rfl : n = 1 ∨ n = 2 ∨ n = 3 ∨ n = 4 := by omega
  all_goals decide +kernel
theorem fdiv_nat (a n : Nat) : ((a : Int)).fdiv (n : Int) = ((a / n : Nat) : Int) := by
  rw [Int.fdiv_eq_ediv_of_nonneg _ (Int.natCast_nonneg n)]
  norm_cast
theorem mod_nat (a n : Nat) : (a : Int) % (n : Int) = ((a % n : Nat) : Int) := by norm_cast
theorem sq16 {n : Nat} (h : n ≤ 4) : n * n ≤ 16 := Nat.mul_le_mul h h
section
variable {P : Program} {w : World} {K : PySem.W.Frag} {mg : Str → Option Value} {base : Heap}
structure Jd4 (K : PySem.W.Frag) (mg : Str → Option Value) (fA fR fM fNR : Addr) (dA dR dM dNR : FuncData) : Prop where
  A : Fun K "is_ascending" "is_ascending" sAsc fA dA
  R : Fun K "is_rule" "is_rule" sIsRule fR dR
  M : Fun K "may_follow" "may_follow" sMay fM dM
  NR : Fun K "named_rule" "named_rule" sNamedRule fNR dNR
  bA : Binds K dA ["value", "limit"] []
  bR : Binds K dR ["value"] []
  bM : Binds K dM ["rule", "mark", "other"] []
  bNR : Binds K dNR ["values"] []
  gA : mg "is_ascending" = some (.ref fA)
  gR : mg "is_rule" = some (.ref fR)
  gM : mg "may_follow" = some (.ref fM)
  gNR : mg "named_rule" = some (.ref fNR)
def spRight4 (K : PySem.W.Frag) : Sp := fun vs H Q _ => ∃ n : Nat, vs = [.int n] ∧ 1 ≤ n ∧ n ≤ 4 ∧ ∀ H', Same H H' → Q (.bl true) H'
set_option maxHeartbeats 4000000 in
theorem ok_right {f fB fO fS fI fD fW fA fR fM fNR : Addr} {fd dB dO dS dI dD dW dA dR dM dNR : FuncData} {k : Nat} (F : Fun K "_law_right" "_law_right" sRight f fd) (N : Nam K mg fB fO fS fI fD fW dB dO dS dI dD dW) (J : Jd4 K mg fA fR fM fNR dA dR dM dNR)
    (B : LibJ mg) (mset : mg "set" = none) (menum : mg "enumerate" = none) (mrepr : mg "repr" = none) {tm : Tok} (mm : mg "MOST_MARKS" = some (.int 16 tm)) :
    FnG P w K mg base (k + 5) f fd ["_law_wide"] (spRight4 K) := by
  have GN : FnOk P w K mg base CX0 (k + 4) fNR dNR ["values"] (spNamedRule K) := ok_namedrule J.NR N.O N.bO N.gO B
  have GR : FnOk P w K mg base CX0 (k + 4) fR dR ["value"] (spIsRule K) := ok_isrule J.R J.A N.B J.bA J.gA N.bB N.gB B mm
  have GW : FnOk P w K mg base CX0 (k + 4) fW dW ["rule", "value"] (spShows K) := ok_shows N B mset
  have kwN := bindKw (kx := "values") J.NR fun _ _ _ _ _ _ _ => rfl
  refine funG F scRight (fun vs H Q E h => ?_) (fun cdv A outer s H vs Q E gu hr h => ?_)
  · obtain ⟨n, rfl, _⟩ := h
    rfl
  · obtain ⟨n, rfl, n1, n4, q⟩ := h
    refine ⟨_, pss_cons (ps_set (i := 1) scRight.nd rfl (.inl rfl) (pe_call GN hr (by rfl) J.gNR J.NR.kp J.bNR .nil pass0 (pa_cons (pv 0) pa_nil)))
      (pss_cons (ps_if (PW.pt (pw_or (pt_not (pt_val (pe_call GR hr (by rfl) J.gR J.R.kp J.bR .nil pass0 (pa_cons (pv 1) pa_nil))))
          (pw_or1 (pt_cmpR op_ne (pe_callB (lenK (K := K)) (by rfl) B.len PySem.boot_len (pa_cons (pv 1) pa_nil)) (pe_op op_mul (pv 0) (pv 0)) (nomark _))))) (pss_one (ps_ret pe_bl)) pss_nil)
      (pss_cons (ps_for PassesOwn.never rfl (pi_enumT (K := K) (by rfl) menum (pa_cons (pv 1) pa_nil))
          (pgTupK (K := K) rfl (pgs_cons (pg_name (i := 2) scRight.nd rfl (.inr rfl)) (pgs_cons (pg_name (i := 3) scRight.nd rfl (.inl rfl)) pgs_nil)))
        (pss_cons (ps_setLc (i := 4) (own := [("_law_two", 6)]) (g := gName 6) (by rfl) scRight.nd rfl rfl (sw_true rfl rfl rfl (by decide +kernel)) (pi_range1 (by rfl) B.range (pa_cons (pe_op op_mul (pv 0) (pv 0)) pa_nil))
            (blkOk_by (own := [("_law_two", 6)]) (N := nRight) (sc := defScope sRight) (by decide +kernel))
            (fun _ _ _ _ _ => pg_name (i := 6) scRight.nd rfl (Or.inl rfl))
            (fun _ _ _ _ _ => pts_one (pt_cmpR op_eq (pe_op op_fdivN (pv 6) (pv 0)) (pe_op op_mod (pv 2) (pv 0)) (nomark _)))
            (fun _ _ _ _ _ => pv 6))
        (pss_one (ps_if (pt_cmpR op_ne (pe_callB (reprG gu hr.units) (by rfl) mrepr (by decide +kernel) (pa_cons (pv 3) pa_nil))
            (pe_callB (reprG gu hr.units) (by rfl) mrepr (by decide +kernel) (pa_cons (pe_callTy (tupOfK (K := K)) (by rfl) B.tuple (by decide +kernel) (pa_cons (pv 4) pa_nil)) pa_nil)) (nomark _))
          (pss_one (ps_ret pe_bl)) pss_nil))))
      (pss_cons (ps_set (i := 5) scRight.nd rfl (.inl rfl) (pe_callTy (tupOfK (K := K)) (by rfl) B.tuple (by decide +kernel) (pa_cons
          (pe_lc (own := [("_law_one", 2)]) (g := gName 2) (by rfl) scRight.nd (pi_range1 (by rfl) B.range (pa_cons (pe_op op_mul (pv 0) (pv 0)) pa_nil))
            (blkOk_by (own := [("_law_one", 2)]) (N := nRight) (sc := defScope sRight) (by decide +kernel))
            (fun _ _ _ _ _ => pg_name (i := 2) scRight.nd rfl (Or.inl rfl)) (fun _ _ _ _ _ => pts_nil)
            (fun _ _ _ _ _ => pe_tup (pa_cons (pe_op op_fdivN (pv 2) (pv 0)) (pa_cons (pe_op op_mod (pv 2) (pv 0)) pa_nil)))) pa_nil)))
      (pss_one (ps_ret (pe_and (pe_cmpR op_isBl (pe_call GW hr (by rfl) N.gW N.W.kp N.bW .nil pass0 (pa_cons (pv 1) (pa_cons (pv 5) pa_nil))) pe_bl (nomark _))
        (pe_one (pe_cmpR op_eq (pe_callB (reprG gu hr.units) (by rfl) mrepr (by decide +kernel) (pa_cons (callKw GN hr (by rfl) J.gNR J.NR.kp kwN (pv 0)) pa_nil))
          (pe_callB (reprG gu hr.units) (by rfl) mrepr (by decide +kernel) (pa_cons (pv 1) pa_nil)) (nomark _))))))))), ?_⟩
    refine ⟨.int n, rfl, n, rfl, n4, fun p H1 s1 hT => ?_⟩
    have rule := named_rule n1 n4
    have rows := named_rows n1 n4
    have n16 := sq16 n4
    have nn : (n : Int) * n = ((n * n : Nat) : Int) := by norm_cast
    have hT0 := hT
    obtain ⟨rs, hp, hR⟩ := hT0
    have lT : (ofPrs (prsTo n n)).length = n * n := by
      unfold ofPrs
      rw [List.length_map, prsTo_length]
    have lr : rs.length = n * n := by rw [Paired.length hR, lT]
    refine ⟨.ref p, rfl, p, _, rfl, hT, rule, fun H2 s2 => ⟨_, rfl, iteF ?_⟩⟩
    refine ⟨.ref p, rfl, p, _, rfl, .inr (SqT.of (s2 _ _ hp)), .int n, rfl, .int n, rfl, (n : Int), (n : Int), rfl, rfl, .inl ⟨by omega, by omega⟩, rfl, _, rfl, iteNS ?_ ?_⟩
    · dsimp only
      rw [List.length_map, lr, nn]
    have s12 := s1.trans s2
    have hp2 := s2 _ _ hp
    have hR2 := hR.same s2
    have hT2 := hT.same s2
    clear hT hp hR
    generalize hTe : ofPrs (prsTo n n) = T at hT2 hR2 rule rows lT
    refine ⟨.ref p, rfl, p, _, rfl, SqT.of hp2, for_it (walkET (K := K) (a := p) (xs := rs.map V.ref)) (fun i σ H' => ∃ (y2 y3 y4 y6 : Option V), σ = [some (.int n), some (.ref p), y2, y3, y4, none, y6] ∧ Same H2 H') ⟨none, none, none, none, rfl, Same.refl _⟩ (fun i σ H' _ h => ?_) ?_ ?_⟩
    · obtain ⟨_, _, _, _, _, sm⟩ := h
      exact SqT.of (sm _ _ hp2)
    · rintro i x σ H3 H4 hi ⟨y2, y3, y4, y6, rfl, s3⟩ ⟨Tp, a, b, rfl, nTp, rfl, ea, eb⟩
      obtain rfl : V.int (i : Nat) = a := Option.some.inj ea
      obtain ⟨c, hc, rfl⟩ := ref_at eb
      obtain ⟨row, hrw, hcell⟩ := paired_get hR2 hc
      have iT : i < n * n := by
        rw [List.length_map, lr] at hi
        exact hi
      have erow : row = dueTo n i (n * n) := by
        rw [rows, List.getElem?_map, List.getElem?_range iT] at hrw
        exact (Option.some.inj hrw).symm
      have sm16 := rule_sm rule row (List.mem_of_getElem? hrw)
      have sT := same_upd (o := .tup [.int (i : Nat), .ref c]) nTp
      have hTp : upd H3 Tp (.tup [.int (i : Nat), .ref c]) Tp = some (.tup [.int (i : Nat), .ref c]) := upd_same
      have s4 := s3.trans sT
      generalize upd H3 Tp (.tup [.int (i : Nat), .ref c]) = H4 at sT hTp s4 ⊢
      refine ⟨Tp, _, rfl, SqT.of hTp, rfl, _, _, rfl, _, _, rfl, rfl, ?_⟩
      refine ⟨.int n, rfl, .int n, rfl, (n : Int), (n : Int), rfl, rfl, .inl ⟨by omega, by omega⟩, _, rfl, by rw [nn]; omega, by rw [nn]; omega, fun D nD => ?_⟩
      rw [nn, Int.toNat_natCast]
      have sD := same_upd (o := .lst []) nD
      refine lc_range (lo := 0) (n := n * n) (fun m H5 => H5 D = some (.lst ((dueTo n i m).map V.int)) ∧ Same H4 H5) ⟨upd_same, sD⟩ ?_ ?_
      · rintro m H5 hm ⟨hD, s5⟩
        have dl := due_len n i m
        refine ⟨rfl, .int (0 + m), rfl, .int n, rfl, _, (n : Int), rfl, rfl, ⟨by omega, by omega⟩, .int i, rfl, .int n, rfl, (i : Int), (n : Int), rfl, rfl, (by show (0 : Int) < (n : Int); omega), rfl, _, rfl, ?_⟩
        rw [Int.zero_add]
        refine ite2 (fun e => ?_) (fun e => ?_)
        · have e' : m / n = i % n := by
            have z : (m : Int).fdiv (n : Int) = (i : Int) % (n : Int) := V.int.inj (of_decide_eq_true e)
            rw [fdiv_nat, mod_nat] at z
            exact_mod_cast z
          refine ⟨.int m, rfl, _, hD, by rw [List.length_map]; exact lenLine (by omega), ?_, ?_⟩
          · rw [upd_same, due_yes e', List.map_append]
            rfl
          · intro b o hb
            rw [upd_ne (ne_of_none hb nD)]
            exact s5 _ _ hb
        · have e' : m / n ≠ i % n := fun z => e (decide_eq_true (by show V.int ((m : Int).fdiv (n : Int)) = V.int ((i : Int) % (n : Int)); rw [fdiv_nat, mod_nat, z]))
          refine ⟨?_, s5⟩
          rw [due_no e']
          exact hD
      · rintro H5 ⟨hD, s5⟩
        rw [← erow] at hD
        have sh := shows_row sm16.1
        have shl := sh.len
        have rl := sm16.2
        have dr := depth_row row
        have hc5 := s5 _ _ (s4 _ _ hcell)
        refine ⟨.ref c, rfl, c, rowD row, rfl, dpRow hc5, sh.ok, sh.nd, by omega, lineBig (by omega), ?_⟩
        refine ⟨.ref D, rfl, D, _, rfl, .inl ⟨SqL.of hD, fun t nt => ?_⟩⟩
        have st := same_upd (o := .tup (row.map V.int)) nt
        refine ⟨t, rowD row, rfl, dpRow upd_same, sh.ok, sh.nd, by omega, lineBig (by omega), rfl, _, rfl, iteNS (Eq.refl _) ⟨_, _, _, _, rfl, s4.trans (s5.trans st)⟩⟩
    · rintro σ H3 ⟨y2, y3, y4, y6, rfl, s3⟩
      refine ⟨.int n, rfl, .int n, rfl, (n : Int), (n : Int), rfl, rfl, .inl ⟨by omega, by omega⟩, _, rfl, by rw [nn]; omega, by rw [nn]; omega, fun D nD => ?_⟩
      rw [nn, Int.toNat_natCast]
      have sD := same_upd (o := .lst []) nD
      refine lc_range (lo := 0) (n := n * n) (fun m H5 => ∃ ts : List Addr, H5 D = some (.lst (ts.map V.ref)) ∧ PR H5 ts ((List.range m).map fun (i : Nat) => (((i / n : Nat) : Int), ((i % n : Nat) : Int))) ∧ ts.length = m ∧ Same H3 H5) ⟨[], upd_same, .nil, rfl, sD⟩ ?_ ?_
      · rintro m H5 hm ⟨ts, hD, hP, lt, s5⟩
        refine ⟨rfl, yesI ⟨.int (0 + m), rfl, .int n, rfl, _, (n : Int), rfl, rfl, ⟨by omega, by omega⟩, .int (0 + m), rfl, .int n, rfl, _, (n : Int), rfl, rfl, (by show (0 : Int) < (n : Int); omega), by show 2 ≤ sizeLine; decide, fun t nt => ?_⟩⟩
        dsimp only at nt ⊢
        rw [Int.zero_add, fdiv_nat, mod_nat]
        have st := same_upd (o := .tup [.int ((m / n : Nat) : Int), .int ((m % n : Nat) : Int)]) nt
        have hD' := st _ _ hD
        refine ⟨_, hD', by rw [List.length_map]; exact lenLine (by omega), ts ++ [t], ?_, ?_, ?_, ?_⟩
        · rw [upd_same, List.map_append]
          rfl
        · rw [List.range_succ, List.map_append]
          exact PR.kt (paired_append (hP.same st) (.cons upd_same .nil)) (KT.lst hD')
        · rw [List.length_append, lt]
          rfl
        · intro b o hb
          rw [upd_ne (ne_of_none hb nD)]
          exact st _ _ (s5 _ _ hb)
      · rintro H5 ⟨ts, hD, hP, lt, s5⟩
        rw [← prs_eq n1 n4] at hP
        refine ⟨D, _, rfl, .inl ⟨SqL.of hD, fun t nt => ?_⟩⟩
        have st := same_upd (o := .tup (ts.map V.ref)) nt
        have s35 := s3.trans (s5.trans st)
        have hT6 := hT2.same s35
        rw [← hTe] at hT6
        have l2 := prsTo_length n n
        refine ⟨.ref p, rfl, .ref t, rfl, p, t, ts, prsTo n n, n, rfl, hT6, upd_same, hP.same st, l2, by omega, prs_bd n1 n4, prs_nd n1 n4, fun H7 s7 => ⟨true, true, rfl, rfl, true, ?_⟩⟩
        refine ⟨by rw [decide_eq_true rfl], iteT ?_⟩
        have sh := shT rule
        rw [← hTe] at sh
        refine ⟨.int n, rfl, n, rfl, n4, fun p2 H8 s8 hT8 => ?_⟩
        refine ⟨p2, tblD _, rfl, dpTbl hT8, sh.a, sh.b, sh.c, sh.d, ?_⟩
        refine ⟨.ref p, rfl, p, tblD _, rfl, dpTbl ((hT6.same s7).same s8), sh.a, sh.b, sh.c, sh.d, rfl, ?_⟩
        rw [decide_eq_true rfl]
        exact q H8 (s12.trans (s35.trans (s7.trans s8)))
end
end Nm

namespace Nm
open PySem PySem.Spec PyProof.Rows L2 GL
theorem due_mem {n i m : Nat} {two : Nat} (h : two < m) : decide ((two : Int) ∈ dueTo n i m) = decide (two / n = i % n) := by
  unfold dueTo
  by_cases e : two / n = i % n
  · rw [decide_eq_true e]
    refine decide_eq_true (List.mem_map.2 ⟨two, List.mem_filter.2 ⟨List.mem_range.2 h, decide_eq_true e⟩, rfl⟩)
  · rw [decide_eq_false e]
    refine decide_eq_false fun z => ?_
    obtain ⟨x, hx, ex⟩ := List.mem_map.1 z
    have hx2 := of_decide_eq_true (List.mem_filter.1 hx).2
    have : x = two := by exact_mod_cast ex
    rw [this] at hx2
    exact e hx2
theorem drawn_at {n one two : Nat} (h1 : 1 ≤ n) (h4 : n ≤ 4) (ho : one < n * n) (ht : two < n * n) : decide ((two : Int) ∈ (ofPrs (prsTo n n)).getD one []) = decide (two / n = one % n) := by
  rw [named_rows h1 h4, List.getD_eq_getElem?_getD, List.getElem?_map, List.getElem?_range ho]
  exact due_mem ht
section
variable {P : Program} {w : World} {K : PySem.W.Frag} {mg : Str → Option Value} {base : Heap}
def spDrawn (K : PySem.W.Frag) : Sp := fun vs H Q _ => ∃ (p : Addr), vs = [.ref p] ∧ Pot H p 0 ∧ ∀ H', Kp p H H' → Q (.bl true) H'
set_option maxHeartbeats 4000000 in
theorem ok_drawn {f fT fB fO fS fI fD fW fA fR fM fNR : Addr} {fd dT dB dO dS dI dD dW dA dR dM dNR : FuncData} {k : Nat} (F : Fun K "_law_drawn_right" "_law_drawn_right" sDrawn f fd) (FT : Fun K "_law_take" "_law_take" sTake fT dT) (bT : Binds K dT ["_law_pot_here", "_law_size"] []) (gT : mg "_law_take" = some (.ref fT))
    (N : Nam K mg fB fO fS fI fD fW dB dO dS dI dD dW) (J : Jd4 K mg fA fR fM fNR dA dR dM dNR) (B : LibJ mg) :
    FnOk P w K mg base CX0 (k + 3) f fd ["_law_pot_here"] (spDrawn K) := by
  have GT : FnOk P w K mg base CX0 (k + 2) fT dT ["_law_pot_here", "_law_size"] (spTake K) := ok_take FT
  have GN : FnOk P w K mg base CX0 (k + 2) fNR dNR ["values"] (spNamedRule K) := ok_namedrule J.NR N.O N.bO N.gO B
  have GM : FnOk P w K mg base CX0 (k + 2) fM dM ["rule", "mark", "other"] (spMay K) := ok_may J.M B.len
  refine F.ok scDrawn (fun vs H Q E h => ?_) (fun cdv A outer s H vs Q E hr h => ?_)
  · obtain ⟨p, rfl, _⟩ := h
    rfl
  · obtain ⟨p, rfl, hp, q⟩ := h
    refine ⟨_, pss_cons (ps_for PassesOwn.never rfl (pi_range1 (by rfl) B.range (pa_cons pe_int pa_nil)) (pg_name (i := 1) scDrawn.nd rfl (.inl rfl))
        (pss_cons (ps_set (i := 2) scDrawn.nd rfl (.inl rfl) (pe_op op_add pe_int (pe_call GT hr (by rfl) gT FT.kp bT .nil pass0 (pa_cons (pv 0) (pa_cons pe_int pa_nil)))))
        (pss_cons (ps_par (i := 3) (j := 4) rfl scDrawn.nd rfl rfl (by decide) rfl rfl (pa_cons (pe_call GT hr (by rfl) gT FT.kp bT .nil pass0 (pa_cons (pv 0) (pa_cons (pe_op op_mul (pv 2) (pv 2)) pa_nil)))
            (pa_cons (pe_call GT hr (by rfl) gT FT.kp bT .nil pass0 (pa_cons (pv 0) (pa_cons (pe_op op_mul (pv 2) (pv 2)) pa_nil))) pa_nil)) rfl)
        (pss_one (ps_if (pt_cmpR op_ne (pe_call GM hr (by rfl) J.gM J.M.kp J.bM .nil pass0 (pa_cons (pe_call GN hr (by rfl) J.gNR J.NR.kp J.bNR .nil pass0 (pa_cons (pv 2) pa_nil)) (pa_cons (pv 3) (pa_cons (pv 4) pa_nil))))
            (pe_cmpR op_eq (pe_op op_fdivN (pv 4) (pv 2)) (pe_op op_mod (pv 3) (pv 2)) (nomark _)) (nomark _))
          (pss_one (ps_ret pe_bl)) pss_nil)))))
      (pss_one (ps_ret pe_bl)), ?_⟩
    refine ⟨20, rfl, by decide, by decide, for_range (lo := 0) (n := 20) (fun i σ H' => ∃ (y1 y2 y3 y4 : Option V), σ = [some (.ref p), y1, y2, y3, y4] ∧ Pot H' p (3 * i) ∧ Kp p H H')
      ⟨none, none, none, none, rfl, hp, Kp.refl _ _⟩ ?_ ?_⟩
    · rintro i σ H1 hi ⟨y1, y2, y3, y4, rfl, hp1, kp1⟩
      refine ⟨.ref p, rfl, p, 3 * i, 4, rfl, hp1, by omega, by decide, by decide, fun r H2 r0 r1 hp2 kp2 => ?_⟩
      obtain ⟨m, rfl⟩ := Int.eq_ofNat_of_zero_le r0
      refine ⟨1, (m : Int), rfl, rfl, ?_⟩
      obtain ⟨n, en⟩ : ∃ n : Nat, n = 1 + m := ⟨_, rfl⟩
      have eI : (1 : Int) + (m : Int) = (n : Int) := by rw [en]; norm_cast
      have n1 : 1 ≤ n := by omega
      have n4 : n ≤ 4 := by omega
      have nn : (n : Int) * n = ((n * n : Nat) : Int) := by norm_cast
      have n16 := sq16 n4
      have np : 1 ≤ n * n := Nat.mul_pos n1 n1
      dsimp only
      rw [eI]
      refine ⟨.ref p, rfl, .int n, rfl, .int n, rfl, (n : Int), (n : Int), rfl, rfl, .inl ⟨by omega, by omega⟩, p, 3 * i + 1, _, rfl, hp2, by omega, ?_, ?_, fun a H3 a0 a1 hp3 kp3 => ?_⟩
      · rw [nn]; omega
      · rw [nn]; omega
      rw [nn] at a1
      obtain ⟨one, rfl⟩ := Int.eq_ofNat_of_zero_le a0
      refine ⟨.ref p, rfl, .int n, rfl, .int n, rfl, (n : Int), (n : Int), rfl, rfl, .inl ⟨by omega, by omega⟩, p, 3 * i + 2, _, rfl, hp3, by omega, ?_, ?_, fun b H4 b0 b1 hp4 kp4 => ?_⟩
      · rw [nn]; omega
      · rw [nn]; omega
      rw [nn] at b1
      obtain ⟨two, rfl⟩ := Int.eq_ofNat_of_zero_le b0
      refine ⟨_, _, rfl, .int n, rfl, n, rfl, n4, fun o H5 s5 hT => ?_⟩
      refine ⟨.int one, rfl, .int two, rfl, o, _, (one : Int), (two : Int), rfl, hT, by omega, ?_⟩
      refine ⟨.int two, rfl, .int n, rfl, (two : Int), (n : Int), rfl, rfl, ⟨by omega, by omega⟩, .int one, rfl, .int n, rfl, (one : Int), (n : Int), rfl, rfl, (by show (0 : Int) < (n : Int); omega), rfl, ?_⟩
      have e1 := drawn_at (one := one) (two := two) n1 n4 (by omega) (by omega)
      refine ⟨rfl, _, rfl, iteNS ?_ ?_⟩
      · show V.bl (decide ((two : Int) ∈ (ofPrs (prsTo n n)).getD ((one : Int)).toNat [])) = V.bl (decide (V.int ((two : Int).fdiv (n : Int)) = V.int ((one : Int) % (n : Int))))
        rw [Int.toNat_natCast, e1]
        congr 1
        refine decide_eq_decide.2 ⟨fun z => ?_, fun z => ?_⟩
        · rw [fdiv_nat, mod_nat, z]
        · have y := V.int.inj z
          rw [fdiv_nat, mod_nat] at y
          exact_mod_cast y
      · exact ⟨_, _, _, _, rfl, (hp4.same s5).mono (by omega), kp1.trans (kp2.trans (kp3.trans (kp4.trans (.of s5))))⟩
    · rintro σ H1 ⟨y1, y2, y3, y4, rfl, hp1, kp1⟩
      exact q H1 kp1
theorem Kp.new {p : Addr} {H H1 H' : Hp} (k : Kp p H1 H') (s : Same H H1) (n : H p = none) : Same H H' := fun b o h => k b o (ne_of_none h n) (s b o h)
def spLaw (K : PySem.W.Frag) : Sp := fun vs H Q _ => ∃ (a : Addr) (ns : List Int), vs = [.ref a] ∧ SqL K H a (ns.map V.int) ∧ ns.length ≤ 63 ∧ ∀ H', Q (.bl true) H'
theorem sh4 : (PyData.list ([4, 9, 16, 9].map PyData.int)).showable = true ∧ (PyData.list ([4, 9, 16, 9].map PyData.int)).hasDict = false ∧ (PyData.list ([4, 9, 16, 9].map PyData.int)).depth ≤ 20 ∧ (PyData.list ([4, 9, 16, 9].map PyData.int)).shown.length ≤ sizeLine := by
  refine ⟨rfl, rfl, by decide +kernel, lineBig (by decide +kernel)⟩
set_option maxHeartbeats 4000000 in
theorem ok_law {f fRt fDr fPo fFw fB fO fS fI fD fW fA fR fM fNR : Addr} {fd dRt dDr dPo dFw dB dO dS dI dD dW dA dR dM dNR : FuncData} {k : Nat} (F : Fun K "law" "law" sLaw f fd)
    (FRt : Fun K "_law_right" "_law_right" sRight fRt dRt) (bRt : Binds K dRt ["_law_wide"] []) (gRt : mg "_law_right" = some (.ref fRt)) (GRt : FnG P w K mg base (k + 5) fRt dRt ["_law_wide"] (spRight4 K))
    (FDr : Fun K "_law_drawn_right" "_law_drawn_right" sDrawn fDr dDr) (bDr : Binds K dDr ["_law_pot_here"] []) (gDr : mg "_law_drawn_right" = some (.ref fDr)) (GDr : FnOk P w K mg base CX0 (k + 5) fDr dDr ["_law_pot_here"] (spDrawn K))
    (FPo : Fun K "_law_pot" "_law_pot" sPot fPo dPo) (bPo : Binds K dPo ["_law_script", "_law_k"] []) (gPo : mg "_law_pot" = some (.ref fPo))
    (FFw : Fun K "fewest_marks" "fewest_marks" sFewest fFw dFw) (bFw : Binds K dFw ["mirrors"] []) (gFw : mg "fewest_marks" = some (.ref fFw))
    (N : Nam K mg fB fO fS fI fD fW dB dO dS dI dD dW) (J : Jd4 K mg fA fR fM fNR dA dR dM dNR) (B : LibJ mg) (mabs : mg "abs" = none) (mrepr : mg "repr" = none) (mmax : mg "max" = none) (mmin : mg "min" = none) :
    FnG P w K mg base (k + 6) f fd ["_law_script"] (spLaw K) := by
  have GPo : FnOk P w K mg base CX0 (k + 5) fPo dPo ["_law_script", "_law_k"] (spPot K) := ok_pot FPo B.len mabs
  have GN : FnOk P w K mg base CX0 (k + 5) fNR dNR ["values"] (spNamedRule K) := ok_namedrule J.NR N.O N.bO N.gO B
  have GFw : FnOk P w K mg base CX0 (k + 5) fFw dFw ["mirrors"] (spFewest K) := ok_fewest FFw
  have kwF := bindKw (kx := "mirrors") FFw fun _ _ _ _ _ _ _ => rfl
  refine funG F scLaw (fun vs H Q E h => ?_) (fun cdv A outer s H vs Q E gu hr h => ?_)
  · obtain ⟨a, ns, rfl, _⟩ := h
    rfl
  · obtain ⟨a, ns, rfl, hS, hlen, q⟩ := h
    refine ⟨_, pss_cons (ps_if (pt_not (pt_val (pe_callB (allK (K := K) rfl) (by rfl) B.all (by decide +kernel) (pa_cons
        (pe_lc (own := [("_law_wide", 2)]) (g := gName 2) (by rfl) scLaw.nd (pi_range2 (by rfl) B.range (pa_cons pe_int (pa_cons pe_int pa_nil)))
          (blkOk_by (own := [("_law_wide", 2)]) (N := nLaw) (sc := defScope sLaw) (by decide +kernel))
          (fun _ _ _ _ _ => pg_name (i := 2) scLaw.nd rfl (Or.inl rfl)) (fun _ _ _ _ _ => pts_nil)
          (fun _ _ _ _ _ => callG (E := E0) GRt gu hr (by rfl) gRt FRt.kp bRt (pa_cons (pv 2) pa_nil))) pa_nil)))) (pss_one (ps_ret pe_bl)) pss_nil)
      (pss_cons (ps_if (pt_not (pt_val (pe_callB (allK (K := K) rfl) (by rfl) B.all (by decide +kernel) (pa_cons
        (pe_lc (own := [("_law_k", 3)]) (g := gName 3) (by rfl) scLaw.nd (pi_range1 (by rfl) B.range (pa_cons
            (pe_callB (call_max2 rfl) (by rfl) mmax (by decide +kernel) (pa_cons pe_int (pa_cons
              (pe_callB (call_min2 rfl) (by rfl) mmin (by decide +kernel) (pa_cons pe_int (pa_cons (pe_callB (lenK (K := K)) (by rfl) B.len PySem.boot_len (pa_cons (pv 0) pa_nil)) pa_nil))) pa_nil))) pa_nil))
          (blkOk_by (own := [("_law_k", 3)]) (N := nLaw) (sc := defScope sLaw) (by decide +kernel))
          (fun _ _ _ _ _ => pg_name (i := 3) scLaw.nd rfl (Or.inl rfl)) (fun _ _ _ _ _ => pts_nil)
          (fun _ _ _ _ _ => pe_call GDr hr (by rfl) gDr FDr.kp bDr .nil pass0 (pa_cons (pe_call GPo hr (by rfl) gPo FPo.kp bPo .nil pass0 (pa_cons (pv 0) (pa_cons (pv 3) pa_nil))) pa_nil))) pa_nil)))) (pss_one (ps_ret pe_bl)) pss_nil)
      (pss_cons (ps_set (i := 1) scLaw.nd rfl (.inl rfl) (pe_lst (pa_cons (pe_call GFw hr (by rfl) gFw FFw.kp bFw .nil pass0 (pa_cons pe_int pa_nil)) (pa_cons (pe_call GFw hr (by rfl) gFw FFw.kp bFw .nil pass0 (pa_cons pe_int pa_nil))
          (pa_cons (pe_call GFw hr (by rfl) gFw FFw.kp bFw .nil pass0 (pa_cons pe_int pa_nil)) (pa_cons (callKw GFw hr (by rfl) gFw FFw.kp kwF pe_int) pa_nil))))))
      (pss_one (ps_ret (pe_and (pe_cmpR op_eq (pe_callB (reprG gu hr.units) (by rfl) mrepr (by decide +kernel) (pa_cons (pv 1) pa_nil))
          (pe_callB (reprG gu hr.units) (by rfl) mrepr (by decide +kernel) (pa_cons (pe_lst (pa_cons pe_int (pa_cons pe_int (pa_cons pe_int (pa_cons pe_int pa_nil))))) pa_nil)) (nomark _))
        (pe_one (pe_cmpR (op_eqD hr.units)
          (pe_lc (own := [("_law_m", 4)]) (g := gName 4) (by rfl) scLaw.nd (piTupK (K := K) (pe_tup (pa_cons pe_int (pa_cons pe_int (pa_cons pe_int pa_nil)))))
            (blkOk_by (own := [("_law_m", 4)]) (N := nLaw) (sc := defScope sLaw) (by decide +kernel))
            (fun _ _ _ _ _ => pg_name (i := 4) scLaw.nd rfl (Or.inl rfl)) (fun _ _ _ _ _ => pts_nil)
            (fun _ _ _ _ _ => pe_callB (lenK (K := K)) (by rfl) B.len PySem.boot_len (pa_cons (pe_call GN hr (by rfl) J.gNR J.NR.kp J.bNR .nil pass0 (pa_cons (pe_op op_add (pv 4) pe_int) pa_nil)) pa_nil)))
          (pe_slice sl_list (pv 1) po_none (po_some pe_int)) (nomark _)))))))), ?_⟩
    refine ⟨1, 5, rfl, ⟨by decide, by decide, by decide, by decide⟩, fun D nD => ?_⟩
    have sD := same_upd (o := .lst []) nD
    refine lc_range (lo := 1) (n := 4) (fun i H2 => H2 D = some (.lst ((List.replicate i true).map V.bl)) ∧ Same H H2) ⟨upd_same, sD⟩ ?_ ?_
    · rintro i H2 hi ⟨hD, s2⟩
      have e1 : (1 : Int) + (i : Int) = ((1 + i : Nat) : Int) := by norm_cast
      refine ⟨rfl, yesI ⟨.int (1 + i), rfl, 1 + i, by rw [e1], by omega, by omega, fun H4 s4 => ?_⟩⟩
      refine ⟨_, s4 _ _ hD, ?_, ?_, ?_⟩
      · rw [List.length_map, List.length_replicate]
        exact lenLine (by omega)
      · rw [upd_same, List.replicate_succ', List.map_append]
        rfl
      · intro b o hb
        rw [upd_ne (ne_of_none hb nD)]
        exact s4 _ _ (s2 _ _ hb)
    rintro H2 ⟨hD, s2⟩
    refine ⟨D, _, rfl, SqL.of hD, ?_⟩
    rw [show (List.replicate 4 true).all id = true by rfl]
    refine ⟨_, rfl, iteF ?_⟩
    have hS2 := s2.seq hS
    clear hD nD sD
    refine ⟨.ref a, rfl, a, _, rfl, .inl hS2, 3, _, rfl, 1, _, rfl, _, rfl, ?_, ?_, fun D nD => ?_⟩
    · split <;> split <;> omega
    · split <;> split <;> omega
    obtain ⟨N', eN, hN⟩ : ∃ N : Nat, (if (if (((ns.map V.int).length : Nat) : Int) < 3 then (((ns.map V.int).length : Nat) : Int) else 3) > 1 then (if (((ns.map V.int).length : Nat) : Int) < 3 then (((ns.map V.int).length : Nat) : Int) else 3) else 1).toNat = N ∧ N ≤ 3 := by
      refine ⟨_, rfl, ?_⟩
      split <;> split <;> omega
    rw [eN]
    have sD := same_upd (o := .lst []) nD
    refine lc_range (lo := 0) (n := N') (fun i H3 => H3 D = some (.lst ((List.replicate i true).map V.bl)) ∧ Same H2 H3) ⟨upd_same, sD⟩ ?_ ?_
    · rintro i H3 hi ⟨hD, s3⟩
      refine ⟨rfl, yesI ⟨.ref a, rfl, .int (0 + i), rfl, a, ns, 0 + (i : Int), rfl, s3.seq hS2, by omega, by omega, fun p H4 np s4 hp => ⟨p, rfl, hp, fun H5 k5 => ?_⟩⟩⟩
      have s5 := Kp.new k5 s4 np
      refine ⟨_, s5 _ _ hD, ?_, ?_, ?_⟩
      · rw [List.length_map, List.length_replicate]
        exact lenLine (by omega)
      · rw [upd_same, List.replicate_succ', List.map_append]
        rfl
      · intro b o hb
        rw [upd_ne (ne_of_none hb nD)]
        exact s5 _ _ (s3 _ _ hb)
    rintro H3 ⟨hD, s3⟩
    refine ⟨D, _, rfl, SqL.of hD, ?_⟩
    rw [show (List.replicate N' true).all id = true by simp]
    refine ⟨_, rfl, iteF ?_⟩
    clear hD nD sD
    refine ⟨1, rfl, by decide, by decide, 2, rfl, by decide, by decide, 3, rfl, by decide, by decide, 2, rfl, by decide, by decide, by show 4 ≤ sizeLine; decide, fun L nL => ?_⟩
    have hL : upd H3 L (.lst [V.int ((1 + 1) * (1 + 1)), .int ((2 + 1) * (2 + 1)), .int ((3 + 1) * (3 + 1)), .int ((2 + 1) * (2 + 1))]) L = some (.lst ([4, 9, 16, 9].map V.int)) := upd_same
    generalize upd H3 L (.lst [V.int ((1 + 1) * (1 + 1)), .int ((2 + 1) * (2 + 1)), .int ((3 + 1) * (3 + 1)), .int ((2 + 1) * (2 + 1))]) = H4 at hL ⊢
    refine ⟨.ref L, rfl, L, .list ([4, 9, 16, 9].map PyData.int), rfl, .lst (SqL.of hL) (dpInts _), sh4.1, sh4.2.1, sh4.2.2.1, sh4.2.2.2, ?_⟩
    refine ⟨by show 4 ≤ sizeLine; decide, fun L2 nL2 => ?_⟩
    have sL2 := same_upd (o := .lst [V.int 4, .int 9, .int 16, .int 9]) nL2
    refine ⟨L2, .list ([4, 9, 16, 9].map PyData.int), rfl, .lst (SqL.of upd_same) (dpInts [4, 9, 16, 9]), sh4.1, sh4.2.1, sh4.2.2.1, sh4.2.2.2, rfl, ?_⟩
    rw [decide_eq_true rfl]
    refine ⟨_, rfl, iteT ?_⟩
    have hL5 := sL2 _ _ hL
    generalize upd H4 L2 (.lst [V.int 4, .int 9, .int 16, .int 9]) = H5 at hL5 ⊢
    refine ⟨by show 3 ≤ sizeLine; decide, fun u nu => ?_⟩
    have hu : upd H5 u (.tup [V.int 1, .int 2, .int 3]) u = some (.tup ([1, 2, 3].map V.int)) := upd_same
    have hL6 := same_upd (o := .tup [V.int 1, .int 2, .int 3]) nu _ _ hL5
    generalize upd H5 u (.tup [V.int 1, .int 2, .int 3]) = H6 at hu hL6 ⊢
    refine ⟨u, rfl, ⟨_, SqT.of hu⟩, fun D nD => ?_⟩
    have sD := same_upd (o := .lst []) nD
    refine lc_tup (K := K) (a := u) (xs := [1, 2, 3].map V.int) (fun i H7 => H7 D = some (.lst (([4, 9, 16].take i).map V.int)) ∧ Same H6 H7) ⟨upd_same, sD⟩ (fun i H7 _ h => SqT.of (h.2 _ _ hu)) ?_ ?_
    · rintro i x H7 hx ⟨hD, s7⟩
      obtain ⟨m, hm, m1, m3, ei⟩ : ∃ m : Nat, x = .int m ∧ 1 ≤ m ∧ m ≤ 3 ∧ [4, 9, 16].take (i + 1) = [4, 9, 16].take i ++ [(((m + 1) * (m + 1) : Nat) : Int)] := by
        match i, hx with
        | 0, h => cases h; exact ⟨1, rfl, by decide, by decide, rfl⟩
        | 1, h => cases h; exact ⟨2, rfl, by decide, by decide, rfl⟩
        | 2, h => cases h; exact ⟨3, rfl, by decide, by decide, rfl⟩
        | n + 3, h => cases h
      subst hm
      have e1 : (m : Int) + 1 = ((m + 1 : Nat) : Int) := by norm_cast
      refine ⟨rfl, yesI ⟨.int m, rfl, (m : Int), 1, rfl, rfl, m + 1, by rw [← e1]; rfl, by omega, fun o H8 s8 hT => ?_⟩⟩
      obtain ⟨rs, ho, hR⟩ := hT
      have lr : rs.length = (m + 1) * (m + 1) := by
        rw [Paired.length hR]
        unfold ofPrs
        rw [List.length_map, prsTo_length]
      refine ⟨o, _, rfl, .inr (SqT.of ho), _, s8 _ _ hD, ?_, ?_, ?_⟩
      · have l3 : (List.take i ([4, 9, 16] : List Int)).length ≤ 3 := by
          rw [List.length_take]
          exact Nat.min_le_right _ _
        rw [List.length_map]
        exact lenLine (by omega)
      · rw [upd_same, ei, List.map_append, List.length_map, lr]
        rfl
      · intro b o hb
        rw [upd_ne (ne_of_none hb nD)]
        exact s8 _ _ (s7 _ _ hb)
    rintro H7 ⟨hD, s7⟩
    refine ⟨.ref L, rfl, 3, rfl, L, _, rfl, SqL.of (s7 _ _ hL6), fun C nC => ?_⟩
    have sC := same_upd (o := .lst (cutV ([4, 9, 16, 9].map V.int) none (some 3))) nC
    refine ⟨.list ([4, 9, 16].map PyData.int), .list ([4, 9, 16].map PyData.int), .lst (SqL.of (sC _ _ hD)) (dpInts _), .lst (xs := [4, 9, 16].map V.int) (SqL.of (upd_same.trans rfl)) (dpInts _), rfl, rfl, ?_⟩
    exact q _
end
end Nm

namespace Nm
open PySem PySem.Spec PyProof.Rows L2 GL
/-! ### what the top has written -/
theorem all_mk {l : PySem.W.OpenLaw} {w : World} {K : PySem.W.Frag} {h : Heap} {mg : Str → Option Value} {fa f1 f2 f3 f4 f5 f6 f7 f8 f9 f10 f11 f12 f13 f14 f15 f16 : Addr} (X : K.In h) (G : h.Ns mainGlobals mg) (hfa : mg "law" = some (.ref fa))
    {od1 an1 od2 an2 od3 an3 od4 an4 od5 an5 od6 an6 od7 an7 od8 an8 od9 an9 od10 an10 od11 an11 od12 an12 od13 an13 od14 an14 od15 an15 od16 an16 : Option Addr}
    {sl1 sl2 sl3 sl4 sl5 sl6 sl7 sl8 sl9 sl10 sl11 sl12 sl13 sl14 sl15 sl16 : Array (Option Value)}
    {oc1 kV1 dc1 pm1 cd1 ct1 oc2 kV2 dc2 pm2 cd2 ct2 oc3 kV3 dc3 pm3 cd3 ct3 oc4 kV4 dc4 pm4 cd4 ct4 oc5 kV5 dc5 pm5 cd5 ct5 oc6 kV6 dc6 pm6 cd6 ct6 oc7 kV7 dc7 pm7 cd7 ct7 oc8 kV8 dc8 pm8 cd8 ct8 oc9 kV9 dc9 pm9 cd9 ct9 oc10 kV10 dc10 pm10 cd10 ct10 oc11 kV11 dc11 pm11 cd11 ct11 oc12 kV12 dc12 pm12 cd12 ct12 oc13 kV13 dc13 pm13 cd13 ct13 oc14 kV14 dc14 pm14 cd14 ct14 oc15 kV15 dc15 pm15 cd15 ct15 oc16 kV16 dc16 pm16 cd16 ct16 : Value} {tm : Tok}
    (a1 : PySem.W.nsIn K mainGlobals "is_below" = some (some (.ref f1))) (l1 : K.lookup f1 = some ⟨oc1, od1, .func (PySem.W.fnOf "is_below" "is_below" (defArgs sBelow) (defBody sBelow) (defScope sBelow) .none kV1 dc1 pm1 an1 cd1 ct1), sl1⟩) (c1 : PySem.W.codeIn K cd1 "is_below" = true) (k1 : PySem.W.keepIn K (.ref f1) = true)
    (a2 : PySem.W.nsIn K mainGlobals "is_ascending" = some (some (.ref f2))) (l2 : K.lookup f2 = some ⟨oc2, od2, .func (PySem.W.fnOf "is_ascending" "is_ascending" (defArgs sAsc) (defBody sAsc) (defScope sAsc) .none kV2 dc2 pm2 an2 cd2 ct2), sl2⟩) (c2 : PySem.W.codeIn K cd2 "is_ascending" = true) (k2 : PySem.W.keepIn K (.ref f2) = true)
    (a3 : PySem.W.nsIn K mainGlobals "rule_of" = some (some (.ref f3))) (l3 : K.lookup f3 = some ⟨oc3, od3, .func (PySem.W.fnOf "rule_of" "rule_of" (defArgs sRuleOf) (defBody sRuleOf) (defScope sRuleOf) .none kV3 dc3 pm3 an3 cd3 ct3), sl3⟩) (c3 : PySem.W.codeIn K cd3 "rule_of" = true) (k3 : PySem.W.keepIn K (.ref f3) = true)
    (a4 : PySem.W.nsIn K mainGlobals "named_rule" = some (some (.ref f4))) (l4 : K.lookup f4 = some ⟨oc4, od4, .func (PySem.W.fnOf "named_rule" "named_rule" (defArgs sNamedRule) (defBody sNamedRule) (defScope sNamedRule) .none kV4 dc4 pm4 an4 cd4 ct4), sl4⟩) (c4 : PySem.W.codeIn K cd4 "named_rule" = true) (k4 : PySem.W.keepIn K (.ref f4) = true)
    (a5 : PySem.W.nsIn K mainGlobals "side_of" = some (some (.ref f5))) (l5 : K.lookup f5 = some ⟨oc5, od5, .func (PySem.W.fnOf "side_of" "side_of" (defArgs sSide) (defBody sSide) (defScope sSide) .none kV5 dc5 pm5 an5 cd5 ct5), sl5⟩) (c5 : PySem.W.codeIn K cd5 "side_of" = true) (k5 : PySem.W.keepIn K (.ref f5) = true)
    (a6 : PySem.W.nsIn K mainGlobals "is_pair" = some (some (.ref f6))) (l6 : K.lookup f6 = some ⟨oc6, od6, .func (PySem.W.fnOf "is_pair" "is_pair" (defArgs sIsPair) (defBody sIsPair) (defScope sIsPair) .none kV6 dc6 pm6 an6 cd6 ct6), sl6⟩) (c6 : PySem.W.codeIn K cd6 "is_pair" = true) (k6 : PySem.W.keepIn K (.ref f6) = true)
    (a7 : PySem.W.nsIn K mainGlobals "are_different_pairs" = some (some (.ref f7))) (l7 : K.lookup f7 = some ⟨oc7, od7, .func (PySem.W.fnOf "are_different_pairs" "are_different_pairs" (defArgs sDiff) (defBody sDiff) (defScope sDiff) .none kV7 dc7 pm7 an7 cd7 ct7), sl7⟩) (c7 : PySem.W.codeIn K cd7 "are_different_pairs" = true) (k7 : PySem.W.keepIn K (.ref f7) = true)
    (a8 : PySem.W.nsIn K mainGlobals "shows_names" = some (some (.ref f8))) (l8 : K.lookup f8 = some ⟨oc8, od8, .func (PySem.W.fnOf "shows_names" "shows_names" (defArgs sShows) (defBody sShows) (defScope sShows) .none kV8 dc8 pm8 an8 cd8 ct8), sl8⟩) (c8 : PySem.W.codeIn K cd8 "shows_names" = true) (k8 : PySem.W.keepIn K (.ref f8) = true)
    (a9 : PySem.W.nsIn K mainGlobals "fewest_marks" = some (some (.ref f9))) (l9 : K.lookup f9 = some ⟨oc9, od9, .func (PySem.W.fnOf "fewest_marks" "fewest_marks" (defArgs sFewest) (defBody sFewest) (defScope sFewest) .none kV9 dc9 pm9 an9 cd9 ct9), sl9⟩) (c9 : PySem.W.codeIn K cd9 "fewest_marks" = true) (k9 : PySem.W.keepIn K (.ref f9) = true)
    (a10 : PySem.W.nsIn K mainGlobals "is_rule" = some (some (.ref f10))) (l10 : K.lookup f10 = some ⟨oc10, od10, .func (PySem.W.fnOf "is_rule" "is_rule" (defArgs sIsRule) (defBody sIsRule) (defScope sIsRule) .none kV10 dc10 pm10 an10 cd10 ct10), sl10⟩) (c10 : PySem.W.codeIn K cd10 "is_rule" = true) (k10 : PySem.W.keepIn K (.ref f10) = true)
    (a11 : PySem.W.nsIn K mainGlobals "may_follow" = some (some (.ref f11))) (l11 : K.lookup f11 = some ⟨oc11, od11, .func (PySem.W.fnOf "may_follow" "may_follow" (defArgs sMay) (defBody sMay) (defScope sMay) .none kV11 dc11 pm11 an11 cd11 ct11), sl11⟩) (c11 : PySem.W.codeIn K cd11 "may_follow" = true) (k11 : PySem.W.keepIn K (.ref f11) = true)
    (a12 : PySem.W.nsIn K mainGlobals "_law_pot" = some (some (.ref f12))) (l12 : K.lookup f12 = some ⟨oc12, od12, .func (PySem.W.fnOf "_law_pot" "_law_pot" (defArgs sPot) (defBody sPot) (defScope sPot) .none kV12 dc12 pm12 an12 cd12 ct12), sl12⟩) (c12 : PySem.W.codeIn K cd12 "_law_pot" = true) (k12 : PySem.W.keepIn K (.ref f12) = true)
    (a13 : PySem.W.nsIn K mainGlobals "_law_take" = some (some (.ref f13))) (l13 : K.lookup f13 = some ⟨oc13, od13, .func (PySem.W.fnOf "_law_take" "_law_take" (defArgs sTake) (defBody sTake) (defScope sTake) .none kV13 dc13 pm13 an13 cd13 ct13), sl13⟩) (c13 : PySem.W.codeIn K cd13 "_law_take" = true) (k13 : PySem.W.keepIn K (.ref f13) = true)
    (a14 : PySem.W.nsIn K mainGlobals "_law_right" = some (some (.ref f14))) (l14 : K.lookup f14 = some ⟨oc14, od14, .func (PySem.W.fnOf "_law_right" "_law_right" (defArgs sRight) (defBody sRight) (defScope sRight) .none kV14 dc14 pm14 an14 cd14 ct14), sl14⟩) (c14 : PySem.W.codeIn K cd14 "_law_right" = true) (k14 : PySem.W.keepIn K (.ref f14) = true)
    (a15 : PySem.W.nsIn K mainGlobals "_law_drawn_right" = some (some (.ref f15))) (l15 : K.lookup f15 = some ⟨oc15, od15, .func (PySem.W.fnOf "_law_drawn_right" "_law_drawn_right" (defArgs sDrawn) (defBody sDrawn) (defScope sDrawn) .none kV15 dc15 pm15 an15 cd15 ct15), sl15⟩) (c15 : PySem.W.codeIn K cd15 "_law_drawn_right" = true) (k15 : PySem.W.keepIn K (.ref f15) = true)
    (a16 : PySem.W.nsIn K mainGlobals "law" = some (some (.ref f16))) (l16 : K.lookup f16 = some ⟨oc16, od16, .func (PySem.W.fnOf "law" "law" (defArgs sLaw) (defBody sLaw) (defScope sLaw) .none kV16 dc16 pm16 an16 cd16 ct16), sl16⟩) (c16 : PySem.W.codeIn K cd16 "law" = true) (k16 : PySem.W.keepIn K (.ref f16) = true)
    (z1 : PySem.W.nsIn K mainGlobals "len" = some none)
    (z2 : PySem.W.nsIn K mainGlobals "isinstance" = some none)
    (z3 : PySem.W.nsIn K mainGlobals "bool" = some none)
    (z4 : PySem.W.nsIn K mainGlobals "int" = some none)
    (z5 : PySem.W.nsIn K mainGlobals "tuple" = some none)
    (z6 : PySem.W.nsIn K mainGlobals "range" = some none)
    (z7 : PySem.W.nsIn K mainGlobals "all" = some none)
    (z8 : PySem.W.nsIn K mainGlobals "set" = some none)
    (z9 : PySem.W.nsIn K mainGlobals "enumerate" = some none)
    (z10 : PySem.W.nsIn K mainGlobals "repr" = some none)
    (z11 : PySem.W.nsIn K mainGlobals "abs" = some none)
    (z12 : PySem.W.nsIn K mainGlobals "max" = some none)
    (z13 : PySem.W.nsIn K mainGlobals "min" = some none)
    (zm : PySem.W.nsIn K mainGlobals "MOST_MARKS" = some (some (.int 16 tm)))
    : ∃ fd : FuncData, (∀ (s : Shared) (v : Value), BindsTo s fd ⟨[v], []⟩ [("_law_script", v)]) ∧ ∀ base : Heap, K.In base → base.Ns mainGlobals mg → FnG l.prog w K mg base 6 fa fd ["_law_script"] (spLaw K) := by
  have e := hfa.symm.trans (PySem.W.mg_of X G a16)
  cases e
  have F1 := fun_mk (st := sBelow) l1 c1 k1
  have b1 := F1.binds (ps := ["value", "limit"]) fun _ _ _ _ _ _ us hl => match us, hl with | [_, _], _ => rfl
  have g1 := PySem.W.mg_of X G a1
  have F2 := fun_mk (st := sAsc) l2 c2 k2
  have b2 := F2.binds (ps := ["value", "limit"]) fun _ _ _ _ _ _ us hl => match us, hl with | [_, _], _ => rfl
  have g2 := PySem.W.mg_of X G a2
  have F3 := fun_mk (st := sRuleOf) l3 c3 k3
  have b3 := F3.binds (ps := ["names"]) fun _ _ _ _ _ _ us hl => match us, hl with | [_], _ => rfl
  have g3 := PySem.W.mg_of X G a3
  have F4 := fun_mk (st := sNamedRule) l4 c4 k4
  have b4 := F4.binds (ps := ["values"]) fun _ _ _ _ _ _ us hl => match us, hl with | [_], _ => rfl
  have g4 := PySem.W.mg_of X G a4
  have F5 := fun_mk (st := sSide) l5 c5 k5
  have b5 := F5.binds (ps := ["count"]) fun _ _ _ _ _ _ us hl => match us, hl with | [_], _ => rfl
  have g5 := PySem.W.mg_of X G a5
  have F6 := fun_mk (st := sIsPair) l6 c6 k6
  have b6 := F6.binds (ps := ["value", "values"]) fun _ _ _ _ _ _ us hl => match us, hl with | [_, _], _ => rfl
  have g6 := PySem.W.mg_of X G a6
  have F7 := fun_mk (st := sDiff) l7 c7 k7
  have b7 := F7.binds (ps := ["value", "values"]) fun _ _ _ _ _ _ us hl => match us, hl with | [_, _], _ => rfl
  have g7 := PySem.W.mg_of X G a7
  have F8 := fun_mk (st := sShows) l8 c8 k8
  have b8 := F8.binds (ps := ["rule", "value"]) fun _ _ _ _ _ _ us hl => match us, hl with | [_, _], _ => rfl
  have g8 := PySem.W.mg_of X G a8
  have F9 := fun_mk (st := sFewest) l9 c9 k9
  have b9 := F9.binds (ps := ["mirrors"]) fun _ _ _ _ _ _ us hl => match us, hl with | [_], _ => rfl
  have g9 := PySem.W.mg_of X G a9
  have F10 := fun_mk (st := sIsRule) l10 c10 k10
  have b10 := F10.binds (ps := ["value"]) fun _ _ _ _ _ _ us hl => match us, hl with | [_], _ => rfl
  have g10 := PySem.W.mg_of X G a10
  have F11 := fun_mk (st := sMay) l11 c11 k11
  have b11 := F11.binds (ps := ["rule", "mark", "other"]) fun _ _ _ _ _ _ us hl => match us, hl with | [_, _, _], _ => rfl
  have g11 := PySem.W.mg_of X G a11
  have F12 := fun_mk (st := sPot) l12 c12 k12
  have b12 := F12.binds (ps := ["_law_script", "_law_k"]) fun _ _ _ _ _ _ us hl => match us, hl with | [_, _], _ => rfl
  have g12 := PySem.W.mg_of X G a12
  have F13 := fun_mk (st := sTake) l13 c13 k13
  have b13 := F13.binds (ps := ["_law_pot_here", "_law_size"]) fun _ _ _ _ _ _ us hl => match us, hl with | [_, _], _ => rfl
  have g13 := PySem.W.mg_of X G a13
  have F14 := fun_mk (st := sRight) l14 c14 k14
  have b14 := F14.binds (ps := ["_law_wide"]) fun _ _ _ _ _ _ us hl => match us, hl with | [_], _ => rfl
  have g14 := PySem.W.mg_of X G a14
  have F15 := fun_mk (st := sDrawn) l15 c15 k15
  have b15 := F15.binds (ps := ["_law_pot_here"]) fun _ _ _ _ _ _ us hl => match us, hl with | [_], _ => rfl
  have g15 := PySem.W.mg_of X G a15
  have F16 := fun_mk (st := sLaw) l16 c16 k16
  have g16 := PySem.W.mg_of X G a16
  have m1 := PySem.W.mg_none_of X G z1
  have m2 := PySem.W.mg_none_of X G z2
  have m3 := PySem.W.mg_none_of X G z3
  have m4 := PySem.W.mg_none_of X G z4
  have m5 := PySem.W.mg_none_of X G z5
  have m6 := PySem.W.mg_none_of X G z6
  have m7 := PySem.W.mg_none_of X G z7
  have m8 := PySem.W.mg_none_of X G z8
  have m9 := PySem.W.mg_none_of X G z9
  have m10 := PySem.W.mg_none_of X G z10
  have m11 := PySem.W.mg_none_of X G z11
  have m12 := PySem.W.mg_none_of X G z12
  have m13 := PySem.W.mg_none_of X G z13
  have mm := PySem.W.mg_of X G zm
  have B : LibJ mg := ⟨m1, m2, m3, m4, m5, m6, m7⟩
  have N : Nam K mg _ _ _ _ _ _ _ _ _ _ _ _ := ⟨F1, F3, F5, F6, F7, F8, b1, b3, b5, b6, b7, b8, g1, g3, g5, g6, g7, g8⟩
  have J : Jd4 K mg _ _ _ _ _ _ _ _ := ⟨F2, F10, F11, F4, b2, b10, b11, b4, g2, g10, g11, g4⟩
  refine ⟨PySem.W.fnOf "law" "law" (defArgs sLaw) (defBody sLaw) (defScope sLaw) .none kV16 dc16 pm16 an16 cd16 ct16, fun s v => .of_eq rfl, fun base _ _ => ?_⟩
  exact ok_law (k := 0) F16 F14 b14 g14 (ok_right (k := 0) F14 N J B m8 m9 m10 mm) F15 b15 g15 (ok_drawn (k := 2) F15 F13 b13 g13 N J B) F12 b12 g12 F9 b9 g9 N J B m11 m10 m12 m13
end Nm
open PySem PySem.W PyProof.Rows
set_option maxHeartbeats 0 in
theorem PySem.Challenge.cw_nextmarks_k04_named_marks_holds : PySem.Challenge.rw_nextmarks_k04_named_marks.Holds := by
  w_on; o_law; k_head; (case hw => w_witness2)
  k_fill
  refine GL.walkG (l := PySem.Challenge.rw_nextmarks_k04_named_marks) (n := 63) (k := 6) (x := "_law_script") (sp := fun w => Nm.spLaw _) rfl (by decide) rfl ⟨rfl, by decide, by decide⟩ (fun w h Y => PySem.W.kIn_of Y) ?F (fun _ _ a ns hl hS => ⟨a, ns, rfl, hS, hl, fun _ => rfl⟩)
  case F =>
    intro w mg fa h KX G hmg
    refine' Nm.all_mk KX G hmg ?a1 ?l1 ?c1 ?k1 ?a2 ?l2 ?c2 ?k2 ?a3 ?l3 ?c3 ?k3 ?a4 ?l4 ?c4 ?k4 ?a5 ?l5 ?c5 ?k5 ?a6 ?l6 ?c6 ?k6 ?a7 ?l7 ?c7 ?k7 ?a8 ?l8 ?c8 ?k8 ?a9 ?l9 ?c9 ?k9 ?a10 ?l10 ?c10 ?k10 ?a11 ?l11 ?c11 ?k11 ?a12 ?l12 ?c12 ?k12 ?a13 ?l13 ?c13 ?k13 ?a14 ?l14 ?c14 ?k14 ?a15 ?l15 ?c15 ?k15 ?a16 ?l16 ?c16 ?k16 ?z1 ?z2 ?z3 ?z4 ?z5 ?z6 ?z7 ?z8 ?z9 ?z10 ?z11 ?z12 ?z13 ?zm
    (case a1 => k_is); (case l1 => k_is); (case c1 => k_is); (case k1 => k_is); (case a2 => k_is); (case l2 => k_is); (case c2 => k_is); (case k2 => k_is); (case a3 => k_is); (case l3 => k_is); (case c3 => k_is); (case k3 => k_is); (case a4 => k_is); (case l4 => k_is); (case c4 => k_is); (case k4 => k_is); (case a5 => k_is); (case l5 => k_is); (case c5 => k_is); (case k5 => k_is); (case a6 => k_is); (case l6 => k_is); (case c6 => k_is); (case k6 => k_is); (case a7 => k_is); (case l7 => k_is); (case c7 => k_is); (case k7 => k_is); (case a8 => k_is); (case l8 => k_is); (case c8 => k_is); (case k8 => k_is); (case a9 => k_is); (case l9 => k_is); (case c9 => k_is); (case k9 => k_is); (case a10 => k_is); (case l10 => k_is); (case c10 => k_is); (case k10 => k_is); (case a11 => k_is); (case l11 => k_is); (case c11 => k_is); (case k11 => k_is); (case a12 => k_is); (case l12 => k_is); (case c12 => k_is); (case k12 => k_is); (case a13 => k_is); (case l13 => k_is); (case c13 => k_is); (case k13 => k_is); (case a14 => k_is); (case l14 => k_is); (case c14 => k_is); (case k14 => k_is); (case a15 => k_is); (case l15 => k_is); (case c15 => k_is); (case k15 => k_is); (case a16 => k_is); (case l16 => k_is); (case c16 => k_is); (case k16 => k_is); (case z1 => k_is); (case z2 => k_is); (case z3 => k_is); (case z4 => k_is); (case z5 => k_is); (case z6 => k_is); (case z7 => k_is); (case z8 => k_is); (case z9 => k_is); (case z10 => k_is); (case z11 => k_is); (case z12 => k_is); (case z13 => k_is); (case zm => k_is)
