import PyProof.Rows.All
import Wide.All
import OpenK.AllK
import Wide.FinOn
import HandS.Base
import HandS.Call
import HandS.List
import HandS.Ends
import HandS.Words
import HandS.Comp
import HandS.Iter
import HandS.Dict
import HandS.ForMost
import HandS.Walk
import KE.GoesEnum
import HandS.SetFor
import HandS.Conv
import HandS.FStrTup
import HandS.TupAny
import HandS.Style
import HandS.IsInst
import HandS.Strs
import KE.KRevSl
import HandS.TupMul
import PySem.Challenge.RW_nextmarks_k01_rules_of_any_value
set_option Elab.async false
set_option linter.all false
set_option maxRecDepth 100000
/-! The hand layer with one thing more that is known: no repr is under way. -/
namespace GL
open PySem PySem.Spec PyProof.Rows L2

/-- a def's promise, kept wherever no repr is under way -/
structure FnG (P : Program) (w : World) (K : PySem.W.Frag) (mg : Str → Option Value) (base : Heap)
    (k : Nat) (f : Addr) (fd : FuncData) (ps : List Str) (sp : Sp) : Prop where
  many : ∀ vs H Q E, sp vs H Q E → vs.length = ps.length
  does : ∀ (A : Around) (out : List Env) (s : Shared) (H : Hp) (ar : Args) (us : List Value) (vs : List V) (Q : VK) (E : XK),
    A.guards = some [] → Room k A → Env0 P w K mg base A out s H → BindsTo s fd ar (ps.zip us) → Vals vs us → sp vs H Q E →
    codeAny (model P w) A (.call (.ref f) ar) (CR CX0 out P w H s Q E) s

section
variable {P : Program} {w : World} {K : PySem.W.Frag} {mg : Str → Option Value} {base : Heap}

theorem FnG.of {k : Nat} {f : Addr} {fd : FuncData} {ps : List Str} {sp : Sp} (F : FnOk P w K mg base CX0 k f fd ps sp) :
    FnG P w K mg base k f fd ps sp :=
  ⟨F.len, fun A out s H ar us vs Q E _ => F.run A out s H ar us vs Q E⟩

/-- a def by its body, no repr under way -/
theorem funG {x qual : Str} {st : Stmt} {f : Addr} {fd : FuncData} {N ps : List Str} {k : Nat} {sp : Sp}
    (F : Fun K x qual st f fd) (S : FnScope N ps (defScope st)) (many : ∀ vs H Q E, sp vs H Q E → vs.length = ps.length)
    (body : ∀ (cdv : Value) (A : Around) (out : List Env) (s : Shared) (H : Hp) (vs : List V) (Q : VK) (E : XK),
      A.guards = some [] → Room k (A.deeper (envOfC qual (defScope st) s.heap.objs.size f cdv)) → sp vs H Q E →
      ∃ t, PSs (cxOf CX0 P w K mg base N qual (defScope st) f cdv A out s H E).nox (defBody st) t ∧
        t { nx := fun _ H' => Q .non H', rt := Q } (start N vs) H) :
    FnG P w K mg base (k + 1) f fd ps sp := by
  obtain ⟨oc, od, kV, doc, pm, an, cdv, ct, osl, rfl, lk, hcd⟩ := F.ex
  refine ⟨many, fun A out s H ar us vs Q E gu room e0 bi rel wish => ?_⟩
  have n0 := many _ _ _ _ wish
  have kin : K.In s.heap := e0.mod.kin.keeps fun b o e => (e0.bs b o e).1
  have nol : s.heap.NoLimit := e0.mod.nolimit.keeps fun b o e => (e0.bs b o e).1
  have kinds : ∀ y ∈ ps.zip us, (defScope st).names.lookup y.1 = some .local ∨ ((defScope st).names.lookup y.1 = some .cell ∧
      ((cellsFrom (s.heap.objs.size + 1) (defScope st).names []).lookup y.1).isSome = true) := by
    rintro ⟨n, v⟩ hy
    rcases S.par n (List.of_mem_zip hy).1 with q | q
    · exact Or.inl q
    · exact Or.inr ⟨q, PySem.W.cellsFrom_some _ _ _ (Or.inl q)⟩
  apply codeAny_call_function room.depth (kin _ _ lk) rfl S.co S.gen rfl (PySem.W.codeRec_of kin hcd)
  refine bi _ _ _ _ ?_
  refine wpAny_newFunctionEnv_cells S.kind kinds fun env he s1 ic => ?_
  subst he
  refine And.intro (nol.keeps ic.toInCall.keep) (codeAny_func ?_)
  obtain ⟨t, ht, hq⟩ := body cdv A out s H vs Q E gu (room.deeper _) wish
  have ht' := ht.nox
  have J0 : Inv (cxOf CX0 P w K mg base N qual (defScope st) f cdv A out s H E) [] (start N vs) H s1 :=
    inv_start S room.hd e0 n0 rel ic
  refine wpAny_mono (ht'.run [] s1 (start N vs) H _ J0 hq) (fun fl s' hs => ?_) (fun e s' hs => hs)
  cases fl with
  | ret u =>
    obtain ⟨v, σ', H', J, rv, q⟩ := hs
    exact ⟨v, H', J.os, J.bare, J.base, J.hok, rv, q⟩
  | next =>
    obtain ⟨σ', H', J, q⟩ := hs
    exact ⟨V.non, H', J.os, J.bare, J.base, J.hok, rfl, q⟩
  | brk =>
    obtain ⟨_, _, _, q⟩ := hs
    cases q
  | cont =>
    obtain ⟨_, _, _, q⟩ := hs
    cases q
end

section
variable {X : Cx} {k : Nat} {f : Addr} {fd : FuncData} {ps : List Str} {sp : Sp} {x : Str} {p pos : Pos} {e : Expr} {es : List Expr} {t : TA} {E : XK}

theorem runG {pins : List (Addr × Obj)} {σ : L2.St} {H : Hp} {s : Shared} {Q : VK} {us : List Value} {vs : List V}
    (F : FnG X.prog X.w X.K X.mg X.base k f fd ps sp) (gu : X.A.guards = some []) (room : Room k X.A) (hb : Binds X.K fd ps [])
    (I : Inv X pins σ H s) (r : Vals vs us) (h : sp vs H Q E) :
    wpAny (model X.prog X.w) X.A (call (.ref f) us) (EP X pins σ Q) X.xe s := by
  have nl : (us ++ []).length = ps.length := by
    rw [List.append_nil, ← r.length]
    exact F.many _ _ _ _ h
  have bi := hb s us I.kIn nl
  rw [List.append_nil] at bi
  apply wpAny_call
  refine codeAny_mono (F.does X.A X.stack s H ⟨us, []⟩ us vs Q E gu room I.env0 bi r h) fun res s' hq => ?_
  rcases res with e | fl
  · exact False.elim hq
  · rcases fl with _ | _ | _ | u
    all_goals first | exact False.elim hq | exact I.after hq

def tCallG (sp : Sp) (E : XK) (t : TA) : TE := fun σ H Q => t σ H fun vs H1 => sp vs H1 Q E
theorem callG (F : FnG X.prog X.w X.K X.mg X.base k f fd ps sp) (gu : X.A.guards = some []) (room : Room k X.A) (hg : Gl X x)
    (hm : X.mg x = some (.ref f)) (hk : PySem.W.keepIn X.K (.ref f) = true) (hb : Binds X.K fd ps [])
    (ha : PA X (e :: es) t) (hdb : (x == ("__debug__" : Str)) = false := by decide)
    (he : starEach (e :: es) X.env = (false, eval e X.env) :: starEach es X.env := by rfl)
    (hpl : (backTo pos (starEach es X.env)).any (·.1) = false := by rfl) :
    PE X (.Call (.Name x p) (e :: es) [] pos) (tCallG sp E t) := by
  constructor
  intro pins s σ H Q I h
  apply wpAny_Call_Name_kw
  refine ld_glob I hg hm ?_ hdb
  refine PySem.W.callWith_K (h₀ := X.base) I.ok.mod.kin hk ?_ he hpl
  refine thn (ha.run pos pins s σ H _ I h) ?_
  rintro us s1 ⟨vs, H1, I1, r, q⟩
  exact ⟨I1.kIn, runG F gu room hb I1 r q⟩

/-- repr of data, where no repr is under way -/
theorem reprG (gu : X.A.guards = some []) (hu : X.A.units + 64 < cLine) :
    CallR X (.builtin "repr") (fun xs H Q => ∃ a d, xs = [.ref a] ∧ Dp X.K H (.ref a) d ∧ d.showable = true ∧ d.hasDict = false ∧
      d.depth ≤ 20 ∧ d.shown.length ≤ sizeLine ∧ Q (.str d.shown) H) := by
  intro pins s σ H xs us Q I r h
  obtain ⟨a, d, rfl, dp, sh, nd, de, sz, q⟩ := h
  obtain ⟨u, rfl, rfl⟩ := vals1 r
  obtain ⟨as, rd⟩ := Dp.reads I d (.ref a) (.ref a) dp rfl
  refine repr_of_reads' (h₀ := s.heap) rd sh (PyData.noDict_hsm nd) gu (by omega) (fun _ _ z => z) ?_ sz
  intro h' u tk kp
  exact ⟨.str _, H, I.kept kp, ⟨_, rfl⟩, q⟩
/-- an expression, with a word of what it gives -/
def tCutE (te : TE) : TE := fun σ H Q => ∃ P : VK, te σ H P ∧ ∀ v H', P v H' → Q v H'
theorem pe_cut {te : TE} (h : PE X e te) : PE X e (tCutE te) := by
  constructor
  intro pins s σ H Q I h1
  obtain ⟨P, h2, h3⟩ := h1
  refine thn (h.run pins s σ H P I h2) ?_
  rintro u s1 ⟨v, H1, I1, r, q⟩
  exact ⟨v, H1, I1, r, h3 v H1 q⟩
/-- a statement, then the others, with a word between -/
def tMid (t u : TS) : TS := fun D σ H => ∃ M : L2.St → Hp → Prop, t { D with nx := M } σ H ∧ ∀ σ' H', M σ' H' → u D σ' H'
theorem pss_mid {st : Stmt} {more : List Stmt} {t u : TS} (a : PS X st t) (b : PSs X more u) : PSs X (st :: more) (tMid t u) := by
  constructor
  intro pins s σ H D I h
  obtain ⟨M, hm, hu⟩ := h
  apply wpAny_execs_cons
  refine thn (a.run pins s σ H { D with nx := M } I hm) ?_
  rintro (_ | _ | _ | u) s1 q
  · obtain ⟨σ', H', I', q⟩ := q
    exact b.run pins s1 σ' H' D I' (hu σ' H' q)
  all_goals exact q
theorem reprBool : CallR X (.builtin "repr") (fun xs H Q => ∃ b, xs = [.bl b] ∧ Q (.str (if b then "True" else "False")) H) := by
  intro pins s σ H xs us Q I r h
  obtain ⟨b, rfl, q⟩ := h
  obtain ⟨u, rfl, rfl⟩ := vals1 r
  exact PySem.P.repr_of_bool ⟨.str _, H, I.tok _, ⟨_, rfl⟩, q⟩
/-! the rules that speak of the written part, with that part by name (within comprehensions) -/
def rTupOf (K : PySem.W.Frag) : List V → Hp → VK → Prop := fun xs H Q => ∃ p ys, xs = [.ref p] ∧ ((SqL K H p ys ∧ ∀ l, H l = none → Q (.ref l) (upd H l (.tup ys))) ∨ (SqT K H p ys ∧ Q (.ref p) H))
theorem tupOfK {K : PySem.W.Frag} (hK : X.K = K := by rfl) : CallR X (.type "tuple") (rTupOf K) := by
  subst hK
  exact call_tuple_of
def rLstOf (K : PySem.W.Frag) : List V → Hp → VK → Prop := fun xs H Q => ∃ p ys, xs = [.ref p] ∧ (SqL K H p ys ∨ SqT K H p ys) ∧ ∀ l, H l = none → Q (.ref l) (upd H l (.lst ys))
theorem lstOfK {K : PySem.W.Frag} (hK : X.K = K := by rfl) : CallR X (.type "list") (rLstOf K) := by
  subst hK
  exact call_list_of
def rLen (K : PySem.W.Frag) : List V → Hp → VK → Prop := fun xs H Q => ∃ p ys, xs = [.ref p] ∧ (SqL K H p ys ∨ SqT K H p ys) ∧ Q (.int ys.length) H
theorem lenK {K : PySem.W.Frag} (hK : X.K = K := by rfl) : CallR X (.builtin "len") (rLen K) := by
  subst hK
  exact call_len_seq
theorem ixTupK {K : PySem.W.Frag} (hK : X.K = K := by rfl) : IxR X (rIxT K) := by
  subst hK
  exact ix_tup
theorem ixLstK {K : PySem.W.Frag} (hK : X.K = K := by rfl) : IxR X (rIxL K) := by
  subst hK
  exact ix_list
theorem inK {K : PySem.W.Frag} (hK : X.K = K := by rfl) : OpR X (compareOp .In) (rIn K false) := by
  subst hK
  exact op_in_seq
theorem piLstK {K : PySem.W.Frag} {tg l : Expr} {tl : TE} (h : PE X l tl) (hK : X.K = K := by rfl) : PI X tg l (iList K tl) := by
  subst hK
  exact pi_list h
theorem piTupK {K : PySem.W.Frag} {tg l : Expr} {tl : TE} (h : PE X l tl) (hK : X.K = K := by rfl) : PI X tg l (iTup K tl) := by
  subst hK
  exact pi_tup h
theorem piEnumK {K : PySem.W.Frag} {e : Expr} {ta : TA} {p pos tpos : Pos} {elts : List Expr} {kk : Nat} (hg : Gl X "enumerate") (hm : X.mg "enumerate" = none) (ha : PA X [e] ta)
    (hs : starEach [e] X.env = [(false, eval e X.env)] := by rfl) (hK : X.K = K := by rfl) : PI X (.Tuple elts kk tpos) (.Call (.Name "enumerate" p) [e] [] pos) (iEnum K ta) := by
  subst hK
  exact pi_enum hg hm ha hs
theorem pgTupK {K : PySem.W.Frag} {es : List Expr} {k : Nat} {pos : Pos} {t : TGs} {n : Nat} (hc : X.calm = true) (h : PGs X es t)
    (hn : (assignEach es X.env).length = n := by rfl) (hst : (assignEach es X.env).findIdx? (·.1) = none := by rfl) (hK : X.K = K := by rfl) : PG X (.Tuple es k pos) (gTup K n t) := by
  subst hK
  exact pg_tup hc h hn hst
end
/-- the scope of a comprehension -/
def lcSc : Expr → Scope
  | .ListComp _ _ sc _ => sc
  | _ => { kind := .function, names := [], isGenerator := false, isCoroutine := false }
/-- e of «return f(e)» -/
def retArg : Stmt → Expr
  | .Return (some (.Call _ (e :: _) _ _)) _ => e
  | _ => .Constant .none 0 ⟨0, 0, 0, 0⟩
end GL

namespace Nm
open PySem PySem.Spec PyProof.Rows L2 GL
/-! ### the text -/
def topS (i : Nat) : Stmt := PySem.Challenge.pw_nextmarks_k01_rules_of_any_value.main.body.getD i (.Pass ⟨0, 0, 0, 0⟩)
abbrev sPot : Stmt := topS 7
abbrev sTake : Stmt := topS 8
theorem scPot : FnScope ["_law_script", "_law_k", "_law_cell", "_law_great"] ["_law_script", "_law_k"] (defScope sPot) := ⟨rfl, rfl, rfl, by decide +kernel, rfl, by decide +kernel, by decide +kernel⟩
theorem scTake : FnScope ["_law_pot_here", "_law_size", "_law_digit", "_law_prime", "_law_mixed_here"] ["_law_pot_here", "_law_size"] (defScope sTake) := ⟨rfl, rfl, rfl, by decide +kernel, rfl, by decide +kernel, by decide +kernel⟩
/-! ### heaps -/
theorem same_upd {H : Hp} {p : Addr} {o : HO} (h : H p = none) : Same H (upd H p o) := fun b x e => by
  rw [upd_ne (ne_of_none e h)]
  exact e
/-- a pot: digits, a seed, a count of at most n -/
def Pot (H : Hp) (p : Addr) (n : Nat) : Prop := ∃ g s c : Int, H p = some (.lst [.int g, .int s, .int c]) ∧ 0 ≤ g ∧ 0 ≤ s ∧ s < 2305843009213693921 ∧ 0 ≤ c ∧ c ≤ n
/-- all but the pot is as it was -/
def Kp (p : Addr) (H H' : Hp) : Prop := ∀ b o, b ≠ p → H b = some o → H' b = some o
theorem Kp.refl (p : Addr) (H : Hp) : Kp p H H := fun _ _ _ h => h
theorem Kp.trans {p : Addr} {H H1 H2 : Hp} (a : Kp p H H1) (b : Kp p H1 H2) : Kp p H H2 := fun c o n h => b c o n (a c o n h)
theorem Kp.of {p : Addr} {H H' : Hp} (a : Same H H') : Kp p H H' := fun c o _ h => a c o h
theorem Kp.upd {p : Addr} {H : Hp} {o : HO} : Kp p H (upd H p o) := fun b x n e => by
  rw [upd_ne n]
  exact e
theorem Pot.same {H H' : Hp} {p : Addr} {n : Nat} (h : Pot H p n) (s : Same H H') : Pot H' p n := by
  obtain ⟨g, t, c, e, r⟩ := h
  exact ⟨g, t, c, s _ _ e, r⟩
theorem Pot.mono {H : Hp} {p : Addr} {m n : Nat} (h : Pot H p m) (l : m ≤ n) : Pot H p n := by
  obtain ⟨g, t, c, e, r1, r2, r3, r4, r5⟩ := h
  exact ⟨g, t, c, e, r1, r2, r3, r4, by omega⟩
theorem Kp.tup {p a : Addr} {H H' : Hp} {n : Nat} {xs : List V} (k : Kp p H H') (h : Pot H p n) (e : H a = some (.tup xs)) : H' a = some (.tup xs) := by
  obtain ⟨g, t, c, q, _⟩ := h
  exact k a _ (ne_of e q (by intro z; cases z)) e
theorem Kp.seq {K : PySem.W.Frag} {p a : Addr} {H H' : Hp} {xs : List V} (k : Kp p H H') (n : a ≠ p) (h : SqL K H a xs) : SqL K H' a xs := by
  rcases h with (h | ⟨o, h⟩) | h
  · exact .inl (.inl (k _ _ n h))
  · exact .inl (.inr ⟨o, k _ _ n h⟩)
  · exact .inr h
theorem Same.seqT {K : PySem.W.Frag} {H H' : Hp} {a : Addr} {xs : List V} (e : Same H H') (h : SqT K H a xs) : SqT K H' a xs := by
  rcases h with (h | ⟨o, h⟩) | h
  · exact .inl (.inl (e _ _ h))
  · exact .inl (.inr ⟨o, e _ _ h⟩)
  · exact .inr h
section
variable {X : Cx}
theorem op_powW : OpR X (binaryOp .Pow) (rI (fun i j => 0 ≤ j ∧ (Builtin.Int.intBits i : Int) * j ≤ 2 ^ 27) fun i j => .int (i ^ j.toNat)) :=
  opI fun _ _ _ _ _ _ _ hc q => pow_int hc.1 hc.2 q
end
section
variable {P : Program} {w : World} {K : PySem.W.Frag} {mg : Str → Option Value} {base : Heap}
/-! ### pot -/
def spPot (K : PySem.W.Frag) : Sp := fun vs H Q _ => ∃ (a : Addr) (ns : List Int) (k : Int), vs = [.ref a, .int k] ∧ SqL K H a (ns.map V.int) ∧ 0 ≤ k ∧ k < 1000 ∧
  ∀ p H', H p = none → Same H H' → Pot H' p 0 → Q (.ref p) H'
theorem ok_pot {f : Addr} {fd : FuncData} {k : Nat} (F : Fun K "_law_pot" "_law_pot" sPot f fd) (ml : mg "len" = none) (ma : mg "abs" = none) :
    FnOk P w K mg base CX0 (k + 1) f fd ["_law_script", "_law_k"] (spPot K) := by
  refine F.ok scPot (fun vs H Q E h => ?_) (fun cdv A outer s H vs Q E hr h => ?_)
  · obtain ⟨a, ns, k, rfl, _⟩ := h
    rfl
  · obtain ⟨a, ns, k, rfl, hS, k0, k3, q⟩ := h
    refine ⟨_, pss_cons (ps_set (i := 2) scPot.nd rfl (.inl rfl) (pe_cut (pe_ifExp (pt_cmpR op_lt (pv 1) (pe_callB call_len_seq (by rfl) ml PySem.boot_len (pa_cons (pv 0) pa_nil)) (nomark _))
          (pe_ix ix_list (pv 0) (pv 1) (fun _ _ => rfl)) (pe_op op_add (pe_op op_mul pe_int (pv 1)) pe_int))))
      (pss_cons (ps_set (i := 3) scPot.nd rfl (.inl rfl) (pe_cut (pe_ifExp (pt_cmpR op_ge (pe_callB call_abs (by rfl) ma (by decide +kernel) (pa_cons (pv 2) pa_nil)) (pe_op op_pow pe_int pe_int) (nomark _))
          (pe_op op_mod (pe_callB call_abs (by rfl) ma (by decide +kernel) (pa_cons (pv 2) pa_nil)) (pe_op op_powW (pe_op op_pow pe_int pe_int) pe_int)) pe_int)))
      (pss_one (ps_ret (pe_lst (pa_cons (pv 3) (pa_cons (pe_op op_mod (pe_op op_add (pe_op op_add (pe_op op_mul (pe_op op_mod (pv 2) pe_int) pe_int) (pe_op op_mul (pe_op op_mul pe_int (pv 1)) (pv 1))) pe_int) pe_int)
          (pa_cons pe_int pa_nil))))))), ?_⟩
    have hl : (ns.map V.int).length = ns.length := List.length_map _
    refine ⟨fun v H' => (∃ c, v = .int c) ∧ H' = H, ?_, ?_⟩
    · refine ⟨.int k, rfl, .ref a, rfl, a, _, rfl, .inl hS, _, _, rfl, rfl, _, rfl, ?_⟩
      refine ite2 (fun e => ?_) (fun e => ?_)
      · have hk : k < (ns.length : Int) := by
          have := of_decide_eq_true e
          rw [hl] at this
          exact this
        have hi : k.toNat < ns.length := by omega
        have ek : k = (k.toNat : Int) := by omega
        refine ⟨.ref a, rfl, .int k, rfl, a, _, k, .int ns[k.toNat], rfl, rfl, hS, ?_, ⟨_, rfl⟩, rfl⟩
        have z := atI_nat (xs := ns.map V.int) (j := k.toNat) (v := .int ns[k.toNat]) (by rw [List.getElem?_map, List.getElem?_eq_getElem hi]; rfl)
        rw [← ek] at z
        exact z
      · exact ⟨.int k, rfl, 17, k, rfl, rfl, .inl ⟨by decide, by decide⟩, _, _, rfl, rfl, ⟨_, rfl⟩, rfl⟩
    rintro v H' ⟨⟨c, rfl⟩, rfl⟩
    refine ⟨fun v H'' => (∃ c, v = .int c ∧ 0 ≤ c) ∧ H'' = H', ?_, ?_⟩
    · refine ⟨.int c, rfl, c, rfl, 10, 18, rfl, rfl, ⟨by decide, by decide, by decide⟩, _, _, rfl, rfl, _, rfl, ?_⟩
      refine ite2 (fun e => ?_) (fun e => ?_)
      · exact ⟨.int c, rfl, c, rfl, 10, 60, rfl, rfl, ⟨by decide, by decide, by decide⟩, _, _, rfl, rfl, ⟨by decide, by decide +kernel⟩, _, _, rfl, rfl, (by show (0 : Int) < (10 ^ Int.toNat 60) ^ Int.toNat 3; decide +kernel), ⟨_, rfl, Int.emod_nonneg _ (by decide +kernel)⟩, rfl⟩
      · exact ⟨⟨0, rfl, Int.le_refl _⟩, rfl⟩
    rintro v H'' ⟨⟨g, rfl, g0⟩, rfl⟩
    have hM := Int.emod_nonneg (c % 2305843009213693951 * 69621 + 104729 * k * k + 71) (show (2305843009213693921 : Int) ≠ 0 by decide)
    have hM2 := Int.emod_lt_of_pos (c % 2305843009213693951 * 69621 + 104729 * k * k + 71) (show (0 : Int) < 2305843009213693921 by decide)
    refine ⟨.int g, rfl, .int c, rfl, c, 2305843009213693951, rfl, rfl, (by show (0 : Int) < 2305843009213693951; decide), _, 69621, rfl, rfl, .inr ⟨by decide, by decide⟩, .int k, rfl, 104729, k, rfl, rfl, .inl ⟨by decide, by decide⟩, .int k, rfl, _, k, rfl, rfl, .inr ⟨by omega, by omega⟩, _, _, rfl, rfl, _, _, rfl, rfl, _, _, rfl, rfl, (by show (0 : Int) < 2305843009213693921; decide), by show 3 ≤ sizeLine; decide, fun p np => ?_⟩
    exact q p _ np (same_upd np) ⟨_, _, _, upd_same, g0, hM, hM2, by decide, by decide⟩
/-! ### take -/
def spTake (K : PySem.W.Frag) : Sp := fun vs H Q _ => ∃ (p : Addr) (n : Nat) (z : Int), vs = [.ref p, .int z] ∧ Pot H p n ∧ n < 1000000 ∧ 1 ≤ z ∧ z < 1000000 ∧
  ∀ r H', 0 ≤ r → r < z → Pot H' p (n + 1) → Kp p H H' → Q (.int r) H'
theorem take_lt {m z : Int} (h : 1 ≤ z) : 0 ≤ m % z ∧ m % z < z := ⟨Int.emod_nonneg _ (by omega), Int.emod_lt_of_pos _ (by omega)⟩
theorem bnd64 {x m : Int} (h0 : 0 ≤ x) (h1 : x < m) (h2 : m ≤ 2147483647) : -(2 ^ 64) < x ∧ x < 2 ^ 64 := ⟨by omega, by omega⟩
theorem prime_at {r : Int} (h0 : 0 ≤ r) (h1 : r < 5) :
    ∃ m : Int, atI [V.int 2147483647, .int 2147483629, .int 2147483587, .int 2147483579, .int 2147483563] r = some (.int m) ∧ 2147483563 ≤ m ∧ m ≤ 2147483647 := by
  obtain rfl | rfl | rfl | rfl | rfl : r = 0 ∨ r = 1 ∨ r = 2 ∨ r = 3 ∨ r = 4 := by omega
  all_goals exact ⟨_, rfl, by decide, by decide⟩
theorem ok_take {f : Addr} {fd : FuncData} {k : Nat} (F : Fun K "_law_take" "_law_take" sTake f fd) :
    FnOk P w K mg base CX0 (k + 1) f fd ["_law_pot_here", "_law_size"] (spTake K) := by
  refine F.ok scTake (fun vs H Q E h => ?_) (fun cdv A outer s H vs Q E hr h => ?_)
  · obtain ⟨p, n, z, rfl, _⟩ := h
    rfl
  · obtain ⟨p, n, z, rfl, ⟨g, t, c, hp, g0, t0, t1, c0, c1⟩, hn, z1, z2, q⟩ := h
    have i0 : ∀ {a b d : V}, atI [a, b, d] 0 = some a := fun {a b d} => rfl
    have i1 : ∀ {a b d : V}, atI [a, b, d] 1 = some b := fun {a b d} => rfl
    have i2 : ∀ {a b d : V}, atI [a, b, d] 2 = some d := fun {a b d} => rfl
    refine ⟨_, pss_cons (ps_if (pt_cmpR op_gt (pe_ix ix_list (pv 0) pe_int (fun _ _ => rfl)) pe_int (nomark _))
          (pss_cons (ps_set (i := 2) scTake.nd rfl (.inl rfl) (pe_op op_mod (pe_ix ix_list (pv 0) pe_int (fun _ _ => rfl)) (pv 1)))
          (pss_cons (ps_asg (pe_op op_fdivN (pe_ix ix_list (pv 0) pe_int (fun _ _ => rfl)) (pv 1)) (pg_sub (pv 0) pe_int set_list))
          (pss_one (ps_ret (pv 2))))) pss_nil)
      (pss_cons (ps_asg (pe_op op_add (pe_ix ix_list (pv 0) pe_int (fun _ _ => rfl)) pe_int) (pg_sub (pv 0) pe_int set_list))
      (pss_cons (ps_set (i := 3) scTake.nd rfl (.inl rfl) (pe_cut (pe_ix ix_list (pe_lst (pa_cons pe_int (pa_cons pe_int (pa_cons pe_int (pa_cons pe_int (pa_cons pe_int pa_nil))))))
          (pe_op op_mod (pe_ix ix_list (pv 0) pe_int (fun _ _ => rfl)) pe_int) (fun _ _ => rfl))))
      (pss_cons (ps_set (i := 4) scTake.nd rfl (.inl rfl) (pe_op op_mod (pe_op op_pow (pe_op op_add (pe_op op_add (pe_ix ix_list (pv 0) pe_int (fun _ _ => rfl))
            (pe_op op_mul (pe_op op_mul pe_int (pe_ix ix_list (pv 0) pe_int (fun _ _ => rfl))) (pe_ix ix_list (pv 0) pe_int (fun _ _ => rfl)))) pe_int) pe_int) (pv 3)))
      (pss_one (ps_ret (pe_op op_mod (pe_op op_fdivN (pe_op op_mod (pe_op op_mul (pv 4) (pe_op op_add (pe_op op_mod (pv 4) pe_int) (pe_op op_mul pe_int (pe_ix ix_list (pv 0) pe_int (fun _ _ => rfl))))) pe_int) pe_int) (pv 1))))))), ?_⟩
    refine ⟨.ref p, rfl, p, _, 0, _, rfl, rfl, SqL.of hp, i0, g, 0, rfl, rfl, _, rfl, ite2 (fun e => ?_) (fun e => ?_)⟩
    · -- a digit
      have hd := take_lt (m := g) z1
      refine ⟨.ref p, rfl, p, _, 0, _, rfl, rfl, SqL.of hp, i0, .int z, rfl, g, z, rfl, rfl, (by show (0 : Int) < z; omega), ?_⟩
      refine ⟨.ref p, rfl, p, _, 0, _, rfl, rfl, SqL.of hp, i0, .int z, rfl, g, z, rfl, rfl, ⟨by omega, by omega⟩, .ref p, rfl, p, _, 0, 0, rfl, rfl, hp, rfl, ?_⟩
      refine ⟨_, rfl, q _ _ hd.1 hd.2 ⟨_, t, c, upd_same, ?_, t0, t1, c0, by omega⟩ Kp.upd⟩
      exact Int.fdiv_nonneg g0 (by omega)
    · refine ⟨.ref p, rfl, p, _, 2, _, rfl, rfl, SqL.of hp, i2, c, 1, rfl, rfl, .ref p, rfl, p, _, 2, 2, rfl, rfl, hp, rfl, ?_⟩
      have hp1 : upd H p (.lst ([V.int g, .int t, .int c].set 2 (.int (c + 1)))) p = some (.lst [.int g, .int t, .int (c + 1)]) := upd_same
      generalize eH : upd H p (.lst ([V.int g, .int t, .int c].set 2 (.int (c + 1)))) = H1 at hp1 ⊢
      have k1 : Kp p H H1 := by
        rw [← eH]
        exact Kp.upd
      generalize ed : c + 1 = d at hp1
      have d0 : 0 ≤ d := by omega
      have d1 : d ≤ 1000000 := by omega
      refine ⟨fun v H' => (∃ m : Int, v = .int m ∧ 2147483563 ≤ m ∧ m ≤ 2147483647) ∧ Same H1 H', ?_, ?_⟩
      · refine ⟨by show 5 ≤ sizeLine; decide, fun l nl => ?_⟩
        have s2 := same_upd (o := .lst [V.int 2147483647, .int 2147483629, .int 2147483587, .int 2147483579, .int 2147483563]) nl
        have h5 := take_lt (m := d) (z := 5) (by decide)
        obtain ⟨m, em, m1, m2⟩ := prime_at h5.1 h5.2
        exact ⟨.ref p, rfl, p, _, 2, _, rfl, rfl, SqL.of (s2 _ _ hp1), i2, d, 5, rfl, rfl, (by show (0 : Int) < 5; decide), l, _, _, _, rfl, rfl, SqL.of upd_same, em, ⟨m, rfl, m1, m2⟩, s2⟩
      rintro v H2 ⟨⟨m, rfl, m1, m2⟩, s2⟩
      have hp2 := s2 _ _ hp1
      have b1 : 0 ≤ 40009 * d * d ∧ 40009 * d * d ≤ 40009 * 1000000 * 1000000 := by
        refine ⟨Int.mul_nonneg (by omega) d0, Int.mul_le_mul (by omega) d1 d0 (by omega)⟩
      have hm := take_lt (m := (t + 40009 * d * d + 31) ^ Int.toNat 3) (z := m) (by omega)
      refine ⟨.ref p, rfl, p, _, 1, _, rfl, rfl, SqL.of hp2, i1, .ref p, rfl, p, _, 2, _, rfl, rfl, SqL.of hp2, i2, 40009, d, rfl, rfl, .inl ⟨by decide, by decide⟩,
        .ref p, rfl, p, _, 2, _, rfl, rfl, SqL.of hp2, i2, _, d, rfl, rfl, .inr ⟨by omega, by omega⟩, t, _, rfl, rfl, _, 31, rfl, rfl, _, 3, rfl, rfl, ⟨by decide, by decide, by omega⟩, .int m, rfl, _, m, rfl, rfl, (by show (0 : Int) < m; omega), ?_⟩
      refine ⟨_, rfl, _, rfl, _, 10009, rfl, rfl, (by show (0 : Int) < 10009; decide), .ref p, rfl, p, _, 2, _, rfl, rfl, SqL.of hp2, i2, 89, d, rfl, rfl, .inl ⟨by decide, by decide⟩, _, _, rfl, rfl, _, _, rfl, rfl, .inl (bnd64 hm.1 hm.2 m2),
        _, 2305843009213693907, rfl, rfl, (by show (0 : Int) < 2305843009213693907; decide), _, 89, rfl, rfl, ⟨by decide, by decide⟩, .int z, rfl, _, z, rfl, rfl, (by show (0 : Int) < z; omega), ?_⟩
      refine q _ _ (take_lt z1).1 (take_lt z1).2 ⟨g, t, d, hp2, g0, t0, t1, d0, by omega⟩ (k1.trans (.of s2))
end
end Nm

namespace Nm
open PySem PySem.Spec PyProof.Rows L2 GL
abbrev sPick : Stmt := topS 9
abbrev sMixed : Stmt := topS 10
abbrev sSome : Stmt := topS 11
theorem scPick : FnScope ["_law_pot_here", "_law_some_here"] ["_law_pot_here", "_law_some_here"] (defScope sPick) := ⟨rfl, rfl, rfl, by decide +kernel, rfl, by decide +kernel, by decide +kernel⟩
theorem scMixed : FnScope ["_law_pot_here", "_law_some_here", "_law_left", "_law_found"] ["_law_pot_here", "_law_some_here"] (defScope sMixed) := ⟨rfl, rfl, rfl, by decide +kernel, rfl, by decide +kernel, by decide +kernel⟩
theorem scSome : FnScope ["_law_pot_here", "_law_some_here", "_law_share", "_law_one"] ["_law_pot_here", "_law_some_here", "_law_share"] (defScope sSome) := ⟨rfl, rfl, rfl, by decide +kernel, rfl, by decide +kernel, by decide +kernel⟩
/-! ### data -/
theorem dpInts {K : PySem.W.Frag} {H : Hp} : ∀ ns : List Int, DpAll K H (ns.map V.int) (ns.map PyData.int)
  | [] => .nil
  | n :: ns => .cons (.int n) (dpInts ns)
theorem layInts : ∀ ns : List Int, PyData.canLayAll0 (ns.map PyData.int) = true
  | [] => by simp [PyData.canLayAll0]
  | n :: ns => by simp [PyData.canLayAll0, PyData.canLay0, layInts ns]
theorem deepInts : ∀ ns : List Int, PyData.depthAll (ns.map PyData.int) = 0
  | [] => by simp [PyData.depthAll]
  | n :: ns => by simp [PyData.depthAll, PyData.depth, deepInts ns]
theorem shapedL (ns : List Int) : SeqAt.shaped (.list (ns.map PyData.int)) = true := by
  simp [SeqAt.shaped, PyData.canLay0, layInts, PyData.depth, deepInts]
theorem shapedT (ns : List Int) : SeqAt.shaped (.tuple (ns.map PyData.int)) = true := by
  simp [SeqAt.shaped, PyData.canLay0, layInts, PyData.depth, deepInts]
theorem eqv_nil (ns : List Int) : PyData.eqv (.list (ns.map PyData.int)) (.list []) = ns.isEmpty := by
  cases ns <;> simp [PyData.eqv, PyData.eqvAll]
theorem pot_lst {H : Hp} {p : Addr} {n : Nat} (h : Pot H p n) : ∃ xs, H p = some (.lst xs) := by
  obtain ⟨g, t, c, e, _⟩ := h
  exact ⟨_, e⟩
theorem atI_of {α : Type} {xs : List α} {r : Int} (h0 : 0 ≤ r) (h1 : r < (xs.length : Int)) : atI xs r = some (xs[r.toNat]'(by omega)) := by
  have hi : r.toNat < xs.length := by omega
  have z := atI_nat (xs := xs) (j := r.toNat) (v := xs[r.toNat]) (List.getElem?_eq_getElem hi)
  have e : ((r.toNat : Nat) : Int) = r := by omega
  rw [e] at z
  exact z
section
variable {P : Program} {w : World} {K : PySem.W.Frag} {mg : Str → Option Value} {base : Heap}
/-! ### pick -/
def spPick (K : PySem.W.Frag) : Sp := fun vs H Q _ => ∃ (p a : Addr) (n : Nat) (xs : List V), vs = [.ref p, .ref a] ∧ Pot H p n ∧ n < 1000000 ∧ SqL K H a xs ∧ a ≠ p ∧ xs ≠ [] ∧ xs.length < 1000000 ∧
  ∀ (i : Nat) (v : V) (H' : Hp), xs[i]? = some v → Pot H' p (n + 1) → Kp p H H' → Q v H'
theorem ok_pick {f fT : Addr} {fd fdT : FuncData} {k : Nat} (F : Fun K "_law_pick" "_law_pick" sPick f fd) (FT : Fun K "_law_take" "_law_take" sTake fT fdT) (bT : Binds K fdT ["_law_pot_here", "_law_size"] []) (gT : mg "_law_take" = some (.ref fT)) (ml : mg "len" = none) :
    FnOk P w K mg base CX0 (k + 2) f fd ["_law_pot_here", "_law_some_here"] (spPick K) := by
  have GT : FnOk P w K mg base CX0 (k + 1) fT fdT ["_law_pot_here", "_law_size"] (spTake K) := ok_take FT
  refine F.ok scPick (fun vs H Q E h => ?_) (fun cdv A outer s H vs Q E hr h => ?_)
  · obtain ⟨p, a, n, xs, rfl, _⟩ := h
    rfl
  · obtain ⟨p, a, n, xs, rfl, hp, hn, hS, hne, h0, hl, q⟩ := h
    refine ⟨_, pss_one (ps_ret (pe_ix ix_list (pv 1) (pe_call GT hr (by rfl) gT FT.kp bT .nil pass0 (pa_cons (pv 0) (pa_cons (pe_callB call_len_seq (by rfl) ml PySem.boot_len (pa_cons (pv 1) pa_nil)) pa_nil))) (fun _ _ => rfl))), ?_⟩
    have l0 : 0 < xs.length := List.length_pos_iff.mpr h0
    refine ⟨.ref a, rfl, .ref p, rfl, .ref a, rfl, a, xs, rfl, .inl hS, p, n, _, rfl, hp, hn, by omega, by omega, fun r H' r0 r1 hp' kp => ?_⟩
    exact ⟨a, xs, r, _, rfl, rfl, kp.seq hne hS, atI_of r0 r1, q r.toNat _ H' (List.getElem?_eq_getElem (by omega)) hp' kp⟩
/-! ### mixed -/
def spMixed (K : PySem.W.Frag) : Sp := fun vs H Q _ => ∃ (p a : Addr) (n : Nat) (ns : List Int), vs = [.ref p, .ref a] ∧ Pot H p n ∧ n + ns.length < 1000000 ∧ SqL K H a (ns.map V.int) ∧
  ∀ (o : Addr) (ms : List Int) (H' : Hp), H o = none → ms.Perm ns → H' o = some (.lst (ms.map V.int)) → Pot H' p (n + ns.length) → Kp p H H' → Q (.ref o) H'
theorem erase_perm {α : Type} : ∀ {l : List α} {i : Nat} {x : α}, l[i]? = some x → (x :: l.eraseIdx i).Perm l
  | [], i, x, h => by simp at h
  | y :: l, 0, x, h => by
    have e : y = x := by simpa using h
    subst e
    exact List.Perm.refl _
  | y :: l, i + 1, x, h => by
    have ih := erase_perm (l := l) (i := i) (x := x) (by simpa using h)
    rw [List.eraseIdx_cons_succ]
    exact (List.Perm.swap y x _).trans (ih.cons y)
theorem map_eraseIdx {α β : Type} (f : α → β) : ∀ (l : List α) (i : Nat), (l.map f).eraseIdx i = (l.eraseIdx i).map f
  | [], i => by simp
  | x :: l, 0 => by simp
  | x :: l, i + 1 => by simp [map_eraseIdx f l i]
theorem lenLine {n : Nat} (h : n < 1000001) : n < sizeLine := Nat.lt_of_lt_of_le h (by decide)
theorem ok_mixed {f fT : Addr} {fd fdT : FuncData} {k : Nat} (F : Fun K "_law_mixed" "_law_mixed" sMixed f fd) (FT : Fun K "_law_take" "_law_take" sTake fT fdT) (bT : Binds K fdT ["_law_pot_here", "_law_size"] []) (gT : mg "_law_take" = some (.ref fT)) (ml : mg "len" = none) (mlist : mg "list" = none) :
    FnOk P w K mg base CX0 (k + 2) f fd ["_law_pot_here", "_law_some_here"] (spMixed K) := by
  have GT : FnOk P w K mg base CX0 (k + 1) fT fdT ["_law_pot_here", "_law_size"] (spTake K) := ok_take FT
  refine F.ok scMixed (fun vs H Q E h => ?_) (fun cdv A outer s H vs Q E hr h => ?_)
  · obtain ⟨p, a, n, ns, rfl, _⟩ := h
    rfl
  · obtain ⟨p, a, n, ns, rfl, hp, hn, hS, q⟩ := h
    refine ⟨_, pss_cons (ps_par (i := 2) (j := 3) (by rfl) scMixed.nd rfl rfl (by decide) rfl rfl (pa_cons (pe_callTy call_list_of (by rfl) mlist (by decide +kernel) (pa_cons (pv 1) pa_nil)) (pa_cons (pe_lst pa_nil) pa_nil)) (by rfl))
      (pss_cons (ps_while PassesOwn.never (pt_cmpR (op_neD hr.units) (pv 2) (pe_lst pa_nil) (nomark _))
        (pss_one (ps_expr (pe_bm PySem.F.plainAttrs_list PySem.F.slot_list_append PySem.F.type_list_append mt_append (pv 3)
          (pa_cons (pe_bm PySem.F.plainAttrs_list PySem.F.slot_list_pop PySem.F.type_list_pop mt_popAt (pv 2)
            (pa_cons (pe_call GT hr (by rfl) gT FT.kp bT .nil pass0 (pa_cons (pv 0) (pa_cons (pe_callB call_len_seq (by rfl) ml PySem.boot_len (pa_cons (pv 2) pa_nil)) pa_nil))) pa_nil)) pa_nil)))))
      (pss_one (ps_ret (pv 3)))), ?_⟩
    refine ⟨.ref a, rfl, a, _, rfl, .inl hS, fun l nl => ⟨Nat.zero_le _, fun o no => ?_⟩⟩
    have s1 := same_upd (o := .lst (ns.map V.int)) nl
    have s2 := same_upd (o := .lst []) no
    have nlo : l ≠ o := ne_of_none upd_same no
    refine ⟨_, _, rfl, fun m σ H' => ∃ (ls fs : List Int), σ = [some (.ref p), some (.ref a), some (.ref l), some (.ref o)] ∧ m = ls.length ∧ H' l = some (.lst (ls.map V.int)) ∧ H' o = some (.lst (fs.map V.int)) ∧
      (fs ++ ls).Perm ns ∧ Pot H' p (n + fs.length) ∧ Kp p H H', ⟨ns.length, ns, [], rfl, rfl, s2 _ _ upd_same, upd_same, List.Perm.refl _, (hp.same s1).same s2, .of (s1.trans s2)⟩, fun m σ H1 hW => ?_⟩
    obtain ⟨ls, fs, rfl, rfl, hL, hO, pm, hp1, kp1⟩ := hW
    have lenP : fs.length + ls.length = ns.length := by
      have := pm.length_eq
      rw [List.length_append] at this
      exact this
    refine ⟨.ref l, rfl, Nat.zero_le _, fun e ne => ?_⟩
    have s3 := same_upd (o := .lst []) ne
    refine ⟨.list (ls.map PyData.int), .list [], .lst (SqL.of (s3 _ _ hL)) (dpInts ls), .lst (SqL.of upd_same) .nil, shapedL ls, shapedL [], _, rfl, ?_⟩
    rw [eqv_nil]
    have hL3 := s3 _ _ hL
    have hO3 := s3 _ _ hO
    have hp3 := hp1.same s3
    have kp3 := kp1.trans (.of s3)
    generalize upd H1 e (.lst []) = H3 at hL3 hO3 hp3 kp3 ⊢
    cases ls with
    | nil =>
      refine iteF ⟨.ref o, rfl, q o fs H3 ?_ ?_ hO3 (hp3.mono (by simp at lenP; omega)) kp3⟩
      · exact s1.free no
      · rw [List.append_nil] at pm
        exact pm
    | cons x ls =>
      refine iteT ⟨fun σ H' => ∃ (ls' fs' : List Int), σ = [some (.ref p), some (.ref a), some (.ref l), some (.ref o)] ∧ ls'.length = ls.length ∧ H' l = some (.lst (ls'.map V.int)) ∧ H' o = some (.lst (fs'.map V.int)) ∧
        (fs' ++ ls').Perm ns ∧ Pot H' p (n + fs'.length) ∧ Kp p H H', fun σ' H' hN => ?_, ?_⟩
      · obtain ⟨ls', fs', e1, e2, e3⟩ := hN
        exact ⟨ls.length, by simp, ls', fs', e1, e2.symm, e3⟩
      · obtain ⟨xs0, hp0⟩ := pot_lst hp
        have npl : l ≠ p := fun z => by
          subst z
          rw [hp0] at nl
          cases nl
        have npo : o ≠ p := fun z => by
          subst z
          rw [s1 _ _ hp0] at no
          cases no
        have lx : ((x :: ls).map V.int).length = ls.length + 1 := by rw [List.length_map, List.length_cons]
        refine ⟨.ref o, rfl, .inl ⟨rfl, _, SqL.of hO3⟩, .ref l, rfl, .inl ⟨rfl, _, SqL.of hL3⟩, .ref p, rfl, .ref l, rfl, l, _, rfl, .inl (SqL.of hL3), p, n + fs.length, _, rfl, hp3, ?_, ?_, ?_, fun r H4 r0 r1 hp4 kp4 => ?_⟩
        · simp at lenP
          omega
        · rw [lx]
          omega
        · rw [lx]
          simp at lenP
          omega
        · have hL4 := kp4 _ _ npl hL3
          have hO4 := kp4 _ _ npo hO3
          have hi : r.toNat < (x :: ls).length := by
            rw [lx] at r1
            rw [List.length_cons]
            omega
          have hg : (x :: ls)[r.toNat]? = some (x :: ls)[r.toNat] := List.getElem?_eq_getElem hi
          have pm2 := erase_perm hg
          generalize (x :: ls)[r.toNat] = y at hg pm2
          have hO5 : upd H4 l (.lst (((x :: ls).map V.int).eraseIdx r.toNat)) o = some (.lst (fs.map V.int)) := by
            rw [upd_ne nlo.symm]
            exact hO4
          refine ⟨l, _, r, r.toNat, .int y, rfl, rfl, hL4, by omega, by omega, seqIndex_of r0 r1, ?_, o, _, .int y, rfl, rfl, hO5, ?_, ?_⟩
          · rw [List.getElem?_map, hg]
            rfl
          · rw [List.length_map]
            simp at lenP
            exact lenLine (by omega)
          · refine ⟨(x :: ls).eraseIdx r.toNat, fs ++ [y], rfl, ?_, ?_, ?_, ?_, ?_, ?_⟩
            · have := pm2.length_eq
              simp at this
              omega
            · rw [upd_ne nlo, upd_same, map_eraseIdx]
            · rw [upd_same, List.map_append]
              rfl
            · refine List.Perm.trans ?_ pm
              rw [List.append_assoc]
              exact (List.Perm.refl fs).append pm2
            · obtain ⟨g, t, c, hq, rr⟩ := hp4
              refine ⟨g, t, c, ?_, ?_⟩
              · rw [upd_ne npo.symm, upd_ne npl.symm]
                exact hq
              · rw [List.length_append, List.length_singleton, ← Nat.add_assoc]
                exact rr
            · intro b ob nb hb
              have n1 : b ≠ l := ne_of_none hb nl
              have n2 : b ≠ o := ne_of_none hb (s1.free no)
              rw [upd_ne n2, upd_ne n1]
              exact kp4 _ _ nb (kp3 _ _ nb hb)
/-! ### some -/
def spSome (K : PySem.W.Frag) : Sp := fun vs H Q _ => ∃ (p a : Addr) (n : Nat) (ns : List Int) (z : Int), vs = [.ref p, .ref a, .int z] ∧ Pot H p n ∧ n + ns.length < 1000000 ∧ SqL K H a (ns.map V.int) ∧ a ≠ p ∧ 1 ≤ z ∧ z < 1000000 ∧
  ∀ (o : Addr) (ms : List Int) (H' : Hp), H o = none → ms.Sublist ns → H' o = some (.tup (ms.map V.int)) → Pot H' p (n + ns.length) → Kp p H H' → Q (.ref o) H'
theorem ok_some {f fT : Addr} {fd fdT : FuncData} {k : Nat} (F : Fun K "_law_some" "_law_some" sSome f fd) (FT : Fun K "_law_take" "_law_take" sTake fT fdT) (bT : Binds K fdT ["_law_pot_here", "_law_size"] []) (gT : mg "_law_take" = some (.ref fT)) (mtup : mg "tuple" = none) :
    FnOk P w K mg base CX0 (k + 2) f fd ["_law_pot_here", "_law_some_here", "_law_share"] (spSome K) := by
  have GT : FnOk P w K mg base CX0 (k + 1) fT fdT ["_law_pot_here", "_law_size"] (spTake K) := ok_take FT
  refine F.ok scSome (fun vs H Q E h => ?_) (fun cdv A outer s H vs Q E hr h => ?_)
  · obtain ⟨p, a, n, ns, z, rfl, _⟩ := h
    rfl
  · obtain ⟨p, a, n, ns, z, rfl, hp, hn, hS, nap, z1, z2, q⟩ := h
    refine ⟨_, pss_one (ps_ret (pe_callTy call_tuple_of (by rfl) mtup (by decide +kernel) (pa_cons
      (pe_lc (own := [("_law_one", 3)]) (g := gName 3) (by rfl) scSome.nd (pi_list (pv 1))
        (blkOk_by (own := [("_law_one", 3)]) (N := ["_law_pot_here", "_law_some_here", "_law_share", "_law_one"]) (sc := defScope sSome) (by decide +kernel))
        (fun _ _ _ _ _ => pg_name (i := 3) scSome.nd rfl (Or.inl rfl))
        (fun _ _ _ _ _ => pts_one (pt_cmpR op_eq (pe_call GT hr (by rfl) gT FT.kp bT .nil pass0 (pa_cons (pv 0) (pa_cons (pv 2) pa_nil))) pe_int (nomark _)))
        (fun _ _ _ _ _ => pv 3)) pa_nil))), ?_⟩
    refine ⟨.ref a, rfl, a, rfl, ⟨_, hS⟩, fun D nD => ?_⟩
    obtain ⟨xs0, hp0⟩ := pot_lst hp
    have nDp : D ≠ p := fun z => by
      subst z
      rw [hp0] at nD
      cases nD
    have naD : a ≠ D ∨ ∀ H', SqL K H a (ns.map V.int) → SqL K H' a (ns.map V.int) := by
      rcases hS with (h | ⟨o, h⟩) | h
      · exact .inl (ne_of_none h nD)
      · exact .inl (ne_of_none h nD)
      · exact .inr fun _ _ => .inr h
    refine lc_list (K := K) (a := a) (xs := ns.map V.int) (fun i H' => ∃ ms : List Int, ms.Sublist (ns.take i) ∧ H' D = some (.lst (ms.map V.int)) ∧ Pot H' p (n + i) ∧ Kp p H H') ⟨[], List.nil_sublist _, upd_same, hp.same (same_upd nD), .of (same_upd nD)⟩ ?_ ?_ ?_
    · rintro i H' _ ⟨ms, _, _, _, kp⟩
      exact kp.seq nap hS
    · rintro i x H' hx ⟨ms, sub, hD, hp', kp⟩
      have hi : i < ns.length := by
        have := (List.getElem?_eq_some_iff.mp hx).1
        rw [List.length_map] at this
        exact this
      obtain ⟨y, hy, rfl⟩ : ∃ y, ns[i]? = some y ∧ x = .int y := by
        rw [List.getElem?_map, List.getElem?_eq_getElem hi] at hx
        exact ⟨ns[i], List.getElem?_eq_getElem hi, (Option.some.inj hx).symm⟩
      have ht : ns.take (i + 1) = ns.take i ++ [y] := by
        rw [List.take_add_one, hy]
        rfl
      have lm := sub.length_le
      rw [List.length_take] at lm
      refine ⟨rfl, .ref p, rfl, .int z, rfl, p, n + i, z, rfl, hp', by omega, z1, z2, fun r H2 r0 r1 hp2 kp2 => ?_⟩
      have hD2 := kp2 _ _ nDp hD
      refine ⟨rfl, _, rfl, ite2 (fun e => ?_) (fun e => ?_)⟩
      · refine ⟨.int y, rfl, _, hD2, ?_, ms ++ [y], ?_, ?_, ?_, ?_⟩
        · rw [List.length_map]
          exact lenLine (by omega)
        · rw [ht]
          exact sub.append (List.Sublist.refl _)
        · rw [upd_same, List.map_append]
          rfl
        · obtain ⟨g, t, c, hq, rr⟩ := hp2
          refine ⟨g, t, c, ?_, rr⟩
          rw [upd_ne nDp.symm]
          exact hq
        · intro b ob nb hb
          rw [upd_ne (ne_of_none hb nD)]
          exact kp2 _ _ nb (kp _ _ nb hb)
      · refine ⟨ms, ?_, hD2, hp2, kp.trans kp2⟩
        rw [ht]
        exact sub.trans (List.sublist_append_left _ _)
    · rintro H' ⟨ms, sub, hD, hp', kp⟩
      rw [List.length_map] at sub hp'
      rw [List.take_length] at sub
      refine ⟨D, _, rfl, .inl ⟨SqL.of hD, fun o no => ?_⟩⟩
      have s2 := same_upd (o := .tup (ms.map V.int)) no
      have no' : H o = none := by
        cases hz : H o with
        | none => rfl
        | some u =>
          by_cases e : o = p
          · subst e
            obtain ⟨_, e⟩ := pot_lst hp'
            rw [e] at no
            cases no
          · rw [kp _ _ e hz] at no
            cases no
      exact q o ms _ no' sub upd_same (hp'.same s2) (kp.trans (.of s2))
end
end Nm

namespace Nm
open PySem PySem.Spec PyProof.Rows L2 GL
abbrev sNamed : Stmt := topS 12
abbrev nNamed : List Str := ["_law_wide", "_law_signs", "_law_own", "_law_named_here", "_law_at", "_law_pair"]
theorem scNamed : FnScope nNamed ["_law_wide"] (defScope sNamed) := ⟨rfl, rfl, rfl, by decide +kernel, rfl, by decide +kernel, by decide +kernel⟩
/-! ### pairs and tables -/
section
variable {α β : Type} {F : α → β → Prop}
theorem paired_get : ∀ {l₁ : List α} {l₂ : List β} {i : Nat} {a : α}, Paired F l₁ l₂ → l₁[i]? = some a → ∃ b, l₂[i]? = some b ∧ F a b
  | _, _, _, _, .nil, e => by simp at e
  | _, _, 0, _, .cons r _, e => by
    simp at e
    subst e
    exact ⟨_, rfl, r⟩
  | _, _, i + 1, a, .cons _ t, e => by
    obtain ⟨u, h1, h2⟩ := paired_get (i := i) (a := a) t (by simpa using e)
    exact ⟨u, by simpa using h1, h2⟩
theorem paired_append : ∀ {l₁ m₁ : List α} {l₂ m₂ : List β}, Paired F l₁ l₂ → Paired F m₁ m₂ → Paired F (l₁ ++ m₁) (l₂ ++ m₂)
  | _, _, _, _, .nil, s => s
  | _, _, _, _, .cons r t, s => .cons r (paired_append t s)
end
/-- pairs of ints at these addresses -/
def PR (H : Hp) (rs : List Addr) (ps : List (Int × Int)) : Prop := Paired (fun a q => H a = some (.tup [.int q.1, .int q.2])) rs ps
/-- rows of ints at these addresses -/
def Rows (H : Hp) (rs : List Addr) (T : List (List Int)) : Prop := Paired (fun a row => H a = some (.tup (row.map V.int))) rs T
/-- a table: a tuple of rows -/
def Tbl (H : Hp) (p : Addr) (T : List (List Int)) : Prop := ∃ rs : List Addr, H p = some (.tup (rs.map V.ref)) ∧ Rows H rs T
theorem PR.same {H H' : Hp} {rs : List Addr} {ps : List (Int × Int)} (h : PR H rs ps) (s : Same H H') : PR H' rs ps := Paired.mapP h fun a b e => s _ _ e
theorem Rows.same {H H' : Hp} {rs : List Addr} {T : List (List Int)} (h : Rows H rs T) (s : Same H H') : Rows H' rs T := Paired.mapP h fun a b e => s _ _ e
theorem Tbl.same {H H' : Hp} {p : Addr} {T : List (List Int)} (h : Tbl H p T) (s : Same H H') : Tbl H' p T := by
  obtain ⟨rs, e, r⟩ := h
  exact ⟨rs, s _ _ e, r.same s⟩
theorem Rows.kp {p : Addr} {n : Nat} {H H' : Hp} {rs : List Addr} {T : List (List Int)} (h : Rows H rs T) (k : Kp p H H') (hp : Pot H p n) : Rows H' rs T := Paired.mapP h fun a b e => k.tup hp e
theorem Tbl.kp {q : Addr} {n : Nat} {H H' : Hp} {p : Addr} {T : List (List Int)} (h : Tbl H p T) (k : Kp q H H') (hp : Pot H q n) : Tbl H' p T := by
  obtain ⟨rs, e, r⟩ := h
  exact ⟨rs, k.tup hp e, r.kp k hp⟩
/-- a table is stays where only lists are changed -/
def KT (H H' : Hp) : Prop := ∀ a xs, H a = some (.tup xs) → H' a = some (.tup xs)
theorem Rows.kt {H H' : Hp} {rs : List Addr} {T : List (List Int)} (h : Rows H rs T) (k : KT H H') : Rows H' rs T := Paired.mapP h fun a b e => k _ _ e
theorem PR.kt {H H' : Hp} {rs : List Addr} {T : List (Int × Int)} (h : PR H rs T) (k : KT H H') : PR H' rs T := Paired.mapP h fun a b e => k _ _ e
theorem KT.of {H H' : Hp} (s : Same H H') : KT H H' := fun _ _ e => s _ _ e
theorem KT.trans {H H1 H2 : Hp} (a : KT H H1) (b : KT H1 H2) : KT H H2 := fun _ _ e => b _ _ (a _ _ e)
theorem KT.lst {H : Hp} {l : Addr} {xs : List V} {o : HO} (h : H l = some (.lst xs)) : KT H (upd H l o) := fun a ys e => by
  rw [upd_ne (ne_of e h (by intro z; cases z))]
  exact e
theorem KT.new {H : Hp} {l : Addr} {o : HO} (h : H l = none) : KT H (upd H l o) := .of (same_upd h)
theorem ref_at {rs : List Addr} {i : Nat} {x : V} (h : (rs.map V.ref)[i]? = some x) : ∃ a, rs[i]? = some a ∧ x = .ref a := by
  rw [List.getElem?_map] at h
  cases e : rs[i]? with
  | none => rw [e] at h; cases h
  | some a => rw [e] at h; exact ⟨a, rfl, (Option.some.inj h).symm⟩
theorem int_at {ns : List Int} {i : Nat} {x : V} (h : (ns.map V.int)[i]? = some x) : ∃ a, ns[i]? = some a ∧ x = .int a := by
  rw [List.getElem?_map] at h
  cases e : ns[i]? with
  | none => rw [e] at h; cases h
  | some a => rw [e] at h; exact ⟨a, rfl, (Option.some.inj h).symm⟩
theorem yesI {σ : L2.St} {H : Hp} {A B : Hp → Prop} (h : A H) : tYes σ H (fun b H3 => if b = true then A H3 else B H3) := by
  show if true = true then A H else B H
  exact iteT h
def prsTo (w i : Nat) : List (Int × Int) := (List.range i).flatMap fun (o : Nat) => (List.range w).map fun (m : Nat) => ((o : Int), (m : Int))
theorem prsTo_succ (w i : Nat) : prsTo w (i + 1) = prsTo w i ++ (List.range w).map fun (m : Nat) => ((i : Int), (m : Int)) := by
  unfold prsTo
  rw [List.range_succ, List.flatMap_append, List.flatMap_singleton]
theorem prsTo_length (w : Nat) : ∀ i, (prsTo w i).length = i * w
  | 0 => by simp [prsTo]
  | i + 1 => by rw [prsTo_succ, List.length_append, prsTo_length w i, List.length_map, List.length_range, Nat.add_mul, Nat.one_mul]
def rowTo (ps : List (Int × Int)) (m : Int) (j : Nat) : List Int := ((List.range j).filter fun (i : Nat) => decide (ps[i]?.map (·.1) = some m)).map fun (i : Nat) => (i : Int)
theorem rowTo_yes {ps : List (Int × Int)} {m : Int} {j : Nat} (h : ps[j]?.map (·.1) = some m) : rowTo ps m (j + 1) = rowTo ps m j ++ [(j : Int)] := by
  unfold rowTo
  rw [List.range_succ, List.filter_append, List.map_append]
  simp [h]
theorem rowTo_no {ps : List (Int × Int)} {m : Int} {j : Nat} (h : ps[j]?.map (·.1) ≠ some m) : rowTo ps m (j + 1) = rowTo ps m j := by
  unfold rowTo
  rw [List.range_succ, List.filter_append, List.map_append]
  simp [h]
theorem rowTo_length (ps : List (Int × Int)) (m : Int) (j : Nat) : (rowTo ps m j).length ≤ j := by
  unfold rowTo
  rw [List.length_map]
  exact Nat.le_trans (List.length_filter_le _ _) (by simp)
def ofPrs (ps : List (Int × Int)) : List (List Int) := ps.map fun q => rowTo ps q.2 ps.length
section
variable {P : Program} {w : World} {K : PySem.W.Frag} {mg : Str → Option Value} {base : Heap}
/-! ### named -/
def spNamed (K : PySem.W.Frag) : Sp := fun vs H Q _ => ∃ n : Nat, vs = [.int n] ∧ n ≤ 4 ∧
  ∀ (p : Addr) (H' : Hp), H p = none → Same H H' → Tbl H' p (ofPrs (prsTo n n)) → Q (.ref p) H'
theorem ok_named {f : Addr} {fd : FuncData} {k : Nat} (F : Fun K "_law_named" "_law_named" sNamed f fd) (mr : mg "range" = none) (mtup : mg "tuple" = none) (me : mg "enumerate" = none) :
    FnOk P w K mg base CX0 (k + 1) f fd ["_law_wide"] (spNamed K) := by
  refine F.ok scNamed (fun vs H Q E h => ?_) (fun cdv A outer s H vs Q E hr h => ?_)
  · obtain ⟨n, rfl, _⟩ := h
    rfl
  · obtain ⟨n, rfl, hn, q⟩ := h
    refine ⟨_, pss_cons (ps_set (i := 1) scNamed.nd rfl (.inr rfl) (pe_lst pa_nil))
      (pss_cons (ps_for PassesOwn.never rfl (pi_range1 (by rfl) mr (pa_cons (pv 0) pa_nil)) (pg_name (i := 2) scNamed.nd rfl (.inr rfl))
        (pss_one (ps_expr (pe_bm PySem.F.plainAttrs_list PySem.F.slot_list_extend PySem.F.type_list_extend mt_extend (pv 1) (pa_cons
          (pe_lc (own := [("_law_named_here", 3)]) (g := gName 3) (by rfl) scNamed.nd (pi_range1 (by rfl) mr (pa_cons (pv 0) pa_nil))
            (blkOk_by (own := [("_law_named_here", 3)]) (N := nNamed) (sc := defScope sNamed) (by decide +kernel))
            (fun _ _ _ _ _ => pg_name (i := 3) scNamed.nd rfl (Or.inl rfl)) (fun _ _ _ _ _ => pts_nil)
            (fun _ _ _ _ _ => pe_tup (pa_cons (pv 2) (pa_cons (pv 3) pa_nil)))) pa_nil)))))
      (pss_one (ps_ret (pe_callTy call_tuple_of (by rfl) mtup (by decide +kernel) (pa_cons
        (pe_lc (own := [("_law_own", 2), ("_law_named_here", 3)]) (g := gTup K 2 (gCons (gName 2) (gCons (gName 3) gNil))) (by rfl) scNamed.nd (pi_list (pv 1))
          (blkOk_by (own := [("_law_own", 2), ("_law_named_here", 3)]) (N := nNamed) (sc := defScope sNamed) (by decide +kernel))
          (fun _ _ _ _ _ => pg_tup rfl (pgs_cons (pg_name (i := 2) scNamed.nd rfl (.inl rfl)) (pgs_cons (pg_name (i := 3) scNamed.nd rfl (.inr rfl)) pgs_nil)))
          (fun _ _ _ _ _ => pts_nil)
          (fun _ _ _ _ _ => pe_callTy (T := "tuple") (r := rTupOf K) tupOfK (by rfl) mtup (by decide +kernel) (pa_cons
            (pe_lc (own := [("_law_at", 4), ("_law_pair", 5)]) (g := gTup K 2 (gCons (gName 4) (gCons (gName 5) gNil))) (by rfl) scNamed.nd (piEnumK (K := K) (by rfl) me (pa_cons (pv 1) pa_nil))
              (blkOk_by (own := [("_law_at", 4), ("_law_pair", 5)]) (N := nNamed) (sc := relS (lcSc (retArg ((defBody sNamed).getD 2 (.Pass ⟨0, 0, 0, 0⟩)))) (defScope sNamed)) (by decide +kernel))
              (fun _ _ _ _ _ => pgTupK rfl (pgs_cons (pg_name (i := 4) scNamed.nd rfl (.inl rfl)) (pgs_cons (pg_name (i := 5) scNamed.nd rfl (.inl rfl)) pgs_nil)))
              (fun _ _ _ _ _ => pts_one (pt_cmpR op_eq (pe_ix (ixTupK (K := K)) (pv 5) pe_int (fun _ _ => rfl)) (pv 3) (nomark _)))
              (fun _ _ _ _ _ => pv 4)) pa_nil))) pa_nil))))), ?_⟩
    refine ⟨Nat.zero_le _, fun S nS => ?_⟩
    have s1 := same_upd (o := .lst []) nS
    refine ⟨.int n, rfl, (n : Int), rfl, by omega, by omega, for_range (lo := 0) (n := n) (fun i σ H' => ∃ (y2 y3 y4 y5 : Option V) (rs : List Addr), σ = [some (.int n), some (.ref S), y2, y3, y4, y5] ∧ H' S = some (.lst (rs.map V.ref)) ∧ PR H' rs (prsTo n i) ∧ Same H H')
      ⟨none, none, none, none, [], rfl, upd_same, .nil, s1⟩ ?_ ?_⟩
    · rintro i σ H1 hi ⟨y2, y3, y4, y5, rs, rfl, hS, hP, sm⟩
      refine ⟨.ref S, rfl, .inl ⟨rfl, _, SqL.of hS⟩, .int n, rfl, (n : Int), rfl, by omega, by omega, fun D nD => ?_⟩
      have sD := same_upd (o := .lst []) nD
      refine lc_range (lo := 0) (n := n) (fun j H2 => ∃ rs2 : List Addr, H2 D = some (.lst (rs2.map V.ref)) ∧ PR H2 rs2 ((List.range j).map fun (m : Nat) => ((i : Int), (m : Int))) ∧ Same H1 H2)
        ⟨[], upd_same, .nil, sD⟩ ?_ ?_
      · rintro j H2 hj ⟨rs2, hD, hP2, sm2⟩
        have l2 : rs2.length = j := by
          have := Paired.length hP2
          rw [List.length_map, List.length_range] at this
          exact this
        refine ⟨rfl, yesI ⟨_, rfl, _, rfl, by show 2 ≤ sizeLine; decide, fun T nT => ⟨_, (same_upd nT) _ _ hD, by rw [List.length_map]; exact lenLine (by omega), rs2 ++ [T], ?_, ?_, ?_⟩⟩⟩
        · rw [upd_same, List.map_append]
          rfl
        · have kt : KT H2 (upd (upd H2 T (.tup [.int (0 + i), .int (0 + j)])) D (.lst (rs2.map V.ref ++ [V.ref T]))) := (KT.new nT).trans (KT.lst ((same_upd nT) _ _ hD))
          rw [List.range_succ, List.map_append]
          refine paired_append (hP2.kt kt) (.cons ?_ .nil)
          have nTD : T ≠ D := fun z => by
            subst z
            rw [hD] at nT
            cases nT
          rw [upd_ne nTD, upd_same, Int.zero_add, Int.zero_add]
        · intro b o hb
          rw [upd_ne (ne_of_none hb nD)]
          exact same_upd nT _ _ (sm2 _ _ hb)
      · rintro H2 ⟨rs2, hD, hP2, sm2⟩
        have l1 : rs.length = i * n := by
          have := Paired.length hP
          rw [prsTo_length] at this
          exact this
        have l2 : rs2.length = n := by
          have := Paired.length hP2
          rw [List.length_map, List.length_range] at this
          exact this
        have l3 : i * n ≤ 4 * 4 := Nat.mul_le_mul (by omega) hn
        have hS2 := sm2 _ _ hS
        refine ⟨S, D, _, _, rfl, rfl, hS2, hD, ?_, _, _, _, _, rs ++ rs2, rfl, ?_, ?_, ?_⟩
        · rw [List.length_map, List.length_map]
          exact Nat.le_of_lt (lenLine (by omega))
        · rw [upd_same, List.map_append]
        · rw [prsTo_succ]
          exact PR.kt (paired_append (hP.same sm2) hP2) (KT.lst hS2)
        · intro b o hb
          rw [upd_ne (ne_of_none hb nS)]
          exact sm2 _ _ (sm _ _ hb)
    · rintro σ H1 ⟨y2, y3, y4, y5, rs, rfl, hS, hP, sm⟩
      generalize hps : prsTo n n = ps at hP q
      have lp : ps.length ≤ 16 := by
        rw [← hps, prsTo_length]
        exact Nat.mul_le_mul hn hn
      have lr : rs.length = ps.length := Paired.length hP
      refine ⟨.ref S, rfl, S, rfl, ⟨_, SqL.of hS⟩, fun D nD => ?_⟩
      have sD := same_upd (o := .lst []) nD
      refine lc_list (K := K) (a := S) (xs := rs.map V.ref) (fun i H2 => ∃ ts : List Addr, H2 D = some (.lst (ts.map V.ref)) ∧ Rows H2 ts ((ofPrs ps).take i) ∧ Same H1 H2)
        ⟨[], upd_same, .nil, sD⟩ (fun i H2 _ h => SqL.of (h.elim fun ts h => h.2.2 _ _ hS)) ?_ ?_
      · rintro i x H2 hx ⟨ts, hD, hR, sm2⟩
        obtain ⟨a, ha, rfl⟩ := ref_at hx
        obtain ⟨m, hm, hq⟩ := paired_get hP ha
        have hi : i < ps.length := (List.getElem?_eq_some_iff.mp hm).1
        have lt : ts.length ≤ 16 := by
          have := Paired.length hR
          rw [List.length_take] at this
          omega
        refine ⟨a, _, rfl, SqT.of (sm2 _ _ hq), rfl, _, _, rfl, _, _, rfl, rfl, rfl, yesI ?_⟩
        refine ⟨.ref S, rfl, S, _, rfl, SqL.of (sm2 _ _ hS), fun D2 nD2 => ?_⟩
        have sD2 := same_upd (o := .lst []) nD2
        refine lc_it (walk_enum (K := K) (a := S) (xs := rs.map V.ref)) (fun j H3 => H3 D2 = some (.lst ((rowTo ps m.2 j).map V.int)) ∧ Same H2 H3)
          ⟨upd_same, sD2⟩ (fun j H3 _ h => SqL.of (h.2 _ _ (sm2 _ _ hS))) ?_ ?_
        · rintro j v H3 H4 hj ⟨hD2, sm3⟩ ⟨T, x, y, rfl, nT, rfl, ex, ey⟩
          obtain rfl : V.int (j : Nat) = x := Option.some.inj ex
          obtain ⟨b, hb, rfl⟩ := ref_at ey
          obtain ⟨m', hm', hq'⟩ := paired_get hP hb
          have sT := same_upd (o := .tup [.int (j : Nat), .ref b]) nT
          have lj := rowTo_length ps m.2 j
          have hj' : j < ps.length := (List.getElem?_eq_some_iff.mp hm').1
          refine ⟨T, _, rfl, SqT.of upd_same, rfl, _, _, rfl, _, _, rfl, rfl, rfl, .ref b, rfl, b, _, 0, _, rfl, rfl, SqT.of (sT _ _ (sm3 _ _ (sm2 _ _ hq'))), rfl, _, rfl, rfl, _, rfl, ite2 (fun e => ?_) (fun e => ?_)⟩
          · have e' : m'.1 = m.2 := V.int.inj (of_decide_eq_true e)
            refine ⟨_, rfl, _, sT _ _ hD2, ?_, ?_, ?_⟩
            · rw [List.length_map]
              exact lenLine (by omega)
            · rw [upd_same, rowTo_yes (by rw [hm', ← e']; rfl), List.map_append]
              rfl
            · intro c o hc
              rw [upd_ne (ne_of_none hc nD2)]
              exact sT _ _ (sm3 _ _ hc)
          · have e' : m'.1 ≠ m.2 := fun z => e (decide_eq_true (congrArg V.int z))
            refine ⟨?_, sm3.trans sT⟩
            rw [rowTo_no (by rw [hm']; exact fun z => e' (Option.some.inj z))]
            exact sT _ _ hD2
        · rintro H3 ⟨hD2, sm3⟩
          rw [List.length_map, lr] at hD2
          refine ⟨D2, _, rfl, .inl ⟨SqL.of hD2, fun t nt => ?_⟩⟩
          have st := same_upd (o := .tup ((rowTo ps m.2 ps.length).map V.int)) nt
          have hD3 := st _ _ (sm3 _ _ hD)
          refine ⟨_, hD3, by rw [List.length_map]; exact lenLine (by omega), ts ++ [t], ?_, ?_, ?_⟩
          · rw [upd_same, List.map_append]
            rfl
          · have e : (ofPrs ps).take (i + 1) = (ofPrs ps).take i ++ [rowTo ps m.2 ps.length] := by
              rw [List.take_add_one]
              unfold ofPrs
              rw [List.getElem?_map, hm]
              rfl
            rw [e]
            refine paired_append ((hR.same (sm3.trans st)).kt (KT.lst hD3)) (.cons ?_ .nil)
            have ntD : t ≠ D := fun z => by
              subst z
              rw [sm3 _ _ hD] at nt
              cases nt
            rw [upd_ne ntD, upd_same]
          · intro c o hc
            rw [upd_ne (ne_of_none hc nD)]
            exact st _ _ (sm3 _ _ (sm2 _ _ hc))
      · rintro H2 ⟨ts, hD, hR, sm2⟩
        rw [List.length_map, lr, show ps.length = (ofPrs ps).length by unfold ofPrs; rw [List.length_map], List.take_length] at hR
        refine ⟨D, _, rfl, .inl ⟨SqL.of hD, fun p np => ?_⟩⟩
        have sp := same_upd (o := .tup (ts.map V.ref)) np
        exact q p _ ((sm.trans sm2).free np) ((sm.trans sm2).trans sp) ⟨ts, upd_same, hR.same sp⟩
end
end Nm

/-! enumerate over a tuple -/
namespace PySem
open PyProof.Rows
set_option maxHeartbeats 1000000 in
theorem enumNew1 {v : Value} {o : Obj} {H : Heap → Prop} (B : Begins v o H) :
    Meets (Builtin.«enumerate.__new__» ⟨[.type "enumerate", v], []⟩) (fun _ R s => H s.heap ∧
      R (.ok (.ret (.ref (s.heap.push o).objs.size)))
        { s with heap := (s.heap.push o).push { cls := .type "enumerate", data := .fields #[.none, .bool false, .ref s.heap.objs.size, rawInt 0, .none, .none] } }) :=
  .of_wp fun prog w A R s h => by
    obtain ⟨hp, g, d, tk, os⟩ := s
    obtain ⟨h1, h2⟩ := h
    have sub := sub_enumerate
    have go : ∀ {A' : Around} {E : Value → Shared → Prop} {Q : Value → Shared → Prop}, Q (.ref hp.objs.size) ⟨hp.push o, g, d, tk, os⟩ →
        wpAny (model prog w) A' (pyIter v) Q E ⟨hp, g, d, tk, os⟩ := fun q => B.iter prog w _ _ ⟨hp, g, d, tk, os⟩ _ h1 q
    wp_walk using go
    refine wpAny_stack_any fun st => wpAny_pure ?_
    split
    · rename_i c _ _ _ _ _
      by_cases e : (c == Value.type "enumerate") = true
      · rw [e]
        wp_walk using go
        exact ⟨_, rfl, h2⟩
      · rw [Bool.eq_false_iff.mpr e]
        wp_walk using go
        exact ⟨_, rfl, h2⟩
    · wp_walk using go
      exact ⟨_, rfl, h2⟩
section
variable {prog : Program} {w : World} {A : Around} {E : Value → Shared → Prop} {s : Shared}
theorem enumCall1 {v : Value} {o : Obj} {H : Heap → Prop} {Q : Value → Shared → Prop} (B : Begins v o H) (h1 : H s.heap)
    (h : ∀ h', IsEnum h' (s.heap.objs.size + 1) s.heap.objs.size 0 .none → h'.get? s.heap.objs.size = some o → h'.objs.size = s.heap.objs.size + 2 →
      (∀ b o, s.heap.get? b = some o → h'.get? b = some o) → Q (.ref (s.heap.objs.size + 1)) { s with heap := h' }) :
    wpAny (model prog w) A (call (.type "enumerate") [v]) Q E s := by
  refine callType_new F.called_enumerate (by decide) (F.typeCall_enumerate_1 _) (F.newCall_enumerate_1 _) (fun obj => F.args_object_init_2 obj _)
    F.entry_enumerate_new (enumNew1 B) (And.intro h1 ?_)
  have size1 : (s.heap.push o).objs.size = s.heap.objs.size + 1 := Heap.size_push ..
  show _ ∧ _
  rw [size1]
  have en : IsEnum ((s.heap.push o).push { cls := .type "enumerate", data := .fields #[.none, .bool false, .ref s.heap.objs.size, rawInt 0, .none, .none] })
      (s.heap.objs.size + 1) s.heap.objs.size 0 .none := by
    have z := Heap.get?_push_size (s.heap.push o) (o := { cls := .type "enumerate", data := .fields #[.none, .bool false, .ref s.heap.objs.size, rawInt 0, .none, .none] }) rfl
    rw [size1] at z
    exact z
  have h0 := Heap.get?_push_size s.heap (o := o) B.free
  refine And.intro ⟨_, en, rfl⟩ (h _ en (Heap.get?_push_of_some _ h0) ?_ ?_)
  · rw [Heap.size_push, size1]
  · intro b ob q
    exact Heap.get?_push_of_some _ (Heap.get?_push_of_some _ q)
end
end PySem
namespace GL
open PySem PySem.Spec PyProof.Rows L2
/-- the tuple at a, each item in a new pair -/
def IteT (K : PySem.W.Frag) (a : Addr) : It where
  go i H := ∃ (xs : List V) (x : V), SqT K H a xs ∧ xs[i]? = some x
  yld i H v H' := ∃ T x, v = .ref T ∧ H T = none ∧ H' = upd H T (.tup [.int (i : Nat), x]) ∧ ∀ xs, SqT K H a xs → xs[i]? = some x
  stop i H := ∃ xs : List V, SqT K H a xs ∧ xs.length = i
theorem turnET {P : Program} {w : World} {K : PySem.W.Frag} {elts : List Expr} {kk : Nat} {tpos : Pos} (a e it : Addr) :
    Turn P w K (.Tuple elts kk tpos) (IteT K a) [e, it] e
      (fun i h => (∃ old, IsEnum h e it ((i : Nat) : Int) old) ∧ h.IsTupleIter it a i ∧ e ≠ it ∧ a ≠ it ∧ e ≠ a) where
  mem := List.mem_cons_self
  obj := by
    rintro i h ⟨⟨old, he⟩, ⟨o, ho, hc, hd⟩, _⟩ b hb
    rcases List.mem_cons.mp hb with rfl | hb
    · exact ⟨_, he, fun v q => nomatch q⟩
    · rcases List.mem_cons.mp hb with rfl | hb
      · exact ⟨o, ho, fun v q => by rw [hd] at q; cases q⟩
      · cases hb
  keep := by
    rintro i h h' ⟨⟨old, he⟩, hi, r⟩ k
    exact ⟨⟨old, k e (by simp) _ he⟩, hi.at fun o q => k it (by simp) o q, r⟩
  item := by
    intro X hP hw hK hc i pins s σ H E I hf st hg
    subst hP hw hK
    obtain ⟨⟨old, he⟩, hit, n1, n2, n3⟩ := st
    obtain ⟨xs, x, hq, hx⟩ := hg
    obtain ⟨its, rv, tp, hz⟩ := I.tuple hq
    obtain ⟨u, hu, ru⟩ := rv.get hx
    have el : e < s.heap.objs.size := Heap.lt_size he
    have il : it < s.heap.objs.size := by
      obtain ⟨_, q, _⟩ := hit
      exact Heap.lt_size q
    have dr := Draws.tuple (prog := X.prog) (w := X.w) (A := X.A.in1) (I.ok.hd hc) it a n2 its.toArray
    have hlt : i < its.toArray.size := by
      have := (List.getElem?_eq_some_iff.mp hu).1
      simpa using this
    have nef : e ∉ [it, a] := by
      simp [n1, n3]
    refine wpAny_pyNext_enum_itemD dr he ⟨hit, tp⟩ hlt n1 nef fun y h' tk hy ho st' hT hsz hk => ?_
    have ey : y = u := by
      have hy' : its.toArray[i]? = some y := hy
      rw [List.getElem?_toArray, hu] at hy'
      exact (Option.some.inj hy').symm
    subst ey
    refine ⟨_, rfl, wpAny_letOwnedTupleGo_enum (s := { s with heap := h', toks := tk + 1 }) ho fun h'' he' sb => ?_⟩
    have hT2 : h''.get? s.heap.objs.size = some { cls := .type "tuple", data := .seq #[.int i tk, y] } := (sb.2 _ (Nat.ne_of_gt el)).trans hT
    have neu : ObjOk X.prog X.w (upd H s.heap.objs.size (.tup [.int (i : Nat), x])) h'' s.heap.objs.size (.tup [.int (i : Nat), x]) := by
      refine ⟨?_, [.int i tk, y], .cons ⟨_, rfl⟩ (.cons ru .nil), ⟨_, hT2, rfl, _, rfl⟩⟩
      show 2 ≤ sizeLine
      decide
    have J : Inv X pins σ (upd H s.heap.objs.size (.tup [.int (i : Nat), x])) { s with heap := h'', toks := tk + 1 } := by
      refine I.turnedNew (ch := [e, it]) (fun b ob hb q => ?_) hf (Nat.le_refl _) neu
      have b1 : b ≠ e := fun z => hb (by simp [z])
      have b2 : b ≠ it := fun z => hb (by simp [z])
      exact (sb.2 b b1).trans (hk b ob b1 b2 q)
    refine ⟨.ref s.heap.objs.size, _, J, rfl, ⟨_, x, rfl, I.hok.fresh (Nat.le_refl _), rfl, fun ys hy' => ?_⟩, ⟨⟨y, ?_⟩, ?_, n1, n2, n3⟩, fun b hb => ?_⟩
    · rw [I.tuple_inj hy' hq]
      exact hx
    · have e1 : ((i + 1 : Nat) : Int) = (i : Int) + 1 := by omega
      rw [e1]
      exact he'
    · exact st'.1.at fun o q => (sb.2 it (Ne.symm n1)).trans q
    · have lb : b < s.heap.objs.size := by
        rcases List.mem_cons.mp hb with rfl | hb
        · exact el
        · rcases List.mem_cons.mp hb with rfl | hb
          · exact il
          · cases hb
      rw [upd_ne (Nat.ne_of_lt lb)]
      exact (hf b hb).1
  done := by
    intro X hP hw hK hc i pins s σ H E I hf st hg
    subst hP hw hK
    obtain ⟨⟨old, he⟩, hit, n1, n2, n3⟩ := st
    obtain ⟨xs, hq, hx⟩ := hg
    obtain ⟨its, rv, tp, hz⟩ := I.tuple hq
    obtain ⟨f0, f1, f2, f3, f4, f5⟩ := hf it (by simp)
    have hl := rv.length
    have dr := Draws.tuple (prog := X.prog) (w := X.w) (A := X.A.in1) (I.ok.hd hc) it a n2 its.toArray
    have ei : its.toArray.size = i := by
      simp
      omega
    rw [← ei] at hit
    exact wpAny_pyNext_enum_endD dr he ⟨hit, tp⟩ fun h' eb => ⟨rfl, I.turned (t' := s.toks) (fun b o hb q => eb b o hb q) f0 f1 f3 f4 f5⟩
  self := by
    rintro A i s Q E ⟨⟨_, he⟩, _⟩ h
    exact wpAny_pyIter_enum he h
def iEnumT (K : PySem.W.Frag) (ta : TA) : TI := fun σ H R => ta σ H fun vs H1 => ∃ a xs, vs = [.ref a] ∧ SqT K H1 a xs ∧ R (IteT K a) H1
theorem pi_enumT {X : Cx} {K : PySem.W.Frag} {e : Expr} {ta : TA} {p pos tpos : Pos} {elts : List Expr} {kk : Nat} (hg : Gl X "enumerate") (hm : X.mg "enumerate" = none) (ha : PA X [e] ta)
    (hs : starEach [e] X.env = [(false, eval e X.env)] := by rfl) (hK : X.K = K := by rfl) : PI X (.Tuple elts kk tpos) (.Call (.Name "enumerate" p) [e] [] pos) (iEnumT K ta) := by
  subst hK
  constructor
  intro pins s σ H R I h
  refine Call_ ?_
  refine ld_blt I hg hm boot_enumerate (PyProof.Rows.callWith_type1 (thn (ha.run pos pins s σ H _ I h) ?_) hs rfl)
  rintro us s1 ⟨vs, H1, I1, r1, a, xs, rfl, hq, q⟩
  cases r1 with
  | cons r rr =>
    cases rr
    cases r
    obtain ⟨its, rv, tp, hz⟩ := I1.tuple hq
    have al : a < s1.heap.objs.size := by
      obtain ⟨o, ho, _⟩ := tp
      exact Heap.lt_size ho
    refine enumCall1 (begins_tuple a its.toArray) tp fun h' he hit hsz hk => wpAny_pyIter_enum he ?_
    have I2 : Inv X pins σ H1 { s1 with heap := h' } := I1.kept (t' := s1.toks) hk
    refine ⟨s1.heap.objs.size + 1, [s1.heap.objs.size + 1, s1.heap.objs.size], _, _, H1, rfl, I2, turnET a (s1.heap.objs.size + 1) s1.heap.objs.size,
      ⟨⟨.none, he⟩, ⟨_, hit, rfl, rfl⟩, Nat.succ_ne_self _, Nat.ne_of_lt al, Nat.ne_of_gt (Nat.lt_succ_of_lt al)⟩, fun b hb => ?_, q⟩
    have le : s1.heap.objs.size ≤ b := by
      rcases List.mem_cons.mp hb with rfl | hb
      · exact Nat.le_succ _
      · rcases List.mem_cons.mp hb with rfl | hb
        · exact Nat.le_refl _
        · cases hb
    exact I1.fpOk le (I1.hok.fresh le)
theorem walkET {K : PySem.W.Frag} {a : Addr} {xs : List V} : Walk (IteT K a) xs.length (fun H => SqT K H a xs) (YPair (fun i => some (.int (i : Nat))) (fun i => xs[i]?)) := by
  refine ⟨fun i _ hi q => ⟨xs, xs[i], q, List.getElem?_eq_getElem hi⟩, fun _ q => ⟨xs, q, rfl⟩, ?_⟩
  rintro i H v H' _ q ⟨T, x, h1, h2, h3, h4⟩
  exact ⟨T, .int (i : Nat), x, h1, h2, h3, rfl, h4 xs q⟩
end GL

namespace Nm
open PySem PySem.Spec PyProof.Rows L2 GL
abbrev sCso : Stmt := topS 13
abbrev nCso : List Str := ["_law_table_here", "_law_led", "_law_found", "_law_sign", "_law_row", "_law_near"]
theorem scCso : FnScope nCso ["_law_table_here", "_law_led"] (defScope sCso) := ⟨rfl, rfl, rfl, by decide +kernel, rfl, by decide +kernel, by decide +kernel⟩
/-! ### marks called otherwise -/
def rangeI (n : Nat) : List Int := (List.range n).map fun (i : Nat) => (i : Int)
theorem rangeI_length (n : Nat) : (rangeI n).length = n := by
  unfold rangeI
  rw [List.length_map, List.length_range]
theorem mem_rangeI {n : Nat} {x : Int} : x ∈ rangeI n ↔ 0 ≤ x ∧ x < n := by
  unfold rangeI
  rw [List.mem_map]
  constructor
  · rintro ⟨i, hi, rfl⟩
    rw [List.mem_range] at hi
    omega
  · rintro ⟨h0, h1⟩
    exact ⟨x.toNat, List.mem_range.mpr (by omega), by omega⟩
theorem nodup_rangeI (n : Nat) : (rangeI n).Nodup := by
  unfold rangeI
  refine List.Pairwise.map _ (fun a b h z => h ?_) List.nodup_range
  omega
/-- the name of a mark -/
def at_ (ms : List Int) (x : Int) : Int := ms.getD x.toNat 0
/-- row' holds the names of row, from the least on -/
def RowC (ms row row' : List Int) : Prop := row'.Perm (row.map (at_ ms)) ∧ row'.Pairwise (· ≤ ·)
def Called (T T' : List (List Int)) (ms : List Int) : Prop := T'.length = T.length ∧ ∀ (s : Nat) (row : List Int) (j : Int), T[s]? = some row → ms[s]? = some j → ∃ row', T'[j.toNat]? = some row' ∧ RowC ms row row'
theorem putK_length {κ : Type} [DecidableEq κ] (kvs : List (κ × V)) (k : κ) (v : V) : (putK kvs k v).length ≤ kvs.length + 1 := by
  unfold putK
  split
  · rw [List.length_map]
    omega
  · rw [List.length_append]
    exact Nat.le_refl _
def Sq (K : PySem.W.Frag) (H : Hp) (a : Addr) (xs : List V) : Prop := SqL K H a xs ∨ SqT K H a xs
theorem Sq.same {K : PySem.W.Frag} {H H' : Hp} {a : Addr} {xs : List V} (h : Sq K H a xs) (s : Same H H') : Sq K H' a xs := h.elim (fun z => .inl (s.seq z)) fun z => .inr (Nm.Same.seqT s z)
theorem ixSeqK {X : Cx} {K : PySem.W.Frag} (hK : X.K = K := by rfl) : IxR X (rIx K) := by
  subst hK
  exact ix_seq
theorem rIx_of {K : PySem.W.Frag} {H : Hp} {a : Addr} {xs : List V} {i : Int} {v : V} {Q : VK} (h : Sq K H a xs) (e : atI xs i = some v) (q : Q v H) : rIx K (.ref a) (.int i) H Q :=
  h.elim (fun z => .inl ⟨a, xs, i, v, rfl, rfl, z, e, q⟩) fun z => .inr (.inl ⟨a, xs, i, v, rfl, rfl, z, e, q⟩)
theorem at_get {ms : List Int} {x : Int} (h0 : 0 ≤ x) (h1 : x < (ms.length : Int)) : atI (ms.map V.int) x = some (.int (at_ ms x)) := by
  have hi : x.toNat < ms.length := by omega
  have z := atI_nat (xs := ms.map V.int) (j := x.toNat) (v := .int (at_ ms x)) (by
    rw [List.getElem?_map, List.getElem?_eq_getElem hi]
    unfold at_
    rw [List.getD_eq_getElem?_getD, List.getElem?_eq_getElem hi]
    rfl)
  have e : ((x.toNat : Nat) : Int) = x := by omega
  rw [e] at z
  exact z
section
variable {P : Program} {w : World} {K : PySem.W.Frag} {mg : Str → Option Value} {base : Heap}
def spCso (K : PySem.W.Frag) : Sp := fun vs H Q _ => ∃ (p l : Addr) (T : List (List Int)) (ms : List Int), vs = [.ref p, .ref l] ∧ Tbl H p T ∧ Sq K H l (ms.map V.int) ∧ T.length ≤ 1000 ∧ ms.Perm (rangeI T.length) ∧
  (∀ row ∈ T, row.length < 64 ∧ ∀ x ∈ row, 0 ≤ x ∧ x < (T.length : Int)) ∧
  ∀ (p' : Addr) (T' : List (List Int)) (H' : Hp), H p' = none → Same H H' → Tbl H' p' T' → Called T T' ms → Q (.ref p') H'
theorem ok_cso {f : Addr} {fd : FuncData} {k : Nat} (F : Fun K "_law_called_so" "_law_called_so" sCso f fd) (mr : mg "range" = none) (mtup : mg "tuple" = none) (me : mg "enumerate" = none) (ms_ : mg "sorted" = none) (ml : mg "len" = none) :
    FnOk P w K mg base CX0 (k + 1) f fd ["_law_table_here", "_law_led"] (spCso K) := by
  refine F.ok scCso (fun vs H Q E h => ?_) (fun cdv A outer s H vs Q E hr h => ?_)
  · obtain ⟨p, l, T, ms, rfl, _⟩ := h
    rfl
  · obtain ⟨p, l, T, ms, rfl, ⟨rs, hp, hR⟩, hL, lT, pm, hrow, q⟩ := h
    have hu := hu_of hr
    refine ⟨_, pss_cons (ps_set (i := 2) scCso.nd rfl (.inr rfl) pe_dnewK)
      (pss_cons (ps_for PassesOwn.never rfl (pi_enumT (K := K) (by rfl) me (pa_cons (pv 0) pa_nil))
          (pgTupK (K := K) rfl (pgs_cons (pg_name (i := 3) scCso.nd rfl (.inl rfl)) (pgs_cons (pg_name (i := 4) scCso.nd rfl (.inl rfl)) pgs_nil)))
        (pss_one (ps_dput hu (pv 2) (pe_ix (ixSeqK (K := K)) (pv 1) (pv 3) (fun _ _ => rfl))
          (pe_callTy (tupOfK (K := K)) (by rfl) mtup (by decide +kernel) (pa_cons (pe_callB cr_sorted (by rfl) ms_ (by decide +kernel) (pa_cons
            (pe_lc (own := [("_law_near", 5)]) (g := gName 5) (by rfl) scCso.nd (piTupK (K := K) (pv 4))
              (blkOk_by (own := [("_law_near", 5)]) (N := nCso) (sc := defScope sCso) (by decide +kernel))
              (fun _ _ _ _ _ => pg_name (i := 5) scCso.nd rfl (Or.inl rfl)) (fun _ _ _ _ _ => pts_nil)
              (fun _ _ _ _ _ => pe_ix (ixSeqK (K := K)) (pv 1) (pv 5) (fun _ _ => rfl))) pa_nil)) pa_nil)) rfl)))
      (pss_one (ps_ret (pe_callTy (tupOfK (K := K)) (by rfl) mtup (by decide +kernel) (pa_cons
        (pe_lc (own := [("_law_sign", 3)]) (g := gName 3) (by rfl) scCso.nd (pi_range1 (by rfl) mr (pa_cons (pe_callB (lenK (K := K)) (by rfl) ml PySem.boot_len (pa_cons (pv 0) pa_nil)) pa_nil))
          (blkOk_by (own := [("_law_sign", 3)]) (N := nCso) (sc := defScope sCso) (by decide +kernel))
          (fun _ _ _ _ _ => pg_name (i := 3) scCso.nd rfl (Or.inl rfl)) (fun _ _ _ _ _ => pts_nil)
          (fun _ _ _ _ _ => pe_dget hu (pv 2) (pv 3) (fun _ _ => rfl))) pa_nil))))), ?_⟩
    have lr : rs.length = T.length := Paired.length hR
    have lm : ms.length = T.length := by rw [pm.length_eq, rangeI_length]
    have ndm : ms.Nodup := pm.nodup_iff.mpr (nodup_rangeI _)
    have inm : ∀ x, x ∈ ms ↔ 0 ≤ x ∧ x < (T.length : Int) := fun x => pm.mem_iff.trans mem_rangeI
    refine fun d nd => ?_
    have s1 := same_upd (o := .dK []) nd
    refine ⟨.ref p, rfl, p, _, rfl, SqT.of (s1 _ _ hp), for_it (walkET (K := K) (a := p) (xs := rs.map V.ref)) (fun i σ H' => ∃ (y3 y4 y5 : Option V) (kvs : List (Key × V)), σ = [some (.ref p), some (.ref l), some (.ref d), y3, y4, y5] ∧
        H' d = some (.dK kvs) ∧ kvs.length ≤ i ∧ Same H H' ∧
        ∀ (s : Nat) (j : Int) (row : List Int), s < i → ms[s]? = some j → T[s]? = some row → ∃ t row', valV kvs (.inl j) = some (.ref t) ∧ H' t = some (.tup (row'.map V.int)) ∧ RowC ms row row')
      ⟨none, none, none, [], rfl, upd_same, Nat.le_refl _, s1, fun s j row h => absurd h (Nat.not_lt_zero _)⟩ (fun i σ H' _ h => ?_) ?_ ?_⟩
    · obtain ⟨_, _, _, _, _, _, _, sm, _⟩ := h
      exact SqT.of (sm _ _ hp)
    · rintro i x σ H1 H2 hi ⟨y3, y4, y5, kvs, rfl, hd, lk, sm, inv⟩ ⟨Tp, a, b, rfl, nTp, rfl, ea, eb⟩
      obtain rfl : V.int (i : Nat) = a := Option.some.inj ea
      obtain ⟨c, hc, rfl⟩ := ref_at eb
      obtain ⟨row, hrw, hcell⟩ := paired_get hR hc
      have hrr := hrow row (List.mem_of_getElem? hrw)
      have iT : i < T.length := (List.getElem?_eq_some_iff.mp hrw).1
      have sT := same_upd (o := .tup [.int (i : Nat), .ref c]) nTp
      have sm2 := sm.trans sT
      have hd2 := sT _ _ hd
      have hTp : upd H1 Tp (.tup [.int (i : Nat), .ref c]) Tp = some (.tup [.int (i : Nat), .ref c]) := upd_same
      generalize upd H1 Tp (.tup [.int (i : Nat), .ref c]) = H2 at sT sm2 hd2 hTp ⊢
      have hc2 := sm2 _ _ hcell
      obtain ⟨j, hj⟩ : ∃ j, ms[i]? = some j := ⟨_, List.getElem?_eq_getElem (by omega)⟩
      refine ⟨Tp, _, rfl, SqT.of hTp, rfl, _, _, rfl, _, _, rfl, rfl, ?_⟩
      refine ⟨.ref c, rfl, c, rfl, ⟨_, SqT.of hc2⟩, fun D nD => ?_⟩
      have sD := same_upd (o := .lst []) nD
      refine lc_tup (K := K) (a := c) (xs := row.map V.int) (fun m H3 => H3 D = some (.lst (((row.take m).map (at_ ms)).map V.int)) ∧ Same H2 H3) ⟨upd_same, sD⟩ (fun m H3 _ h => SqT.of (h.2 _ _ hc2)) ?_ ?_
      · rintro m x H3 hx ⟨hD, sm3⟩
        obtain ⟨y, hy, rfl⟩ := int_at hx
        have hyr := hrr.2 y (List.mem_of_getElem? hy)
        refine ⟨rfl, yesI ⟨.ref l, rfl, .int y, rfl, rIx_of ((hL.same sm2).same sm3) (at_get hyr.1 (by omega)) ⟨_, hD, ?_, ?_, ?_⟩⟩⟩
        · rw [List.length_map, List.length_map, List.length_take]
          exact lenLine (by omega)
        · rw [upd_same, List.take_add_one, hy, List.map_append, List.map_append]
          rfl
        · intro b o hb
          rw [upd_ne (ne_of_none hb nD)]
          exact sm3 _ _ hb
      · rintro H3 ⟨hD, sm3⟩
        rw [List.length_map, List.take_length] at hD
        refine ⟨D, _, rfl, SqL.of hD, by rw [List.length_map]; exact hrr.1, fun ns' o pm' srt no => ⟨o, _, rfl, .inl ⟨SqL.of upd_same, fun t nt => ?_⟩⟩⟩
        have so := same_upd (o := .lst (ns'.map V.int)) no
        have st := same_upd (o := .tup (ns'.map V.int)) nt
        have smA : Same H2 _ := sm3.trans (so.trans st)
        have hd4 := smA _ _ hd2
        have ht4 : upd (upd H3 o (.lst (ns'.map V.int))) t (.tup (ns'.map V.int)) t = some (.tup (ns'.map V.int)) := upd_same
        generalize upd (upd H3 o (.lst (ns'.map V.int))) t (.tup (ns'.map V.int)) = H4 at smA hd4 ht4 ⊢
        refine ⟨.ref d, rfl, .ref l, rfl, .int (i : Nat), rfl, rIx_of ((hL.same sm2).same smA) (atI_nat (j := i) (v := .int j) (by rw [List.getElem?_map, hj]; rfl)) ?_⟩
        refine ⟨d, _, rfl, DPut.k (k := .inl j) hd4 (lenLine (by omega)), _, _, _, _, rfl, upd_same, Nat.le_trans (putK_length _ _ _) (by omega), ?_, ?_⟩
        · intro b o hb
          rw [upd_ne (ne_of_none hb nd)]
          exact smA _ _ (sm2 _ _ hb)
        · intro s' j' row2 hs' hj' hr'
          have kt : ∀ (u : Addr) (xs : List V), H1 u = some (.tup xs) → upd H4 d (.dK (putK kvs (Sum.inl j) (V.ref t))) u = some (.tup xs) := fun u xs hu' => by
            have hu4 := smA _ _ (sT _ _ hu')
            rw [upd_ne (ne_of hu4 hd4 (by intro z; cases z))]
            exact hu4
          by_cases e : s' = i
          · subst e
            rw [hj] at hj'
            cases hj'
            rw [hrw] at hr'
            cases hr'
            refine ⟨t, ns', ?_, ?_, pm', srt⟩
            · rw [valV_put, if_pos rfl]
            · rw [upd_ne (ne_of ht4 hd4 (by intro z; cases z))]
              exact ht4
          · obtain ⟨u, row', hv, hu', rc⟩ := inv s' j' row2 (by omega) hj' hr'
            refine ⟨u, row', ?_, kt _ _ hu', rc⟩
            rw [valV_put, if_neg ?_]
            · exact hv
            · intro z
              have z' : j' = j := Sum.inl.inj z
              subst z'
              have l1 : s' < ms.length := (List.getElem?_eq_some_iff.mp hj').1
              exact e ((List.getElem?_inj l1 ndm).mp (hj'.trans hj.symm))
    · rintro σ H1 ⟨y3, y4, y5, kvs, rfl, hd, lk, sm, inv⟩
      rw [List.length_map, lr] at inv
      refine ⟨.ref p, rfl, p, _, rfl, .inr (SqT.of (sm _ _ hp)), _, rfl, ?_, ?_, fun D nD => ?_⟩
      · rw [List.length_map]
        omega
      · rw [List.length_map]
        omega
      have sD := same_upd (o := .lst []) nD
      have en : ((rs.map V.ref).length : Int).toNat = T.length := by
        rw [List.length_map]
        omega
      rw [en]
      refine lc_range (lo := 0) (n := T.length) (fun m H2 => ∃ (ts : List Addr) (T2 : List (List Int)), H2 D = some (.lst (ts.map V.ref)) ∧ Rows H2 ts T2 ∧ T2.length = m ∧ Same H1 H2 ∧
          ∀ (s : Nat) (row : List Int) (j : Int), T[s]? = some row → ms[s]? = some j → j < m → ∃ row', T2[j.toNat]? = some row' ∧ RowC ms row row')
        ⟨[], [], upd_same, .nil, rfl, sD, fun s row j _ hj h => absurd h (by have := ((inm j).mp (List.mem_of_getElem? hj)).1; omega)⟩ ?_ ?_
      · rintro m H2 hm ⟨ts, T2, hD, hR2, l2, sm2, inv2⟩
        have hmm : ((0 : Int) + m) ∈ ms := (inm _).mpr ⟨by omega, by omega⟩
        obtain ⟨s0, hs0⟩ := List.mem_iff_getElem?.mp hmm
        have ls0 : s0 < ms.length := (List.getElem?_eq_some_iff.mp hs0).1
        obtain ⟨row0, hrow0⟩ : ∃ row0, T[s0]? = some row0 := ⟨_, List.getElem?_eq_getElem (by omega)⟩
        obtain ⟨t, row', hv, ht, rc⟩ := inv s0 _ row0 (by omega) hs0 hrow0
        have lts : ts.length = m := by
          rw [Paired.length hR2, l2]
        refine ⟨rfl, yesI ⟨.ref d, rfl, .int (0 + m), rfl, d, .ref t, rfl, ?_, _, hD, ?_, ts ++ [t], T2 ++ [row'], ?_, ?_, ?_, ?_, ?_⟩⟩
        · have g := DGet.k (k := .inl ((0 : Int) + m)) (sm2 _ _ hd)
          rw [hv] at g
          exact g
        · rw [List.length_map]
          exact lenLine (by omega)
        · rw [upd_same, List.map_append]
          rfl
        · exact Rows.kt (paired_append hR2 (.cons (sm2 _ _ ht) .nil)) (KT.lst hD)
        · rw [List.length_append, l2]
          rfl
        · intro b o hb
          rw [upd_ne (ne_of_none hb nD)]
          exact sm2 _ _ hb
        · intro s' row j hr' hj' lj
          have j0 := ((inm j).mp (List.mem_of_getElem? hj')).1
          by_cases e : j < m
          · obtain ⟨r', g1, g2⟩ := inv2 s' row j hr' hj' e
            refine ⟨r', ?_, g2⟩
            rw [List.getElem?_append_left (by omega)]
            exact g1
          · have ej : j = 0 + (m : Int) := by omega
            subst ej
            have l1 : s' < ms.length := (List.getElem?_eq_some_iff.mp hj').1
            have es : s' = s0 := (List.getElem?_inj l1 ndm).mp (hj'.trans hs0.symm)
            subst es
            rw [hrow0] at hr'
            cases hr'
            refine ⟨row', ?_, rc⟩
            rw [show ((0 : Int) + (m : Int)).toNat = T2.length by omega, List.getElem?_concat_length]
      · rintro H2 ⟨ts, T2, hD, hR2, l2, sm2, inv2⟩
        refine ⟨D, _, rfl, .inl ⟨SqL.of hD, fun p' np => ?_⟩⟩
        have sp := same_upd (o := .tup (ts.map V.ref)) np
        refine q p' T2 _ ((sm.trans sm2).free np) ((sm.trans sm2).trans sp) ⟨ts, upd_same, hR2.same sp⟩ ⟨l2, fun s row j hr' hj' => inv2 s row j hr' hj' ?_⟩
        exact ((inm j).mp (List.mem_of_getElem? hj')).2
end
end Nm

namespace Nm
open PySem PySem.Spec PyProof.Rows L2 GL
abbrev sChg : Stmt := topS 14
abbrev nChg : List Str := ["_law_pot_here", "_law_table_here", "_law_rows", "_law_turn", "_law_sign", "_law_near", "_law_row"]
theorem scChg : FnScope nChg ["_law_pot_here", "_law_table_here"] (defScope sChg) := ⟨rfl, rfl, rfl, by decide +kernel, rfl, by decide +kernel, by decide +kernel⟩
/-! ### rules -/
def Good (n : Nat) (row : List Int) : Prop := row.Pairwise (· < ·) ∧ ∀ x ∈ row, 0 ≤ x ∧ x < (n : Int)
def IsRule (T : List (List Int)) : Prop := 1 ≤ T.length ∧ T.length ≤ 16 ∧ ∀ row ∈ T, Good T.length row
theorem asc_len (n : Nat) : ∀ (row : List Int) (a : Nat), row.Pairwise (· < ·) → (∀ x ∈ row, (a : Int) ≤ x ∧ x < (n : Int)) → row.length + a ≤ n ∨ row = []
  | [], _, _, _ => .inr rfl
  | x :: r, a, hp, hx => by
    have h0 := hx x List.mem_cons_self
    have hp' := List.pairwise_cons.mp hp
    rcases asc_len n r (x.toNat + 1) hp'.2 (fun y hy => ⟨by have := hp'.1 y hy; omega, (hx y (List.mem_cons_of_mem _ hy)).2⟩) with h | h
    · left
      rw [List.length_cons]
      omega
    · left
      subst h
      simp
      omega
theorem Good.len {n : Nat} {row : List Int} (h : Good n row) : row.length ≤ n := by
  rcases asc_len n row 0 h.1 h.2 with z | z
  · omega
  · subst z
    exact Nat.zero_le _
theorem Good.nodup {n : Nat} {row : List Int} (h : Good n row) : row.Nodup := h.1.imp fun h => Int.ne_of_lt h
theorem strict_of {l : List Int} (h : l.Pairwise (· ≤ ·)) (nd : l.Nodup) : l.Pairwise (· < ·) :=
  (List.Pairwise.and h nd).imp fun ⟨a, b⟩ => by omega
theorem Good.sub {n : Nat} {row r : List Int} (h : Good n row) (s : r.Sublist row) : Good n r := ⟨h.1.sublist s, fun x hx => h.2 x (s.subset hx)⟩
/-! ### lists of rows that change -/
structure LR (H : Hp) (ls : List Addr) (T : List (List Int)) : Prop where
  len : ls.length = T.length
  at' : ∀ (i : Nat) (a : Addr) (row : List Int), ls[i]? = some a → T[i]? = some row → H a = some (.lst (row.map V.int))
  inj : ∀ (i j : Nat) (a : Addr), ls[i]? = some a → ls[j]? = some a → i = j
theorem inV_int (x : Int) : ∀ row : List Int, inV (.int x) (row.map V.int) = decide (x ∈ row)
  | [] => by simp [inV]
  | y :: r => by
    have ih := inV_int x r
    unfold inV at ih ⊢
    rw [List.map_cons, List.any_cons, ih]
    have e : eqV (.int y) (.int x) = decide (y = x) := by
      by_cases h : y = x
      · subst h
        simp [eqV]
      · simp [eqV, h]
    rw [e]
    by_cases h : y = x
    · subst h
      simp
    · have h' : ¬ x = y := fun z => h z.symm
      simp [h, h']
theorem flat_ints (row : List Int) : (row.map V.int).all flatV = true := by
  rw [List.all_eq_true]
  intro x hx
  obtain ⟨y, _, rfl⟩ := List.mem_map.mp hx
  rfl
theorem first_at {row : List Int} {x : Int} (h : x ∈ row) : ∃ (j : Nat), row[j]? = some x ∧ ∀ (m : Nat), m < j → row[m]? ≠ some x := by
  induction row with
  | nil => cases h
  | cons y r ih =>
    by_cases e : y = x
    · subst e
      exact ⟨0, rfl, fun m hm => absurd hm (Nat.not_lt_zero _)⟩
    · have hr : x ∈ r := by
        rcases List.mem_cons.mp h with z | z
        · exact absurd z.symm e
        · exact z
      obtain ⟨j, h1, h2⟩ := ih hr
      refine ⟨j + 1, by simpa using h1, fun m hm => ?_⟩
      cases m with
      | zero =>
        intro z
        exact e (by simpa using z)
      | succ m =>
        have := h2 m (by omega)
        simpa using this
theorem mem_set {α : Type} {l : List α} {i : Nat} {a x : α} (h : x ∈ l.set i a) : x ∈ l ∨ x = a := List.mem_or_eq_of_mem_set h
theorem ixN_of {n : Nat} {k : Int} (h0 : 0 ≤ k) (h1 : k < (n : Int)) : ixN n k = some k.toNat := by
  unfold ixN
  rw [if_pos h0, if_pos h1]
/-- the rows between two turns -/
def Mid (H0 H : Hp) (p L : Addr) (m c : Nat) : Prop := ∃ (ls : List Addr) (T : List (List Int)), H L = some (.lst (ls.map V.ref)) ∧ LR H ls T ∧ (∀ a ∈ ls, H0 a = none ∧ a ≠ L) ∧ T.length = m ∧ (∀ row ∈ T, Good m row) ∧ Pot H p c ∧ Kp p H0 H
theorem Mid.kp {H0 H H' : Hp} {p L : Addr} {m c c' : Nat} {xs : List V} (h : Mid H0 H p L m c) (k : Kp p H H') (hp : Pot H' p c') (h0 : H0 p = some (.lst xs)) (nL : H0 L = none) : Mid H0 H' p L m c' := by
  obtain ⟨ls, T, hL, ⟨l1, l2, l3⟩, fr, lt, gd, _, kp⟩ := h
  have nLp : L ≠ p := fun z => by subst z; rw [h0] at nL; cases nL
  refine ⟨ls, T, k _ _ nLp hL, ⟨l1, fun i a row hi hr => k _ _ (fun z => ?_) (l2 i a row hi hr), l3⟩, fr, lt, gd, hp, kp.trans k⟩
  have := (fr a (List.mem_of_getElem? hi)).1
  subst z
  rw [h0] at this
  cases this
section
variable {P : Program} {w : World} {K : PySem.W.Frag} {mg : Str → Option Value} {base : Heap}
def spChg (K : PySem.W.Frag) : Sp := fun vs H Q _ => ∃ (p a : Addr) (n : Nat) (T : List (List Int)), vs = [.ref p, .ref a] ∧ Pot H p n ∧ n + 7 < 1000000 ∧ Tbl H a T ∧ IsRule T ∧
  ∀ (o : Addr) (T' : List (List Int)) (H' : Hp), H o = none → Pot H' p (n + 7) → Kp p H H' → Tbl H' o T' → IsRule T' → T'.length = T.length → Q (.ref o) H'
theorem ok_chg {f fT : Addr} {fd fdT : FuncData} {k : Nat} (F : Fun K "_law_changed" "_law_changed" sChg f fd) (FT : Fun K "_law_take" "_law_take" sTake fT fdT) (bT : Binds K fdT ["_law_pot_here", "_law_size"] []) (gT : mg "_law_take" = some (.ref fT))
    (mr : mg "range" = none) (mtup : mg "tuple" = none) (mlist : mg "list" = none) (ms_ : mg "sorted" = none) (ml : mg "len" = none) :
    FnOk P w K mg base CX0 (k + 2) f fd ["_law_pot_here", "_law_table_here"] (spChg K) := by
  have GT : FnOk P w K mg base CX0 (k + 1) fT fdT ["_law_pot_here", "_law_size"] (spTake K) := ok_take FT
  refine F.ok scChg (fun vs H Q E h => ?_) (fun cdv A outer s H vs Q E hr h => ?_)
  · obtain ⟨p, a, n, T, rfl, _⟩ := h
    rfl
  · obtain ⟨p, a, n, T, rfl, hp, hn, ⟨rs, ha, hR⟩, rule, q⟩ := h
    refine ⟨_, pss_cons (ps_setLc (i := 2) (own := [("_law_row", 6)]) (g := gName 6) (by rfl) scChg.nd rfl rfl (sw_true rfl rfl rfl (by decide +kernel)) (piTupK (K := K) (pv 1))
          (blkOk_by (own := [("_law_row", 6)]) (N := nChg) (sc := defScope sChg) (by decide +kernel))
          (fun _ _ _ _ _ => pg_name (i := 6) scChg.nd rfl (Or.inl rfl)) (fun _ _ _ _ _ => pts_nil)
          (fun _ _ _ _ _ => pe_callTy (lstOfK (K := K)) (by rfl) mlist (by decide +kernel) (pa_cons (pv 6) pa_nil)))
      (pss_cons (ps_for PassesOwn.never rfl (pi_range1 (by rfl) mr (pa_cons (pe_op op_add pe_int (pe_call GT hr (by rfl) gT FT.kp bT .nil pass0 (pa_cons (pv 0) (pa_cons pe_int pa_nil)))) pa_nil)) (pg_name (i := 3) scChg.nd rfl (.inl rfl))
        (pss_cons (ps_par (i := 4) (j := 5) (by rfl) scChg.nd rfl rfl (by decide) rfl rfl (pa_cons
            (pe_call GT hr (by rfl) gT FT.kp bT .nil pass0 (pa_cons (pv 0) (pa_cons (pe_callB (lenK (K := K)) (by rfl) ml PySem.boot_len (pa_cons (pv 2) pa_nil)) pa_nil))) (pa_cons
            (pe_call GT hr (by rfl) gT FT.kp bT .nil pass0 (pa_cons (pv 0) (pa_cons (pe_callB (lenK (K := K)) (by rfl) ml PySem.boot_len (pa_cons (pv 2) pa_nil)) pa_nil))) pa_nil)) (by rfl))
        (pss_one (ps_if (pt_cmpR (inK (K := K)) (pv 5) (pe_ix (ixLstK (K := K)) (pv 2) (pv 4) (fun _ _ => rfl)) (by rfl))
          (pss_one (ps_expr (pe_bm PySem.F.plainAttrs_list PySem.F.slot_list_remove PySem.F.type_list_remove mt_remove (pe_ix (ixLstK (K := K)) (pv 2) (pv 4) (fun _ _ => rfl)) (pa_cons (pv 5) pa_nil))))
          (pss_one (ps_asg (pe_callB cr_sorted (by rfl) ms_ (by decide +kernel) (pa_cons (pe_op op_cat (pe_ix (ixLstK (K := K)) (pv 2) (pv 4) (fun _ _ => rfl)) (pe_lst (pa_cons (pv 5) pa_nil))) pa_nil)) (pg_sub (pv 2) (pv 4) set_list)))))))
      (pss_one (ps_ret (pe_callTy (tupOfK (K := K)) (by rfl) mtup (by decide +kernel) (pa_cons
        (pe_lc (own := [("_law_row", 6)]) (g := gName 6) (by rfl) scChg.nd (piLstK (K := K) (pv 2))
          (blkOk_by (own := [("_law_row", 6)]) (N := nChg) (sc := defScope sChg) (by decide +kernel))
          (fun _ _ _ _ _ => pg_name (i := 6) scChg.nd rfl (Or.inl rfl)) (fun _ _ _ _ _ => pts_nil)
          (fun _ _ _ _ _ => pe_callTy (tupOfK (K := K)) (by rfl) mtup (by decide +kernel) (pa_cons (pv 6) pa_nil))) pa_nil))))), ?_⟩
    have lr : rs.length = T.length := Paired.length hR
    obtain ⟨t1, t16, good⟩ := rule
    obtain ⟨xs0, hp0⟩ := pot_lst hp
    refine ⟨.ref a, rfl, a, rfl, ⟨_, SqT.of ha⟩, fun L nL => ?_⟩
    have nLp : L ≠ p := fun z => by subst z; rw [hp0] at nL; cases nL
    refine lc_tup (K := K) (a := a) (xs := rs.map V.ref) (fun i H2 => ∃ ls : List Addr, H2 L = some (.lst (ls.map V.ref)) ∧ ls.length = i ∧ (∀ (j : Nat) (b : Addr) (row : List Int), ls[j]? = some b → T[j]? = some row → H2 b = some (.lst (row.map V.int))) ∧
        (∀ (i j : Nat) (b : Addr), ls[i]? = some b → ls[j]? = some b → i = j) ∧ (∀ b ∈ ls, H b = none ∧ b ≠ L ∧ H2 b ≠ none) ∧ Same H H2)
      ⟨[], upd_same, rfl, fun j b row h => by simp at h, fun i j b h => by simp at h, fun b h => by simp at h, same_upd nL⟩ (fun i H2 _ h => SqT.of (h.elim fun ls h => h.2.2.2.2.2 _ _ ha)) ?_ ?_
    · rintro i x H2 hx ⟨ls, hL, li, lrow, linj, lfr, sm⟩
      obtain ⟨c, hc, rfl⟩ := ref_at hx
      obtain ⟨row, hrw, hcell⟩ := paired_get hR hc
      have iT : i < T.length := (List.getElem?_eq_some_iff.mp hrw).1
      refine ⟨rfl, yesI ⟨.ref c, rfl, c, _, rfl, .inr (SqT.of (sm _ _ hcell)), fun l nl => ?_⟩⟩
      have sl := same_upd (o := .lst (row.map V.int)) nl
      have hL' := sl _ _ hL
      have nlL : l ≠ L := fun z => by subst z; rw [hL] at nl; cases nl
      have nlls : l ∉ ls := fun z => (lfr l z).2.2 nl
      refine ⟨_, hL', by rw [List.length_map]; exact lenLine (by omega), ls ++ [l], ?_, ?_, ?_, ?_, ?_, ?_⟩
      · rw [upd_same, List.map_append]
        rfl
      · rw [List.length_append, li]
        rfl
      · intro j b row' hj hr'
        by_cases e : j < ls.length
        · rw [List.getElem?_append_left e] at hj
          have nb := (lfr b (List.mem_of_getElem? hj)).2.1
          rw [upd_ne nb]
          exact sl _ _ (lrow j b row' hj hr')
        · have ej : j = ls.length := by
            have := (List.getElem?_eq_some_iff.mp hj).1
            rw [List.length_append] at this
            simp at this
            omega
          subst ej
          rw [List.getElem?_concat_length] at hj
          cases hj
          rw [li, hrw] at hr'
          cases hr'
          rw [upd_ne nlL, upd_same]
      · intro i' j' b hi' hj'
        by_cases e1 : i' < ls.length
        · rw [List.getElem?_append_left e1] at hi'
          by_cases e2 : j' < ls.length
          · rw [List.getElem?_append_left e2] at hj'
            exact linj i' j' b hi' hj'
          · have ej : j' = ls.length := by
              have := (List.getElem?_eq_some_iff.mp hj').1
              rw [List.length_append] at this
              simp at this
              omega
            subst ej
            rw [List.getElem?_concat_length] at hj'
            cases hj'
            exact absurd (List.mem_of_getElem? hi') nlls
        · have ei : i' = ls.length := by
            have := (List.getElem?_eq_some_iff.mp hi').1
            rw [List.length_append] at this
            simp at this
            omega
          subst ei
          rw [List.getElem?_concat_length] at hi'
          cases hi'
          by_cases e2 : j' < ls.length
          · rw [List.getElem?_append_left e2] at hj'
            exact absurd (List.mem_of_getElem? hj') nlls
          · have := (List.getElem?_eq_some_iff.mp hj').1
            rw [List.length_append] at this
            simp at this
            omega
      · intro b hb
        rcases List.mem_append.mp hb with z | z
        · obtain ⟨f1, f2, f3⟩ := lfr b z
          refine ⟨f1, f2, ?_⟩
          rw [upd_ne f2, upd_ne (show b ≠ l from fun y => nlls (y ▸ z))]
          exact f3
        · have z' : b = l := List.mem_singleton.mp z
          subst z'
          refine ⟨sm.free nl, nlL, ?_⟩
          rw [upd_ne nlL, upd_same]
          intro y
          cases y
      · intro b o hb
        rw [upd_ne (ne_of_none hb nL)]
        exact sl _ _ (sm _ _ hb)
    · rintro H1 ⟨ls, hL, li, lrow, linj, lfr, sm⟩
      rw [List.length_map, lr] at li
      have mid : Mid H H1 p L T.length n := ⟨ls, T, hL, ⟨li, lrow, linj⟩, fun b hb => ⟨(lfr b hb).1, (lfr b hb).2.1⟩, rfl, good, hp.same sm, .of sm⟩
      refine ⟨.ref p, rfl, p, n, 3, rfl, hp.same sm, by omega, by decide, by decide, fun r H2 r0 r3 hp2 kp2 => ?_⟩
      have mid2 := mid.kp kp2 hp2 hp0 nL
      refine ⟨1, r, rfl, rfl, _, rfl, by omega, by omega, ?_⟩
      obtain ⟨N, eN, hN⟩ : ∃ N : Nat, (1 + r).toNat = N ∧ N ≤ 3 := ⟨_, rfl, by omega⟩
      show ∃ W, _
      rw [eN]
      refine for_range (lo := 0) (n := N) (fun i σ H' => ∃ (y3 y4 y5 y6 : Option V), σ = [some (.ref p), some (.ref a), some (.ref L), y3, y4, y5, y6] ∧ Mid H H' p L T.length (n + 1 + 2 * i))
        ⟨none, none, none, none, rfl, mid2⟩ ?_ ?_
      · rintro i σ H3 hi ⟨y3, y4, y5, y6, rfl, mid3⟩
        have m3 := mid3
        obtain ⟨ls3, T3, hL3, lr3, fr3, lt3, gd3, hp3, kp3⟩ := m3
        have len3 : (ls3.map V.ref).length = T.length := by rw [List.length_map, lr3.len, lt3]
        refine ⟨.ref p, rfl, .ref L, rfl, L, _, rfl, .inl (SqL.of hL3), p, n + 1 + 2 * i, _, rfl, hp3, by omega, by rw [len3]; omega, by rw [len3]; omega, fun r1 H4 r10 r11 hp4 kp4 => ?_⟩
        have mid4 := mid3.kp kp4 hp4 hp0 nL
        have m4 := mid4
        obtain ⟨ls4, T4, hL4, lr4, fr4, lt4, gd4, _, _⟩ := m4
        have len4 : (ls4.map V.ref).length = T.length := by rw [List.length_map, lr4.len, lt4]
        refine ⟨.ref p, rfl, .ref L, rfl, L, _, rfl, .inl (SqL.of hL4), p, n + 1 + 2 * i + 1, _, rfl, hp4, by omega, by rw [len4]; omega, by rw [len4]; omega, fun r2 H5 r20 r21 hp5 kp5 => ?_⟩
        have mid5 := mid4.kp kp5 hp5 hp0 nL
        obtain ⟨ls, T5, hL5, lr5, fr5, lt5, gd5, _, kpF⟩ := mid5
        have len5 : (ls.map V.ref).length = T.length := by rw [List.length_map, lr5.len, lt5]
        rw [len3] at r11
        rw [len4] at r21
        have i1 : r1.toNat < ls.length := by
          rw [List.length_map] at len5
          omega
        have i2 : r1.toNat < T5.length := by omega
        obtain ⟨b, hb⟩ : ∃ b, ls[r1.toNat]? = some b := ⟨_, List.getElem?_eq_getElem i1⟩
        obtain ⟨row, hrw⟩ : ∃ row, T5[r1.toNat]? = some row := ⟨_, List.getElem?_eq_getElem i2⟩
        have hbr := lr5.at' _ _ _ hb hrw
        have hg := gd5 row (List.mem_of_getElem? hrw)
        have hgl := hg.len
        have atb : atI (ls.map V.ref) r1 = some (.ref b) := by
          have z := atI_nat (xs := ls.map V.ref) (j := r1.toNat) (v := .ref b) (by rw [List.getElem?_map, hb]; rfl)
          rw [show ((r1.toNat : Nat) : Int) = r1 by omega] at z
          exact z
        have nbL := (fr5 b (List.mem_of_getElem? hb)).2
        have nb0 := (fr5 b (List.mem_of_getElem? hb)).1
        have npb : p ≠ b := ne_of_none hp0 nb0
        refine ⟨_, _, rfl, .int r2, rfl, .ref L, rfl, .int r1, rfl, L, _, r1, _, rfl, rfl, SqL.of hL5, atb, b, _, rfl, .inl (SqL.of hbr), rfl, flat_ints row, _, rfl, ?_⟩
        show if inV (.int r2) (row.map V.int) = true then _ else _
        rw [inV_int]
        refine ite2 (fun e => ?_) (fun e => ?_)
        · have hin : r2 ∈ row := of_decide_eq_true e
          obtain ⟨j, hj, hno⟩ := first_at hin
          refine ⟨.ref L, rfl, .int r1, rfl, L, _, r1, _, rfl, rfl, SqL.of hL5, atb, .inl ⟨rfl, _, SqL.of hbr⟩, .int r2, rfl, b, row, r2, j, rfl, rfl, hbr, hj, hno, _, _, _, _, rfl, ls, T5.set r1.toNat (row.eraseIdx j), ?_, ⟨?_, ?_, lr5.inj⟩, fr5, ?_, ?_, ?_, ?_⟩
          · rw [upd_ne nbL.symm]
            exact hL5
          · rw [List.length_set]
            exact lr5.len
          · intro i' a' row' hi' hr'
            by_cases e' : i' = r1.toNat
            · subst e'
              rw [hb] at hi'
              cases hi'
              rw [List.getElem?_set_self i2] at hr'
              cases hr'
              exact upd_same
            · rw [List.getElem?_set_ne (Ne.symm e')] at hr'
              rw [upd_ne (show a' ≠ b from fun z => e' (lr5.inj i' r1.toNat a' hi' (by rw [z]; exact hb)))]
              exact lr5.at' _ _ _ hi' hr'
          · rw [List.length_set]
            exact lt5
          · intro row' hr'
            rcases mem_set hr' with z | z
            · exact gd5 row' z
            · subst z
              exact hg.sub (List.eraseIdx_sublist _ _)
          · obtain ⟨g, t, c, hq, rr1, rr2, rr3, rr4, rr5⟩ := hp5
            refine ⟨g, t, c, ?_, rr1, rr2, rr3, rr4, by omega⟩
            rw [upd_ne npb]
            exact hq
          · intro c o nc hc
            rw [upd_ne (ne_of_none hc nb0)]
            exact kpF _ _ nc hc
        · have hin : r2 ∉ row := fun z => e (decide_eq_true z)
          refine ⟨.ref L, rfl, .int r1, rfl, L, _, r1, _, rfl, rfl, SqL.of hL5, atb, .int r2, rfl, by show 1 ≤ sizeLine; decide, fun e1 ne1 => ?_⟩
          have s1 := same_upd (o := .lst [.int r2]) ne1
          refine ⟨b, e1, _, _, rfl, rfl, s1 _ _ hbr, upd_same, ?_, fun c nc => ?_⟩
          · rw [List.length_map]
            exact Nat.le_of_lt (lenLine (by simp; omega))
          · have s2 := same_upd (o := .lst (row.map V.int ++ [.int r2])) nc
            refine ⟨c, row ++ [r2], rfl, SqL.of ?_, ?_, fun ns' o pm srt no => ?_⟩
            · rw [List.map_append]
              exact upd_same
            · rw [List.length_append]
              simp
              omega
            · have s3 := same_upd (o := .lst (ns'.map V.int)) no
              have s4 := s1.trans (s2.trans s3)
              have hL6 := s4 _ _ hL5
              have hoN := upd_same (H := upd (upd H5 e1 (.lst [.int r2])) c (.lst (row.map V.int ++ [.int r2]))) (a := o) (o := .lst (ns'.map V.int))
              have no5 : H5 o = none := (s1.trans s2).free no
              have no0 : H o = none := by
                cases hz : H o with
                | none => rfl
                | some u =>
                  by_cases e' : o = p
                  · obtain ⟨_, y⟩ := pot_lst hp5
                    rw [e', y] at no5
                    cases no5
                  · rw [kpF _ _ e' hz] at no5
                    cases no5
              generalize upd (upd (upd H5 e1 (.lst [.int r2])) c (.lst (row.map V.int ++ [.int r2]))) o (.lst (ns'.map V.int)) = H6 at s3 s4 hL6 hoN ⊢
              have noL : o ≠ L := fun z => by subst z; rw [hL5] at no5; cases no5
              refine ⟨.ref L, rfl, .int r1, rfl, L, _, r1, r1.toNat, rfl, rfl, hL6, ixN_of r10 (by rw [len5]; exact r11), _, _, _, _, rfl, ls.set r1.toNat o, T5.set r1.toNat ns', ?_, ⟨?_, ?_, ?_⟩, ?_, ?_, ?_, ?_, ?_⟩
              · rw [upd_same, List.map_set]
              · rw [List.length_set, List.length_set]
                exact lr5.len
              · intro i' a' row' hi' hr'
                by_cases e' : i' = r1.toNat
                · subst e'
                  rw [List.getElem?_set_self i1] at hi'
                  cases hi'
                  rw [List.getElem?_set_self i2] at hr'
                  cases hr'
                  rw [upd_ne noL]
                  exact hoN
                · rw [List.getElem?_set_ne (Ne.symm e')] at hr' hi'
                  rw [upd_ne (fr5 a' (List.mem_of_getElem? hi')).2]
                  exact s4 _ _ (lr5.at' _ _ _ hi' hr')
              · intro i' j' a' hi' hj'
                have old : ∀ {m : Nat}, m ≠ r1.toNat → (ls.set r1.toNat o)[m]? = some o → False := fun {m} hm hmm => by
                  rw [List.getElem?_set_ne (Ne.symm hm)] at hmm
                  obtain ⟨row2, h2⟩ : ∃ row2, T5[m]? = some row2 := ⟨_, List.getElem?_eq_getElem (by have := (List.getElem?_eq_some_iff.mp hmm).1; have := lr5.len; omega)⟩
                  rw [lr5.at' _ _ _ hmm h2] at no5
                  cases no5
                by_cases e1' : i' = r1.toNat
                · by_cases e2' : j' = r1.toNat
                  · rw [e1', e2']
                  · subst e1'
                    rw [List.getElem?_set_self i1] at hi'
                    cases hi'
                    exact (old e2' hj').elim
                · by_cases e2' : j' = r1.toNat
                  · subst e2'
                    rw [List.getElem?_set_self i1] at hj'
                    cases hj'
                    exact (old e1' hi').elim
                  · rw [List.getElem?_set_ne (Ne.symm e1')] at hi'
                    rw [List.getElem?_set_ne (Ne.symm e2')] at hj'
                    exact lr5.inj _ _ _ hi' hj'
              · intro a' ha'
                rcases mem_set ha' with z | z
                · exact fr5 a' z
                · subst z
                  exact ⟨no0, noL⟩
              · rw [List.length_set]
                exact lt5
              · intro row' hr'
                rcases mem_set hr' with z | z
                · exact gd5 row' z
                · subst z
                  have nd : row'.Nodup := by
                    refine pm.nodup_iff.mpr (List.nodup_append.mpr ⟨hg.nodup, by simp, ?_⟩)
                    intro x hx y hy z
                    have y' : y = r2 := List.mem_singleton.mp hy
                    subst z
                    subst y'
                    exact hin hx
                  refine ⟨strict_of srt nd, fun x hx => ?_⟩
                  rcases List.mem_append.mp (pm.mem_iff.mp hx) with z | z
                  · exact hg.2 x z
                  · have z' : x = r2 := List.mem_singleton.mp z
                    subst z'
                    exact ⟨r20, r21⟩
              · obtain ⟨g, t, c', hq, rr1, rr2, rr3, rr4, rr5⟩ := hp5
                refine ⟨g, t, c', ?_, rr1, rr2, rr3, rr4, by omega⟩
                rw [upd_ne nLp.symm]
                exact s4 _ _ hq
              · intro c' o' nc' hc'
                rw [upd_ne (ne_of_none hc' nL)]
                exact s4 _ _ (kpF _ _ nc' hc')
      · rintro σ H3 ⟨y3, y4, y5, y6, rfl, ls3, T3, hL3, lr3, fr3, lt3, gd3, hp3, kp3⟩
        refine ⟨.ref L, rfl, L, rfl, ⟨_, SqL.of hL3⟩, fun D nD => ?_⟩
        have sD := same_upd (o := .lst []) nD
        refine lc_list (K := K) (a := L) (xs := ls3.map V.ref) (fun i H4 => ∃ ts : List Addr, H4 D = some (.lst (ts.map V.ref)) ∧ Rows H4 ts (T3.take i) ∧ Same H3 H4)
          ⟨[], upd_same, .nil, sD⟩ (fun i H4 _ h => SqL.of (h.elim fun ts h => h.2.2 _ _ hL3)) ?_ ?_
        · rintro i x H4 hx ⟨ts, hD, hR4, sm4⟩
          obtain ⟨b, hb, rfl⟩ := ref_at hx
          have lb := (List.getElem?_eq_some_iff.mp hb).1
          obtain ⟨row, hrw⟩ : ∃ row, T3[i]? = some row := ⟨_, List.getElem?_eq_getElem (by have := lr3.len; omega)⟩
          have hbr := sm4 _ _ (lr3.at' _ _ _ hb hrw)
          have lts : ts.length ≤ 16 := by
            rw [Paired.length hR4, List.length_take]
            omega
          refine ⟨rfl, yesI ⟨.ref b, rfl, b, _, rfl, .inl ⟨SqL.of hbr, fun t nt => ?_⟩⟩⟩
          have st := same_upd (o := .tup (row.map V.int)) nt
          have hD' := st _ _ hD
          have ntD : t ≠ D := fun z => by subst z; rw [hD] at nt; cases nt
          refine ⟨_, hD', by rw [List.length_map]; exact lenLine (by omega), ts ++ [t], ?_, ?_, ?_⟩
          · rw [upd_same, List.map_append]
            rfl
          · rw [List.take_add_one, hrw]
            refine Rows.kt (paired_append (hR4.same st) (.cons upd_same .nil)) (KT.lst hD')
          · intro c o hc
            rw [upd_ne (ne_of_none hc nD)]
            exact st _ _ (sm4 _ _ hc)
        · rintro H4 ⟨ts, hD, hR4, sm4⟩
          rw [List.length_map, lr3.len, List.take_length] at hR4
          refine ⟨D, _, rfl, .inl ⟨SqL.of hD, fun o no => ?_⟩⟩
          have so := same_upd (o := .tup (ts.map V.ref)) no
          have hpF := (hp3.same sm4).same so
          refine q o T3 _ ?_ (hpF.mono (by omega)) (kp3.trans (.of (sm4.trans so))) ⟨ts, upd_same, hR4.same so⟩ ⟨by omega, by omega, fun row hr' => by rw [lt3]; exact gd3 row hr'⟩ lt3
          have no3 : H3 o = none := sm4.free no
          cases hz : H o with
          | none => rfl
          | some u =>
            by_cases e' : o = p
            · obtain ⟨_, y⟩ := pot_lst hp3
              rw [e', y] at no3
              cases no3
            · rw [kp3 _ _ e' hz] at no3
              cases no3
end
end Nm

namespace Nm
open PySem PySem.Spec PyProof.Rows L2 GL
abbrev sTab : Stmt := topS 15
abbrev nTab : List Str := ["_law_pot_here", "_law_most", "_law_way", "_law_size", "_law_signs", "_law_table_here", "_law_sign", "_law_wide"]
theorem scTab : FnScope nTab ["_law_pot_here", "_law_most"] (defScope sTab) := ⟨rfl, rfl, rfl, by decide +kernel, rfl, by decide +kernel, by decide +kernel⟩
theorem allK {X : Cx} {K : PySem.W.Frag} (hc : X.calm = true) (hK : X.K = K := by rfl) : CallR X (.builtin "all") (rAll K) := by
  subst hK
  exact cr_all hc
theorem rgV_range (n : Nat) : rgV 0 (n : Int) = (rangeI n).map V.int := by
  unfold rgV rangeI
  rw [List.map_map, show ((n : Int) - 0).toNat = n by omega]
  refine List.map_congr_left fun i _ => ?_
  show V.int (0 + (i : Int)) = V.int (i : Int)
  rw [Int.zero_add]
theorem rangeI_asc (n : Nat) : (rangeI n).Pairwise (· < ·) := by
  unfold rangeI
  refine List.Pairwise.map _ (fun a b h => ?_) List.pairwise_lt_range
  omega
theorem good_sub {n : Nat} {row : List Int} (h : row.Sublist (rangeI n)) : Good n row := ⟨(rangeI_asc n).sublist h, fun x hx => mem_rangeI.mp (h.subset hx)⟩
instance (n : Nat) (row : List Int) : Decidable (Good n row) := inferInstanceAs (Decidable (_ ∧ _))
instance (T : List (List Int)) : Decidable (IsRule T) := inferInstanceAs (Decidable (_ ∧ _))
theorem named_rule {m : Nat} (h1 : 1 ≤ m) (h4 : m ≤ 4) : IsRule (ofPrs (prsTo m m)) := by
  obtain rfl | rfl | rfl | rfl : m = 1 ∨ m = 2 ∨ m = 3 ∨ m = 4 := by omega
  all_goals decide +kernel
theorem at_mem {ms : List Int} {x : Int} (h0 : 0 ≤ x) (h1 : x < (ms.length : Int)) : at_ ms x ∈ ms := by
  have hi : x.toNat < ms.length := by omega
  unfold at_
  rw [List.getD_eq_getElem?_getD, List.getElem?_eq_getElem hi]
  exact List.getElem_mem hi
theorem at_some {ms : List Int} {x : Int} (h0 : 0 ≤ x) (h1 : x < (ms.length : Int)) : ms[x.toNat]? = some (at_ ms x) := by
  have hi : x.toNat < ms.length := by omega
  unfold at_
  rw [List.getD_eq_getElem?_getD, List.getElem?_eq_getElem hi]
  rfl
theorem at_inj {ms : List Int} (nd : ms.Nodup) {x y : Int} (h0 : 0 ≤ x) (h1 : x < (ms.length : Int)) (k0 : 0 ≤ y) (k1 : y < (ms.length : Int)) (e : at_ ms x = at_ ms y) : x = y := by
  have hx := at_some h0 h1
  have hy := at_some k0 k1
  rw [e] at hx
  have := (List.getElem?_inj (by omega) nd).mp (hx.trans hy.symm)
  omega
theorem rowC_good {n : Nat} {ms row row' : List Int} (g : Good n row) (pm : ms.Perm (rangeI n)) (h : RowC ms row row') : Good n row' := by
  have lm : ms.length = n := by rw [pm.length_eq, rangeI_length]
  have ndm : ms.Nodup := pm.nodup_iff.mpr (nodup_rangeI _)
  have nd : row'.Nodup := by
    refine h.1.nodup_iff.mpr ?_
    refine List.pairwise_map.mpr (List.Pairwise.imp_of_mem (fun {a b} ha hb hab z => ?_) g.nodup)
    have h1 := g.2 a ha
    have h2 := g.2 b hb
    exact hab (at_inj ndm h1.1 (by omega) h2.1 (by omega) z)
  refine ⟨strict_of h.2 nd, fun x hx => ?_⟩
  obtain ⟨y, hy, rfl⟩ := List.mem_map.mp (h.1.mem_iff.mp hx)
  have h1 := g.2 y hy
  exact mem_rangeI.mp (pm.mem_iff.mp (at_mem h1.1 (by omega)))
theorem called_rule {T T' : List (List Int)} {ms : List Int} (r : IsRule T) (pm : ms.Perm (rangeI T.length)) (c : Called T T' ms) : IsRule T' := by
  obtain ⟨l, hc⟩ := c
  have lm : ms.length = T.length := by rw [pm.length_eq, rangeI_length]
  refine ⟨by rw [l]; exact r.1, by rw [l]; exact r.2.1, fun row' hr => ?_⟩
  rw [l]
  obtain ⟨j, hj⟩ := List.mem_iff_getElem?.mp hr
  have jl := (List.getElem?_eq_some_iff.mp hj).1
  have jm : (j : Int) ∈ ms := pm.mem_iff.mpr (mem_rangeI.mpr ⟨by omega, by omega⟩)
  obtain ⟨s, hs⟩ := List.mem_iff_getElem?.mp jm
  have sl := (List.getElem?_eq_some_iff.mp hs).1
  obtain ⟨row, hrow⟩ : ∃ row, T[s]? = some row := ⟨_, List.getElem?_eq_getElem (by omega)⟩
  obtain ⟨row2, h1, h2⟩ := hc s row j hrow hs
  rw [Int.toNat_natCast, hj] at h1
  cases h1
  exact rowC_good (r.2.2 row (List.mem_of_getElem? hrow)) pm h2
section
variable {P : Program} {w : World} {K : PySem.W.Frag} {mg : Str → Option Value} {base : Heap}
/-- what the drawing defs lean on -/
structure Lib (K : PySem.W.Frag) (mg : Str → Option Value) : Prop where
  len : mg "len" = none
  abs : mg "abs" = none
  list : mg "list" = none
  tuple : mg "tuple" = none
  range : mg "range" = none
  enum : mg "enumerate" = none
  sorted : mg "sorted" = none
structure Draw (K : PySem.W.Frag) (mg : Str → Option Value) (fT fP fM fS fN fC fG : Addr) (dT dP dM dS dN dC dG : FuncData) : Prop where
  T : Fun K "_law_take" "_law_take" sTake fT dT
  P : Fun K "_law_pick" "_law_pick" sPick fP dP
  M : Fun K "_law_mixed" "_law_mixed" sMixed fM dM
  S : Fun K "_law_some" "_law_some" sSome fS dS
  N : Fun K "_law_named" "_law_named" sNamed fN dN
  C : Fun K "_law_called_so" "_law_called_so" sCso fC dC
  G : Fun K "_law_changed" "_law_changed" sChg fG dG
  bT : Binds K dT ["_law_pot_here", "_law_size"] []
  bP : Binds K dP ["_law_pot_here", "_law_some_here"] []
  bM : Binds K dM ["_law_pot_here", "_law_some_here"] []
  bS : Binds K dS ["_law_pot_here", "_law_some_here", "_law_share"] []
  bN : Binds K dN ["_law_wide"] []
  bC : Binds K dC ["_law_table_here", "_law_led"] []
  bG : Binds K dG ["_law_pot_here", "_law_table_here"] []
  gT : mg "_law_take" = some (.ref fT)
  gP : mg "_law_pick" = some (.ref fP)
  gM : mg "_law_mixed" = some (.ref fM)
  gS : mg "_law_some" = some (.ref fS)
  gN : mg "_law_named" = some (.ref fN)
  gC : mg "_law_called_so" = some (.ref fC)
  gG : mg "_law_changed" = some (.ref fG)
def spTab (K : PySem.W.Frag) : Sp := fun vs H Q _ => ∃ (p : Addr) (n : Nat), vs = [.ref p, .int 16] ∧ Pot H p n ∧ n + 1000 < 1000000 ∧
  ∀ (o : Addr) (T : List (List Int)) (H' : Hp), Pot H' p (n + 1000) → Kp p H H' → Tbl H' o T → IsRule T → Q (.ref o) H'
theorem ok_tab {f fT fP fM fS fN fC fG : Addr} {fd dT dP dM dS dN dC dG : FuncData} {k : Nat} (F : Fun K "_law_table" "_law_table" sTab f fd) (D : Draw K mg fT fP fM fS fN fC fG dT dP dM dS dN dC dG) (B : Lib K mg) :
    FnOk P w K mg base CX0 (k + 3) f fd ["_law_pot_here", "_law_most"] (spTab K) := by
  have GT : FnOk P w K mg base CX0 (k + 2) fT dT ["_law_pot_here", "_law_size"] (spTake K) := ok_take D.T
  have GP : FnOk P w K mg base CX0 (k + 2) fP dP ["_law_pot_here", "_law_some_here"] (spPick K) := ok_pick D.P D.T D.bT D.gT B.len
  have GM : FnOk P w K mg base CX0 (k + 2) fM dM ["_law_pot_here", "_law_some_here"] (spMixed K) := ok_mixed D.M D.T D.bT D.gT B.len B.list
  have GS : FnOk P w K mg base CX0 (k + 2) fS dS ["_law_pot_here", "_law_some_here", "_law_share"] (spSome K) := ok_some D.S D.T D.bT D.gT B.tuple
  have GN : FnOk P w K mg base CX0 (k + 2) fN dN ["_law_wide"] (spNamed K) := ok_named D.N B.range B.tuple B.enum
  have GC : FnOk P w K mg base CX0 (k + 2) fC dC ["_law_table_here", "_law_led"] (spCso K) := ok_cso D.C B.range B.tuple B.enum B.sorted B.len
  have GG : FnOk P w K mg base CX0 (k + 2) fG dG ["_law_pot_here", "_law_table_here"] (spChg K) := ok_chg D.G D.T D.bT D.gT B.range B.tuple B.list B.sorted B.len
  refine F.ok scTab (fun vs H Q E h => ?_) (fun cdv A outer s H vs Q E hr h => ?_)
  · obtain ⟨p, n, rfl, _⟩ := h
    rfl
  · obtain ⟨p, n, rfl, hp, hn, q⟩ := h
    refine ⟨_, pss_cons (ps_asg (pe_tup (pa_cons (pe_call GT hr (by rfl) D.gT D.T.kp D.bT .nil pass0 (pa_cons (pv 0) (pa_cons pe_int pa_nil)))
          (pa_cons (pe_op op_add pe_int (pe_call GT hr (by rfl) D.gT D.T.kp D.bT .nil pass0 (pa_cons (pv 0) (pa_cons (pv 1) pa_nil)))) pa_nil)))
          (pgTupK (K := K) rfl (pgs_cons (pg_name (i := 2) scTab.nd rfl (.inr rfl)) (pgs_cons (pg_name (i := 3) scTab.nd rfl (.inl rfl)) pgs_nil))))
      (pss_cons (ps_if (pt_cmpR op_lt (pv 2) pe_int (nomark _))
        (pss_cons (ps_set (i := 4) scTab.nd rfl (.inr rfl) (pe_listRg (by rfl) (by rfl) B.list (prg_1 (by rfl) B.range (pv 3))))
        (pss_one (ps_ret (pe_callTy (tupOfK (K := K)) (by rfl) B.tuple (by decide +kernel) (pa_cons
          (pe_lc (own := [("_law_sign", 6)]) (g := gName 6) (by rfl) scTab.nd (piLstK (K := K) (pv 4))
            (blkOk_by (own := [("_law_sign", 6)]) (N := nTab) (sc := defScope sTab) (by decide +kernel))
            (fun _ _ _ _ _ => pg_name (i := 6) scTab.nd rfl (Or.inl rfl)) (fun _ _ _ _ _ => pts_nil)
            (fun _ _ _ _ _ => pe_call GS hr (by rfl) D.gS D.S.kp D.bS .nil pass0 (pa_cons (pv 0) (pa_cons (pv 4) (pa_cons (pe_op op_add pe_int
              (pe_call GT hr (by rfl) D.gT D.T.kp D.bT .nil pass0 (pa_cons (pv 0) (pa_cons (pe_op op_add (pv 2) pe_int) pa_nil)))) pa_nil))))) pa_nil))))) pss_nil)
      (pss_cons (ps_set (i := 5) scTab.nd rfl (.inl rfl) (pe_call GN hr (by rfl) D.gN D.N.kp D.bN .nil pass0 (pa_cons
          (pe_call GP hr (by rfl) D.gP D.P.kp D.bP .nil pass0 (pa_cons (pv 0) (pa_cons
            (pe_lc (own := [("_law_wide", 7)]) (g := gName 7) (by rfl) scTab.nd (piTupK (K := K) (pe_tup (pa_cons pe_int (pa_cons pe_int (pa_cons pe_int (pa_cons pe_int pa_nil))))))
              (blkOk_by (own := [("_law_wide", 7)]) (N := nTab) (sc := defScope sTab) (by decide +kernel))
              (fun _ _ _ _ _ => pg_name (i := 7) scTab.nd rfl (Or.inl rfl))
              (fun _ _ _ _ _ => pts_one (pt_cmpR op_le (pe_op op_mul (pv 7) (pv 7)) (pv 1) (nomark _)))
              (fun _ _ _ _ _ => pv 7)) pa_nil))) pa_nil)))
      (pss_mid (ps_if (pt_cmpR op_gt (pv 2) pe_int (nomark _))
        (pss_one (ps_set (i := 5) scTab.nd rfl (.inl rfl) (pe_call GC hr (by rfl) D.gC D.C.kp D.bC .nil pass0 (pa_cons (pv 5) (pa_cons
          (pe_call GM hr (by rfl) D.gM D.M.kp D.bM .nil pass0 (pa_cons (pv 0) (pa_cons (pe_listRg (by rfl) (by rfl) B.list (prg_1 (by rfl) B.range (pe_callB (lenK (K := K)) (by rfl) B.len PySem.boot_len (pa_cons (pv 5) pa_nil)))) pa_nil))) pa_nil))))) pss_nil)
      (pss_one (ps_ret (pe_ifExp (pt_cmpR op_eq (pv 2) pe_int (nomark _))
        (pe_call GG hr (by rfl) D.gG D.G.kp D.bG .nil pass0 (pa_cons (pv 0) (pa_cons (pv 5) pa_nil))) (pv 5))))))), ?_⟩
    obtain ⟨xs0, hp0⟩ := pot_lst hp
    refine ⟨.ref p, rfl, p, n, 6, rfl, hp, by omega, by decide, by decide, fun way H1 w0 w1 hp1 kp1 => ?_⟩
    refine ⟨.ref p, rfl, .int 16, rfl, p, n + 1, 16, rfl, hp1, by omega, by decide, by decide, fun sz H2 z0 z1 hp2 kp2 => ?_⟩
    refine ⟨1, sz, rfl, rfl, by show 2 ≤ sizeLine; decide, fun t nt => ?_⟩
    have st := same_upd (o := .tup [.int way, .int (1 + sz)]) nt
    refine ⟨t, _, rfl, SqT.of upd_same, rfl, _, _, rfl, _, _, rfl, rfl, ?_⟩
    have hp3 := hp2.same st
    have kp3 : Kp p H _ := kp1.trans (kp2.trans (.of st))
    generalize upd H2 t (.tup [.int way, .int (1 + sz)]) = H3 at st hp3 kp3 ⊢
    obtain ⟨m, em⟩ : ∃ m : Nat, 1 + sz = (m : Int) := ⟨(1 + sz).toNat, by omega⟩
    have m1 : 1 ≤ m := by omega
    have m16 : m ≤ 16 := by omega
    refine ⟨.int way, rfl, way, 3, rfl, rfl, _, rfl, ite2 (fun e => ?_) (fun e => ?_)⟩
    · have w3 : way < 3 := of_decide_eq_true e
      refine ⟨.int m, by rw [← em]; rfl, (m : Int), rfl, RgOk.of_le (by decide) (by omega) (by decide) (by omega), fun S nS => ?_⟩
      rw [rgV_range]
      have sS := same_upd (o := .lst ((rangeI m).map V.int)) nS
      have hS : upd H3 S (.lst ((rangeI m).map V.int)) S = some (.lst ((rangeI m).map V.int)) := upd_same
      have hp4 := hp3.same sS
      have kp4 := kp3.trans (.of sS)
      have nSp : S ≠ p := fun z => by
        obtain ⟨_, y⟩ := pot_lst hp3
        rw [z, y] at nS
        cases nS
      generalize upd H3 S (.lst ((rangeI m).map V.int)) = H4 at sS hS hp4 kp4 ⊢
      refine ⟨.ref S, rfl, S, rfl, ⟨_, SqL.of hS⟩, fun L nL => ?_⟩
      have sL := same_upd (o := .lst []) nL
      have nLp : L ≠ p := fun z => by
        obtain ⟨_, y⟩ := pot_lst hp4
        rw [z, y] at nL
        cases nL
      refine lc_list (K := K) (a := S) (xs := (rangeI m).map V.int) (fun i H5 => ∃ (ts : List Addr) (T2 : List (List Int)), H5 L = some (.lst (ts.map V.ref)) ∧ Rows H5 ts T2 ∧ T2.length = i ∧ (∀ row ∈ T2, Good m row) ∧ Pot H5 p (n + 1 + 1 + 17 * i) ∧ Kp p H4 H5)
        ⟨[], [], upd_same, .nil, rfl, fun row h => by simp at h, hp4.same sL, .of sL⟩ (fun i H5 _ h => ?_) ?_ ?_
      · obtain ⟨ts, T2, _, _, _, _, _, kp5⟩ := h
        exact SqL.of (kp5 _ _ nSp hS)
      · rintro i x H5 hx ⟨ts, T2, hL, hR, l2, gd, hp5, kp5⟩
        obtain ⟨y, hy, rfl⟩ := int_at hx
        have im : i < m := by
          have := (List.getElem?_eq_some_iff.mp hy).1
          rw [rangeI_length] at this
          exact this
        have lts : ts.length = i := by rw [Paired.length hR, l2]
        refine ⟨rfl, yesI ⟨.ref p, rfl, .ref S, rfl, .ref p, rfl, .int way, rfl, way, 2, rfl, rfl, p, _, way + 2, rfl, hp5, by omega, by omega, by omega, fun r Ha r0 r1 hpa kpa => ?_⟩⟩
        refine ⟨1, r, rfl, rfl, p, S, _, rangeI m, 1 + r, rfl, hpa, by rw [rangeI_length]; omega, SqL.of (kpa _ _ nSp (kp5 _ _ nSp hS)), nSp, by omega, by omega, fun o ms Hb no sub ho hpb kpb => ?_⟩
        have hLb := kpb _ _ nLp (kpa _ _ nLp hL)
        have noL : o ≠ L := ne_of ho hLb (by intro z; cases z)
        refine ⟨_, hLb, by rw [List.length_map]; exact lenLine (by omega), ts ++ [o], T2 ++ [ms], ?_, ?_, ?_, ?_, ?_, ?_⟩
        · rw [upd_same, List.map_append]
          rfl
        · exact Rows.kt (paired_append ((hR.kp kpa hp5).kp kpb hpa) (.cons ho .nil)) (KT.lst hLb)
        · rw [List.length_append, l2]
          rfl
        · intro row hr'
          rcases List.mem_append.mp hr' with z | z
          · exact gd row z
          · have z' : row = ms := List.mem_singleton.mp z
            rw [z']
            exact good_sub sub
        · obtain ⟨g, t', c, hq, rr1, rr2, rr3, rr4, rr5⟩ := hpb
          rw [rangeI_length] at rr5
          refine ⟨g, t', c, ?_, rr1, rr2, rr3, rr4, by omega⟩
          rw [upd_ne nLp.symm]
          exact hq
        · intro b ob nb hb
          rw [upd_ne (ne_of_none hb nL)]
          exact kpb _ _ nb (kpa _ _ nb (kp5 _ _ nb hb))
      · rintro H5 ⟨ts, T2, hL, hR, l2, gd, hp5, kp5⟩
        rw [List.length_map, rangeI_length] at l2 hp5
        refine ⟨L, _, rfl, .inl ⟨SqL.of hL, fun o no => ?_⟩⟩
        have so := same_upd (o := .tup (ts.map V.ref)) no
        exact q o T2 _ ((hp5.same so).mono (by omega)) (kp4.trans (kp5.trans (.of so))) ⟨ts, upd_same, hR.same so⟩ ⟨by omega, by omega, by rw [l2]; exact gd⟩
    · have w3 : ¬ way < 3 := fun z => e (decide_eq_true z)
      refine ⟨.ref p, rfl, by show 4 ≤ sizeLine; decide, fun u nu => ⟨u, rfl, ⟨_, SqT.of upd_same⟩, fun L nL => ?_⟩⟩
      have su := same_upd (o := .tup [.int 1, .int 2, .int 3, .int 4]) nu
      have hu : upd H3 u (.tup [.int 1, .int 2, .int 3, .int 4]) u = some (.tup [.int 1, .int 2, .int 3, .int 4]) := upd_same
      have hp4 := hp3.same su
      have kp4 := kp3.trans (.of su)
      generalize upd H3 u (.tup [.int 1, .int 2, .int 3, .int 4]) = H4 at su hu hp4 kp4 nL ⊢
      have sL := same_upd (o := .lst []) nL
      have nLp : L ≠ p := fun z => by
        obtain ⟨_, y⟩ := pot_lst hp4
        rw [z, y] at nL
        cases nL
      refine lc_tup (K := K) (a := u) (xs := [1, 2, 3, 4].map V.int) (fun i H5 => H5 L = some (.lst (([1, 2, 3, 4].take i).map V.int)) ∧ Same H4 H5)
        ⟨upd_same, sL⟩ (fun i H5 _ h => SqT.of (h.2 _ _ hu)) ?_ ?_
      · rintro i x H5 hx ⟨hL, s5⟩
        obtain ⟨y, hy, rfl⟩ := int_at hx
        have hym := List.mem_of_getElem? hy
        have yb : 1 ≤ y ∧ y ≤ 4 ∧ y * y ≤ 16 := by
          simp at hym
          obtain rfl | rfl | rfl | rfl := hym
          all_goals decide
        have il : i < 4 := (List.getElem?_eq_some_iff.mp hy).1
        refine ⟨rfl, .int y, rfl, .int y, rfl, y, y, rfl, rfl, .inl ⟨by omega, by omega⟩, .int 16, rfl, _, _, rfl, rfl, _, rfl, ?_⟩
        rw [decide_eq_true yb.2.2]
        refine iteT ⟨.int y, rfl, _, hL, ?_, ?_, ?_⟩
        · rw [List.length_map, List.length_take]
          exact lenLine (by omega)
        · rw [upd_same, List.take_add_one, hy, List.map_append]
          rfl
        · intro b ob hb
          rw [upd_ne (ne_of_none hb nL)]
          exact s5 _ _ hb
      · rintro H5 ⟨hL, s5⟩
        have hL' : H5 L = some (.lst ([1, 2, 3, 4].map V.int)) := hL
        have hp5 := hp4.same s5
        refine ⟨p, L, _, _, rfl, hp5, by omega, SqL.of hL', nLp, by simp, by simp, fun i v H6 hv hp6 kp6 => ?_⟩
        obtain ⟨y, hy, rfl⟩ := int_at hv
        have hym := List.mem_of_getElem? hy
        have yb : 1 ≤ y ∧ y ≤ 4 := by
          simp at hym
          obtain rfl | rfl | rfl | rfl := hym
          all_goals decide
        refine ⟨y.toNat, by rw [show ((y.toNat : Nat) : Int) = y by omega]; rfl, by omega, fun o H7 no s7 hT => ?_⟩
        have rule := named_rule (m := y.toNat) (by omega) (by omega)
        generalize ofPrs (prsTo y.toNat y.toNat) = T0 at hT rule
        have hp7 := hp6.same s7
        have kp7 : Kp p H H7 := kp4.trans ((Kp.of s5).trans (kp6.trans (.of s7)))
        refine ⟨fun σ H' => ∃ (z6 z7 : Option V) (b : Addr) (T : List (List Int)), σ = [some (.ref p), some (.int 16), some (.int way), some (.int m), none, some (.ref b), z6, z7] ∧ Tbl H' b T ∧ IsRule T ∧ Pot H' p (n + 100) ∧ Kp p H H', ?_, ?_⟩
        · refine ⟨.int way, rfl, way, 3, rfl, rfl, _, rfl, ite2 (fun e2 => ?_) (fun e2 => ?_)⟩
          · have hT' := hT
            obtain ⟨rs, ho, hR⟩ := hT'
            have lr : rs.length = T0.length := Paired.length hR
            have lr2 : ((rs.map V.ref).length : Int) = (T0.length : Nat) := by rw [List.length_map, lr]
            have r1 := rule.2.1
            refine ⟨.ref o, rfl, .ref p, rfl, .ref o, rfl, o, _, rfl, .inr (SqT.of ho), _, rfl, ?_, fun S nS => ?_⟩
            · rw [lr2]
              exact RgOk.of_le (by decide) (by omega) (by decide) (by omega)
            · rw [lr2, rgV_range] at *
              have sS := same_upd (o := .lst ((rangeI T0.length).map V.int)) nS
              refine ⟨p, S, _, rangeI T0.length, rfl, hp7.same sS, by rw [rangeI_length]; omega, SqL.of upd_same, fun c ms H8 nc pm hc hp8 kp8 => ?_⟩
              have hT8 := (hT.same sS).kp kp8 (hp7.same sS)
              refine ⟨o, c, T0, ms, rfl, hT8, .inl (SqL.of hc), by omega, pm, fun row hr' => ?_, fun p' T' H9 np' s9 hT9 cl => ?_⟩
              · have g := rule.2.2 row hr'
                have := g.len
                exact ⟨by omega, g.2⟩
              · refine ⟨none, none, p', T', ?_, hT9, called_rule rule pm cl, (hp8.same s9).mono (by rw [rangeI_length]; omega), kp7.trans ((Kp.of sS).trans (kp8.trans (.of s9)))⟩
                rw [← em]
                rfl
          · refine ⟨none, none, o, T0, ?_, hT, rule, hp7.mono (by omega), kp7⟩
            rw [← em]
            rfl
        · rintro σ H8 ⟨z6, z7, b, T, rfl, hT8, rule8, hp8, kp8⟩
          refine ⟨.int way, rfl, rfl, _, rfl, ite2 (fun e3 => ?_) (fun e3 => ?_)⟩
          · exact ⟨.ref p, rfl, .ref b, rfl, p, b, n + 100, T, rfl, hp8, by omega, hT8, rule8, fun c T' H9 nc hp9 kp9 hT9 r9 l9 => q c T' H9 (hp9.mono (by omega)) (kp8.trans kp9) hT9 r9⟩
          · exact ⟨.ref b, rfl, q b T H8 (hp8.mono (by omega)) kp8 hT8 rule8⟩
end
end Nm

/-! The end of a law whose defs ask repr: the caller's around has none under way. -/
namespace GL
open PySem PySem.Spec PyProof.Rows L2
theorem endG {P : Program} {w : World} {K : PySem.W.Frag} {mg mb : Str → Option Value} {k : Nat} {fa a : Addr} {fd : FuncData} {x : Str} {sp : Sp} {s1 : Shared}
    {vs : List Value} {ns : List Int} (kin : K.In s1.heap) (gl : s1.heap.Ns mainGlobals mg) (bl : s1.heap.Ns builtinsNs mb)
    (blb : ∀ x : Str, x ≠ "__name__" → mb x = bootBuiltins x) (nol : s1.heap.NoLimit) (gens : s1.gens = #[])
    (obj : s1.heap.get? a = some { cls := .type "list", data := .seq vs.toArray }) (hints0 : IntsAre vs ns) (few : ns.length ≤ sizeLine) (room : Room k callerA)
    (F : ∀ base : Heap, K.In base → base.Ns mainGlobals mg → FnG P w K mg base k fa fd [x] sp)
    (bind : ∀ (s : Shared) (u : Value), BindsTo s fd ⟨[u], []⟩ [(x, u)])
    (wish : ∀ H : Hp, SqL K H a (ns.map V.int) → sp [.ref a] H (fun v _ => v = .bl true) fun _ _ _ => False) :
    codeAny (model P w) callerA (.call (.ref fa) ⟨[.ref a], []⟩)
      (fun r s' => r = .ok (.ret (.bool true)) ∧ OldK s1.heap s'.heap ∧ s'.os = s1.os ∧ AllBare s'.gens) s1 := by
  have rel := vals_ints hints0
  have lens := hints0.length
  have main : ∀ H : Hp, (∀ b, H b = none ∨ (b = a ∧ ∃ o xs, H b = some (.frz o (.lst xs)))) → SqL K H a (ns.map V.int) → HOk P w H s1.heap → (H a ≠ none → K.lookup a = none) →
      codeAny (model P w) callerA (.call (.ref fa) ⟨[.ref a], []⟩)
        (fun r s' => r = .ok (.ret (.bool true)) ∧ OldK s1.heap s'.heap ∧ s'.os = s1.os ∧ AllBare s'.gens) s1 := by
    intro H only sq hok kl
    have noDict : ∀ {b : Addr} {o : Obj} {es : Array DictEntry} {ep : Nat}, s1.heap.get? b = some o → o.data = .dict es ep → H b = none := by
      intro b o es ep e d
      rcases only b with z | ⟨z, _⟩
      · exact z
      · rw [z, obj] at e
        cases e
        have d' : Data.seq vs.toArray _ = Data.dict es ep := d
        cases d'
    have ns' : ∀ {b : Addr} {m : Str → Option Value}, s1.heap.Ns b m → (hidT s1.heap H).Ns b m := by
      rintro b m ⟨o, es, ep, e, d, r⟩
      exact ⟨o, es, ep, hidT_get e (noDict e d), d, r⟩
    have kin' : K.In (hidT s1.heap H) := by
      intro b o e
      refine hidT_get (kin b o e) ?_
      rcases only b with z | ⟨z, o2, xs, y⟩
      · exact z
      · exfalso
        rw [z] at e y
        have n0 := kl (by rw [y]; intro q; cases q)
        rw [n0] at e
        cases e
    have mo : Mod K mg (hidT s1.heap H) := by
      obtain ⟨mc, h1, h2⟩ := nol
      exact ⟨kin', ns' gl, ⟨mb, ns' bl, blb⟩, ⟨mc, ns' h1, h2⟩⟩
    have env : Env0 P w K mg (hidT s1.heap H) callerA [] s1 H :=
      ⟨rfl, mo, fun b o e => of_hidT e, Nat.le_of_eq (hidT_size _ _), trivial, (fun b hb => by cases hb), hok, .of_eq gens⟩
    have go := (F _ kin' (ns' gl)).does callerA [] s1 H ⟨[.ref a], []⟩ [.ref a] [.ref a] _ _ rfl room env (bind s1 (.ref a)) (.cons rfl .nil) (wish H sq)
    refine codeAny_mono go fun r s' h => ?_
    rcases r with e | fl
    · exact h.elim
    · rcases fl with _ | _ | _ | u
      all_goals try exact False.elim h
      obtain ⟨v, H', os, bare, un, hok', r', q⟩ := h
      obtain rfl : v = .bl true := q
      obtain rfl : u = Value.bool true := r'
      refine ⟨rfl, OldK.of_keep fun b o e => ?_, os, bare⟩
      rcases only b with z | ⟨_, o2, xs, z⟩
      · exact un.keep b o e z (fun y => by cases y) (fun y => by cases y)
      · have z2 := un.frzs b o2 _ z
        obtain ⟨e1, _⟩ := hok b _ z
        obtain ⟨e2, _⟩ := hok' b _ z2
        rw [e] at e1
        cases e1
        exact e2
  rcases hk : K.lookup a with _ | o
  · refine main (fun b => if b = a then some (.frz { cls := .type "list", data := .seq vs.toArray } (.lst (ns.map V.int))) else none) (fun b => ?_) (.inl (.inr ⟨_, if_pos rfl⟩)) (fun b u z => ?_) fun _ => hk
    · by_cases e : b = a
      · exact .inr ⟨e, _, _, if_pos e⟩
      · exact .inl (if_neg e)
    · by_cases e : b = a
      · have y := (if_pos e).symm.trans z
        cases y
        subst e
        exact ⟨obj, by rw [List.length_map]; exact few, vs, _, rel, obj⟩
      · have y := (if_neg e).symm.trans z
        cases y
  · have e := kin a o hk
    rw [obj] at e
    cases e
    refine main (fun _ => none) (fun _ => .inl rfl) (.inr ⟨_, vs.toArray, _, hk, rfl, rfl, rfl, ?_, ?_⟩) (fun b u z => by cases z) fun z => absurd rfl z
    · rw [List.size_toArray, lens]
      exact few
    · simpa using rel
theorem walkG {l : PySem.W.OpenLaw} {n k : Nat} {q : Program} {loose : List Str} {XP : (Str → Option Value) → Heap → Prop} {YP : World → Heap → Prop} {d : DefRec}
    {K : Params → PySem.W.Frag} {sp : World → Sp} {x : Str} (hn : l.most = some n) (hn2 : n ≤ sizeLine) (hdf : d.params.defaults = []) (hr : Room k callerA)
    (hY : ∀ (w : World) (h : Heap), YP w h → (K w.params).In h)
    (F : ∀ (w : World) (mg : Str → Option Value) (fa : Addr) (h : Heap), (K w.params).In h → h.Ns mainGlobals mg → mg d.name = some (.ref fa) →
      ∃ fd : FuncData, (∀ (s : Shared) (u : Value), BindsTo s fd ⟨[u], []⟩ [(x, u)]) ∧
        ∀ base : Heap, (K w.params).In base → base.Ns mainGlobals mg → FnG l.prog w (K w.params) mg base k fa fd [x] (sp w))
    (hsp : ∀ (w : World) (H : Hp) (a : Addr) (ns : List Int), ns.length ≤ n → SqL (K w.params) H a (ns.map V.int) → sp w [.ref a] H (fun v _ => v = .bl true) fun _ _ _ => False) :
    PySem.W.WalkO q loose XP YP l.row.toRowW d [] (fun f vs => PySem.call f vs) := by
  apply Att.attach_call hn hdf
  intro w s0 s1 mg mb fa o pm cd doc a vs ns G Y ho hd hcd hmg hobj hints hlen hg
  obtain ⟨fd, hb, hF⟩ := F w mg fa _ (hY w _ Y) G.T.g hmg
  exact endG (hY w _ Y) G.T.g G.T.b G.T.builtins G.T.nolimit hg hobj hints (Nat.le_trans hlen hn2) hr hF hb fun H hS => hsp w H a ns hlen hS
end GL

namespace Nm
open PySem PySem.Spec PyProof.Rows L2 GL
/-! ### what repr shows -/
def rowD (row : List Int) : PyData := .tuple (row.map PyData.int)
def tblD (T : List (List Int)) : PyData := .tuple (T.map rowD)
theorem dpRow {K : PySem.W.Frag} {H : Hp} {a : Addr} {row : List Int} (h : H a = some (.tup (row.map V.int))) : Dp K H (.ref a) (rowD row) := .tup (SqT.of h) (dpInts row)
theorem dpRows {K : PySem.W.Frag} {H : Hp} : ∀ {rs : List Addr} {T : List (List Int)}, Rows H rs T → DpAll K H (rs.map V.ref) (T.map rowD)
  | _, _, .nil => .nil
  | _, _, .cons h r => .cons (dpRow h) (dpRows r)
theorem dpTbl {K : PySem.W.Frag} {H : Hp} {p : Addr} {T : List (List Int)} (h : Tbl H p T) : Dp K H (.ref p) (tblD T) := by
  obtain ⟨rs, e, r⟩ := h
  exact .tup (SqT.of e) (dpRows r)
/-- small: numbers from 0 to 15 -/
def Sm (row : List Int) : Prop := ∀ x ∈ row, 0 ≤ x ∧ x < 16
theorem num_shown {i : Int} (h0 : 0 ≤ i) (h1 : i < 16) : (PyData.shown (.int i)).length ≤ 2 ∧ PyData.showable (.int i) = true := by
  obtain ⟨n, rfl⟩ : ∃ n : Nat, i = n := ⟨i.toNat, by omega⟩
  have all : ∀ n : Fin 16, (PyData.shown (.int (n.val : Int))).length ≤ 2 ∧ PyData.showable (.int (n.val : Int)) = true := by decide +kernel
  exact all ⟨n, by omega⟩
theorem row_piled : ∀ (row : List Int), Sm row → piled (PyData.shownAll (row.map PyData.int)) ≤ 4 * row.length ∧ PyData.showableAll (row.map PyData.int) = true ∧ PyData.hasDictAll (row.map PyData.int) = false
  | [], _ => by simp [PyData.shownAll, PyData.showableAll, PyData.hasDictAll, piled_nil]
  | x :: r, h => by
    have h1 := num_shown (h x List.mem_cons_self).1 (h x List.mem_cons_self).2
    have ih := row_piled r fun y hy => h y (List.mem_cons_of_mem _ hy)
    refine ⟨?_, ?_, ?_⟩
    · rw [List.map_cons, PyData.shownAll, piled_cons, List.length_cons]
      omega
    · simp [PyData.showableAll, h1.2, ih.2.1]
    · simp [PyData.hasDictAll, PyData.hasDict, ih.2.2]
structure Shows (d : PyData) (n : Nat) : Prop where
  ok : d.showable = true
  nd : d.hasDict = false
  len : d.shown.length ≤ n
theorem shows_row {row : List Int} (h : Sm row) : Shows (rowD row) (4 * row.length + 2) := by
  obtain ⟨h1, h2, h3⟩ := row_piled row h
  refine ⟨by simpa [rowD, PyData.showable] using h2, by simpa [rowD, PyData.hasDict] using h3, ?_⟩
  have := fmt_text (PyData.shownAll (row.map PyData.int))
  show (tupleText (PyData.shownAll (row.map PyData.int))).length ≤ _
  omega
theorem rows_piled : ∀ (T : List (List Int)), (∀ row ∈ T, Sm row ∧ row.length ≤ 16) → piled (PyData.shownAll (T.map rowD)) ≤ 70 * T.length ∧ PyData.showableAll (T.map rowD) = true ∧ PyData.hasDictAll (T.map rowD) = false
  | [], _ => by simp [PyData.shownAll, PyData.showableAll, PyData.hasDictAll, piled_nil]
  | row :: T, h => by
    have h0 := h row List.mem_cons_self
    have h1 := shows_row h0.1
    have ih := rows_piled T fun y hy => h y (List.mem_cons_of_mem _ hy)
    have l1 := h1.len
    refine ⟨?_, ?_, ?_⟩
    · rw [List.map_cons, PyData.shownAll, piled_cons, List.length_cons]
      omega
    · simp [PyData.showableAll, h1.ok, ih.2.1]
    · simp [PyData.hasDictAll, h1.nd, ih.2.2]
theorem shows_tbl {T : List (List Int)} (h : ∀ row ∈ T, Sm row ∧ row.length ≤ 16) : Shows (tblD T) (70 * T.length + 2) := by
  obtain ⟨h1, h2, h3⟩ := rows_piled T h
  refine ⟨by simpa [tblD, PyData.showable] using h2, by simpa [tblD, PyData.hasDict] using h3, ?_⟩
  have := fmt_text (PyData.shownAll (T.map rowD))
  show (tupleText (PyData.shownAll (T.map rowD))).length ≤ _
  omega
theorem shows_three {a b c : PyData} {l m n : Nat} (ha : Shows a l) (hb : Shows b m) (hc : Shows c n) : Shows (.tuple [a, b, c]) (l + m + n + 8) := by
  refine ⟨by simp [PyData.showable, PyData.showableAll, ha.ok, hb.ok, hc.ok], by simp [PyData.hasDict, PyData.hasDictAll, ha.nd, hb.nd, hc.nd], ?_⟩
  have h1 := fmt_text (PyData.shownAll [a, b, c])
  have h2 : piled (PyData.shownAll [a, b, c]) = (a.shown.length + 2) + ((b.shown.length + 2) + ((c.shown.length + 2) + 0)) := by
    simp only [PyData.shownAll, piled_cons, piled_nil]
  have e1 := ha.len
  have e2 := hb.len
  have e3 := hc.len
  show (tupleText (PyData.shownAll [a, b, c])).length ≤ _
  omega
theorem depth_row (row : List Int) : (rowD row).depth = 1 := by simp [rowD, PyData.depth, deepInts]
theorem depth_rows : ∀ T : List (List Int), PyData.depthAll (T.map rowD) ≤ 1
  | [] => by simp [PyData.depthAll]
  | row :: T => by
    have := depth_rows T
    rw [List.map_cons, PyData.depthAll, depth_row]
    omega
theorem depth_tbl (T : List (List Int)) : (tblD T).depth ≤ 2 := by
  have := depth_rows T
  rw [tblD, PyData.depth]
  omega
theorem lineBig {n : Nat} (h : n ≤ 100000) : n ≤ sizeLine := Nat.le_trans h (by decide)
theorem good_sm {n : Nat} {row : List Int} (h : Good n row) (hn : n ≤ 16) : Sm row ∧ row.length ≤ 16 := by
  have := h.len
  exact ⟨fun x hx => ⟨(h.2 x hx).1, by have := (h.2 x hx).2; omega⟩, by omega⟩
theorem rule_sm {T : List (List Int)} (r : IsRule T) : ∀ row ∈ T, Sm row ∧ row.length ≤ 16 := fun row h => good_sm (r.2.2 row h) r.2.1
/-- repr of a table -/
structure ShT (T : List (List Int)) : Prop where
  a : (tblD T).showable = true
  b : (tblD T).hasDict = false
  c : (tblD T).depth ≤ 20
  d : (tblD T).shown.length ≤ sizeLine
theorem shT {T : List (List Int)} (r : IsRule T) : ShT T := by
  have s := shows_tbl (rule_sm r)
  have dt := depth_tbl T
  have l := s.len
  have := r.2.1
  exact ⟨s.ok, s.nd, by omega, lineBig (by omega)⟩
end Nm

namespace GL
open PySem PySem.Spec PyProof.Rows L2
/-! ### data of any kind, heaps that grow -/
mutual
theorem dpS {K : PySem.W.Frag} {H H' : Hp} (s : Same H H') : ∀ (d : PyData) (v : V), Dp K H v d → Dp K H' v d
  | .none, _, h => by cases h; exact .non
  | .bool _, _, h => by cases h; exact .bl _
  | .int _, _, h => by cases h; exact .int _
  | .str _, _, h => by cases h; exact .str _
  | .list ds, _, h => by
    cases h with
    | lst hs ha => exact .lst (s.seq hs) (dpSA s ds _ ha)
  | .tuple ds, _, h => by
    cases h with
    | tup hs ha => exact .tup (Nm.Same.seqT s hs) (dpSA s ds _ ha)
  | .dict _, _, h => by cases h
theorem dpSA {K : PySem.W.Frag} {H H' : Hp} (s : Same H H') : ∀ (ds : List PyData) (vs : List V), DpAll K H vs ds → DpAll K H' vs ds
  | [], _, h => by cases h; exact .nil
  | d :: ds, _, h => by
    cases h with
    | cons h1 h2 => exact .cons (dpS s d _ h1) (dpSA s ds _ h2)
end
theorem DpAll.len {K : PySem.W.Frag} {H : Hp} : ∀ {vs : List V} {ds : List PyData}, DpAll K H vs ds → vs.length = ds.length
  | _, _, .nil => rfl
  | _, _, .cons _ t => by
    have := DpAll.len t
    simp [this]
theorem DpAll.at {K : PySem.W.Frag} {H : Hp} : ∀ {vs : List V} {ds : List PyData} {i : Nat} {v : V}, DpAll K H vs ds → vs[i]? = some v → ∃ d, ds[i]? = some d ∧ Dp K H v d
  | _, _, i, _, .nil, h => by simp at h
  | _, _, 0, _, .cons a t, h => by
    cases h
    exact ⟨_, rfl, a⟩
  | _, _, i + 1, _, .cons a t, h => DpAll.at (i := i) t (by simpa using h)
theorem DpAll.app {K : PySem.W.Frag} {H : Hp} : ∀ {vs ws : List V} {ds es : List PyData}, DpAll K H vs ds → DpAll K H ws es → DpAll K H (vs ++ ws) (ds ++ es)
  | _, _, _, _, .nil, h => h
  | _, _, _, _, .cons a t, h => .cons a (DpAll.app t h)
theorem DpAll.take {K : PySem.W.Frag} {H : Hp} : ∀ {vs : List V} {ds : List PyData} (n : Nat), DpAll K H vs ds → DpAll K H (vs.take n) (ds.take n)
  | _, _, 0, _ => by rw [List.take_zero, List.take_zero]; exact .nil
  | _, _, n + 1, .nil => .nil
  | _, _, n + 1, .cons a t => .cons a (DpAll.take n t)
theorem DpAll.drop {K : PySem.W.Frag} {H : Hp} : ∀ {vs : List V} {ds : List PyData} (n : Nat), DpAll K H vs ds → DpAll K H (vs.drop n) (ds.drop n)
  | _, _, 0, h => h
  | _, _, n + 1, .nil => .nil
  | _, _, n + 1, .cons a t => DpAll.drop n t
theorem DpAll.rev {K : PySem.W.Frag} {H : Hp} : ∀ {vs : List V} {ds : List PyData}, DpAll K H vs ds → DpAll K H vs.reverse ds.reverse
  | _, _, .nil => .nil
  | _, _, .cons a t => by
    rw [List.reverse_cons, List.reverse_cons]
    exact DpAll.app (DpAll.rev t) (.cons a .nil)
/-- a heap without the place p -/
def rm (H : Hp) (p : Addr) : Hp := fun a => if a = p then none else H a
theorem rm_sub {H : Hp} {p : Addr} : Same (rm H p) H := fun b o h => by
  unfold rm at h
  split at h
  · cases h
  · exact h
theorem rm_of {H : Hp} {p a : Addr} {o : HO} (n : a ≠ p) (h : H a = some o) : rm H p a = some o := by
  unfold rm
  rw [if_neg n]
  exact h
theorem rm_kp {H H' : Hp} {p : Addr} (k : Nm.Kp p H H') : Same (rm H p) (rm H' p) := fun b o h => by
  unfold rm at h
  split at h
  · cases h
  · exact rm_of ‹_› (k _ _ ‹_› h)
/-- what of H' was not there in H -/
def nw (H H' : Hp) : Hp := fun a => if (H a).isNone = true then H' a else none
theorem nw_sub {H H' : Hp} : Same (nw H H') H' := fun b o h => by
  unfold nw at h
  split at h
  · exact h
  · cases h
theorem nw_of {H H' : Hp} {a : Addr} {o : HO} (n : H a = none) (h : H' a = some o) : nw H H' a = some o := by
  unfold nw
  rw [n]
  exact h
theorem nw_grow {H H1 H2 : Hp} (s : Same H1 H2) : Same (nw H H1) (nw H H2) := fun b o h => by
  unfold nw at h
  split at h
  · unfold nw
    rw [if_pos ‹_›]
    exact s _ _ h
  · cases h
theorem none_back {H H1 : Hp} (s : Same H H1) {a : Addr} (h : H1 a = none) : H a = none := by
  rcases e : H a with _ | o
  · rfl
  · rw [s _ _ e] at h
    cases h
theorem nw_back {H H1 H2 : Hp} (s : Same H H1) : Same (nw H1 H2) (nw H H2) := fun b o h => by
  unfold nw at h
  split at h
  · have e : H1 b = none := by
      rcases e : H1 b with _ | o
      · rfl
      · rename_i z
        rw [e] at z
        cases z
    exact nw_of (none_back s e) h
  · cases h
theorem nw_rm {H H' : Hp} {p : Addr} {o : HO} (h : H p = some o) : Same (nw H H') (rm H' p) := fun b u e => by
  unfold nw at e
  split at e
  · refine rm_of (fun z => ?_) e
    rename_i y
    rw [z, h] at y
    cases y
  · cases e
/-! ### displays that are data -/
section
variable {X : Cx}
def tLit (K : PySem.W.Frag) (d : PyData) : TE := fun _ H Q => ∀ (v : V) (H' : Hp), Same H H' → Dp K (nw H H') v d → Q v H'
def tLits (K : PySem.W.Frag) (ds : List PyData) : TA := fun _ H Q => ∀ (vs : List V) (H' : Hp), Same H H' → DpAll K (nw H H') vs ds → Q vs H'
theorem PE.weak {e : Expr} {t t' : TE} (h : PE X e t) (i : ∀ σ H Q, t' σ H Q → t σ H Q) : PE X e t' := ⟨fun pins s σ H Q I q => h.run pins s σ H Q I (i _ _ _ q)⟩
theorem PA.weak {es : List Expr} {t t' : TA} (h : PA X es t) (i : ∀ σ H Q, t' σ H Q → t σ H Q) : PA X es t' := ⟨fun pos pins s σ H Q I q => h.run pos pins s σ H Q I (i _ _ _ q)⟩
variable {K : PySem.W.Frag}
theorem lt_non {k : Nat} {pos : Pos} : PE X (.Constant .none k pos) (tLit K .none) := PE.weak pe_non fun _ H Q q => q _ H (Same.refl _) .non
theorem lt_bl {k : Nat} {pos : Pos} {b : Bool} : PE X (.Constant (.bool b) k pos) (tLit K (.bool b)) := PE.weak pe_bl fun _ H Q q => q _ H (Same.refl _) (.bl b)
theorem lt_int {k : Nat} {pos : Pos} {i : Int} : PE X (.Constant (.int i) k pos) (tLit K (.int i)) := PE.weak pe_int fun _ H Q q => q _ H (Same.refl _) (.int i)
theorem lt_neg {k : Nat} {p1 pos : Pos} {i : Int} : PE X (.UnaryOp .USub (.Constant (.int i) k p1) pos) (tLit K (.int (-i))) := PE.weak (pe_un un_neg pe_int) fun _ H Q q => ⟨_, rfl, q _ H (Same.refl _) (.int (-i))⟩
theorem lt_str {k : Nat} {pos : Pos} {x : Str} : PE X (.Constant (.str x) k pos) (tLit K (.str x)) := PE.weak pe_str fun _ H Q q => q _ H (Same.refl _) (.str x)
theorem lts_nil : PA X [] (tLits K []) := PA.weak pa_nil fun _ H Q q => q _ H (Same.refl _) .nil
theorem lts_cons {e : Expr} {es : List Expr} {d : PyData} {ds : List PyData} (h : PE X e (tLit K d)) (r : PA X es (tLits K ds)) (hs : starEach (e :: es) X.env = (false, eval e X.env) :: starEach es X.env := by rfl) : PA X (e :: es) (tLits K (d :: ds)) :=
  PA.weak (pa_cons h r hs) fun _ H Q q v H1 s1 d1 vs H2 s2 d2 => q (v :: vs) H2 (s1.trans s2) (.cons (dpS (nw_grow s2) _ _ d1) (dpSA (nw_back s1) _ _ d2))
theorem lt_tup {es : List Expr} {j : Nat} {pos : Pos} {ds : List PyData} (h : PA X es (tLits K ds)) (hz : ds.length ≤ 1000 := by decide) : PE X (.Tuple es j pos) (tLit K (.tuple ds)) :=
  PE.weak (pe_tup h) fun _ H Q q vs H1 s1 d1 => by
    have l := DpAll.len d1
    refine ⟨Nat.le_trans (by omega : vs.length ≤ 1000) (by decide), fun t nt => q _ _ (s1.trans (Nm.same_upd nt)) (.tup (SqT.of (nw_of (none_back s1 nt) upd_same)) (dpSA (nw_grow (Nm.same_upd nt)) _ _ d1))⟩
theorem lt_lst {es : List Expr} {pos : Pos} {ds : List PyData} (h : PA X es (tLits K ds)) (hz : ds.length ≤ 1000 := by decide) : PE X (.List es pos) (tLit K (.list ds)) :=
  PE.weak (pe_lst h) fun _ H Q q vs H1 s1 d1 => by
    have l := DpAll.len d1
    refine ⟨Nat.le_trans (by omega : vs.length ≤ 1000) (by decide), fun t nt => q _ _ (s1.trans (Nm.same_upd nt)) (.lst (SqL.of (nw_of (none_back s1 nt) upd_same)) (dpSA (nw_grow (Nm.same_upd nt)) _ _ d1))⟩
end
/-! ### repr of data of any kind, and of {} -/
section
variable {X : Cx}
theorem reprA {K : PySem.W.Frag} (gu : X.A.guards = some []) (hu : X.A.units + 64 < cLine) (hK : X.K = K := by rfl) :
    CallR X (.builtin "repr") (fun xs H Q => ∃ v d, xs = [v] ∧ Dp K H v d ∧ d.showable = true ∧ d.hasDict = false ∧ d.depth ≤ 20 ∧ d.shown.length ≤ sizeLine ∧ Q (.str d.shown) H) := by
  subst hK
  intro pins s σ H xs us Q I r h
  obtain ⟨v, d, rfl, dp, sh, nd, de, sz, q⟩ := h
  obtain ⟨u, rfl, ru⟩ := vals1 r
  obtain ⟨as, rd⟩ := Dp.reads I d v u dp ru
  have go : ∀ (a : Addr), u = .ref a → wpAny (model X.prog X.w) X.A (call (.builtin "repr") [u]) (EP X pins σ Q) X.xe s := fun a e => by
    subst e
    refine repr_of_reads' (h₀ := s.heap) rd sh (PyData.noDict_hsm nd) gu (by omega) (fun _ _ z => z) ?_ sz
    intro h' u tk kp
    exact ⟨.str _, H, I.kept kp, ⟨_, rfl⟩, q⟩
  cases dp with
  | non =>
    cases (show u = Value.none from ru)
    exact PySem.P.repr_of_none ⟨.str _, H, I.tok _, ⟨_, rfl⟩, q⟩
  | bl b =>
    cases (show u = Value.bool b from ru)
    exact PySem.P.repr_of_bool ⟨.str _, H, I.tok _, ⟨_, rfl⟩, by cases b <;> exact q⟩
  | int i =>
    obtain ⟨t, rfl⟩ := ru
    exact PySem.P.repr_of_int (by simpa [PyData.showable] using sh) ⟨.str _, H, I.tok _, ⟨_, rfl⟩, q⟩
  | str x =>
    obtain ⟨t, rfl⟩ := ru
    exact PySem.P.repr_of_str ⟨.str _, H, I.tok _, ⟨_, rfl⟩, q⟩ sz
  | lst hs ha => exact go _ ru
  | tup hs ha => exact go _ ru
theorem reprD {K : PySem.W.Frag} (gu : X.A.guards = some []) (hu : X.A.units + 64 < cLine) (hK : X.K = K := by rfl) :
    CallR X (.builtin "repr") (fun xs H Q => ∃ a, xs = [.ref a] ∧ H a = some (.dK []) ∧ Q (.str (PyData.dict []).shown) H) := by
  subst hK
  intro pins s σ H xs us Q I r h
  obtain ⟨a, rfl, ha, q⟩ := h
  obtain ⟨u, rfl, rfl⟩ := vals1 r
  obtain ⟨_, sy, vs, kv, o, es, ep, h1, h2, h3, _, h4, _⟩ := I.hok a _ ha
  cases kv
  have he : es.toList = [] := by
    cases e : es.toList with
    | nil => rfl
    | cons x r =>
      rw [e] at h4
      cases h4
  have rd : Reads s.heap (.ref a) (.dict []) [a] := Reads.dict (as := []) (bs := []) h1 h2.1 h3 (by rw [he]; exact .nil) (by rw [he]; exact .nil)
  refine repr_of_reads' (h₀ := s.heap) rd rfl (fun _ z => ?_) gu (by simp [PyData.depth, PyData.depthKv]; omega) (fun _ _ z => z) ?_ (by decide +kernel)
  · rw [List.mem_singleton.mp z] at sy
    simp at sy
  intro h' u tk kp
  exact ⟨.str _, H, I.kept kp, ⟨_, rfl⟩, q⟩
/-! ### t[::-1] -/
def tRevT (K : PySem.W.Frag) (te : TE) : TE := fun σ H Q => te σ H fun x H1 => ∃ a xs, x = .ref a ∧ SqT K H1 a xs ∧ ∀ p, H1 p = none → Q (.ref p) (upd H1 p (.tup xs.reverse))
theorem pick_back (xs : Array Value) : ((List.range xs.size).filterMap fun (k : Nat) => xs[(((xs.size : Int) - 1) + (k : Int) * (-1)).toNat]?).toArray = xs.toList.reverse.toArray := by
  have e : (List.range xs.size).filterMap (fun (k : Nat) => xs[(((xs.size : Int) - 1) + (k : Int) * (-1)).toNat]?) = ((List.range xs.size).map fun k => xs.size - 1 - k).filterMap (xs[·]?) := by
    rw [List.filterMap_map]
    have aux : ∀ (l : List Nat) (f g : Nat → Option Value), (∀ k ∈ l, f k = g k) → l.filterMap f = l.filterMap g := fun l f g => by
      induction l with
      | nil => intro _; rfl
      | cons a l ih =>
        intro h
        rw [List.filterMap_cons, List.filterMap_cons, h a List.mem_cons_self, ih fun k hk => h k (List.mem_cons_of_mem _ hk)]
    refine aux _ _ _ fun k hk => ?_
    have hl := List.mem_range.mp hk
    have : (((xs.size : Int) - 1) + (k : Int) * (-1)).toNat = xs.size - 1 - k := by omega
    show xs[(((xs.size : Int) - 1) + (k : Int) * (-1)).toNat]? = xs[xs.size - 1 - k]?
    rw [this]
  rw [e, PySem.W.krv_range, List.filterMap_reverse, PySem.W.krv_all]
section
variable {prog : Program} {w : World} {A : Around} {E : Value → Shared → Prop} {s : Shared}
theorem sliceApplied_back {sl : Addr} {vl vu vs : Value} {n : Nat} {Q : Int × Int × Nat → Shared → Prop} (hs : s.heap.IsSliceOf sl vl vu vs) (pl : IsPart vl none) (pu : IsPart vu none) (ps : IsPart vs (some (-1)))
    (h : Q ((n : Int) - 1, -1, n) s) : wpAny (model prog w) A (Builtin.Slice.sliceApplied (.ref sl) (pure (n : Int))) Q E s := by
  obtain ⟨os, hos, hcs, hds⟩ := id hs
  unfold Builtin.Slice.sliceApplied Builtin.Slice.sliceFields
  refine wpAny_bind (wpAny_bind (wpAny_field hos hds (x := vl) rfl (wpAny_bind (wpAny_field hos hds (x := vu) rfl (wpAny_bind (wpAny_field hos hds (x := vs) rfl (wpAny_pure ?_)))))))
  refine wpAny_bind (HT.slicePart_ ps ?_)
  show wpAny _ _ (if ((-1 : Int) == 0) = true then _ else _) _ _ s
  rw [if_neg (by decide)]
  refine wpAny_bind (HT.slicePart_ pl (wpAny_bind (HT.slicePart_ pu (wpAny_bind (wpAny_pure ?_)))))
  have e : Builtin.Slice.slicePlaces ((n : Int) - 1) (-1) (-1) = n := by
    unfold Builtin.Slice.slicePlaces
    have h1 : ¬ ((-1 : Int) > 0) := by decide
    simp only [h1, if_false]
    split
    · rw [show (- -1 : Int) = 1 by decide, Int.ediv_one]
      omega
    · omega
  show wpAny _ _ (pure ((n : Int) - 1, (-1 : Int), Builtin.Slice.slicePlaces ((n : Int) - 1) (-1) (-1))) _ _ s
  rw [e]
  exact wpAny_pure h
theorem getItem_tuple_back {t sl : Addr} {items : Array Value} {vl vu vs : Value} {Q : Value → Shared → Prop} (ht : IsTup s.heap t items) (hs : s.heap.IsSliceOf sl vl vu vs) (pl : IsPart vl none) (pu : IsPart vu none) (ps : IsPart vs (some (-1)))
    (h : Q (.ref s.heap.objs.size) { s with heap := s.heap.push { cls := .type "tuple", data := .seq items.toList.reverse.toArray } })
    (hsz : items.size ≤ sizeLine) : wpAny (model prog w) A (getItem (.ref t) (.ref sl)) Q E s := by
  have htake : sizeOk (.seq items.toList.reverse.toArray) := by
    show items.toList.reverse.toArray.size ≤ sizeLine
    rw [List.size_toArray, List.length_reverse, Array.length_toList]
    exact hsz
  obtain ⟨os, hos, hcs, hds⟩ := id hs
  have hTs : s.TypeIs (.ref sl) "slice" := ⟨os, hos, hcs⟩
  unfold getItem
  try with_reducible refine wpAny_holding ?_
  first | refine wpAny_bind (wpAny_pure ?_) | skip
  refine wpAny_bind (wpAny_sequenceKey ht.typeIs (by decide) ?_)
  refine wpAny_bind (wpAny_callSpecial?_slot (name := Str.ofString "__getitem__") ht.typeIs PyProof.Rows.slot_tuple_getitem
    (wpAny_call_entry PyProof.Rows.slot_tuple_getitem ht.typeIs entry_tuple_getitem ?_ (args_tuple_getitem _ _)))
  show wpAny _ _ (Builtin.Tuple.tupleItemsOf (.ref t) >>= _) _ _ s
  refine wpAny_bind (tupleItemsOf_ ht ?_)
  refine wpAny_bind (wpAny_typeOf hTs ?_)
  rw [if_pos (by decide)]
  refine wpAny_bind (sliceApplied_back hs pl pu ps ?_)
  have hno : ¬ ((((items.size : Int) - 1) == 0 && (-1 : Int) == 1 && items.size == items.size) = true) := by simp
  show wpAny _ _ (if (((items.size : Int) - 1) == 0 && (-1 : Int) == 1 && items.size == items.size) = true then _ else _) _ _ s
  rw [if_neg hno, pick_back]
  first
    | exact wpAny_bind (m := Builtin.Tuple.tupleExact _) (wpAny_newObj_type (wpAny_pure ⟨_, rfl, wpAny_pure h⟩) htake)
    | exact wpAny_bind (m := Builtin.Tuple.tupleExact _) (wpAny_newObj_type (wpAny_bind (wpAny_pure (wpAny_pure ⟨_, rfl, wpAny_pure h⟩))) htake)
    | exact wpAny_bind (wpAny_bind (m := Builtin.Tuple.tupleExact _) (wpAny_newObj_type (wpAny_pure (wpAny_pure ⟨_, rfl, wpAny_pure h⟩)) htake))
    | exact wpAny_bind (wpAny_bind (m := Builtin.Tuple.tupleExact _) (wpAny_newObj_type (wpAny_pure ⟨_, rfl, wpAny_pure h⟩) htake))
end
theorem pe_revT {K : PySem.W.Frag} {e : Expr} {te : TE} {k : Nat} {p1 p2 p3 pos : Pos} (he : PE X e te) (hK : X.K = K := by rfl) : PE X (.Subscript e (.Slice none none (some (.UnaryOp .USub (.Constant (.int 1) k p1) p2)) p3) pos) (tRevT K te) := by
  subst hK
  refine ⟨fun pins s σ H Q I h => ?_⟩
  refine Subscript_ (thn (he.run pins s σ H _ I h) fun v s1 ⟨x, H1, I1, r1, q1⟩ => ?_)
  obtain ⟨a, xs, ex, hx, q⟩ := q1
  subst ex
  cases r1
  have hst : PO X (some (.UnaryOp .USub (.Constant (.int 1) k p1) p2)) (tPart (tUn (rU fun i => .int (-i)) (tC (.int 1)))) := po_some (pe_un un_neg pe_int)
  refine wpAny_Slice (thn (po_none.run pins s1 σ H1 (fun o H2 => o = none ∧ H2 = H1) I1 ⟨rfl, rfl⟩) fun vl s2 ⟨l, H2, I2, pl, el, e2⟩ => ?_)
  subst el e2
  refine thn (po_none.run pins s2 σ H2 (fun o H3 => o = none ∧ H3 = H2) I2 ⟨rfl, rfl⟩) fun vu s3 ⟨u, H3, I3, pu, eu, e3⟩ => ?_
  subst eu e3
  refine thn (hst.run pins s3 σ H3 (fun o H4 => o = some (-1) ∧ H4 = H3) I3 ⟨1, rfl, -1, rfl, rfl, rfl⟩) fun vs s4 ⟨o, H4, I4, ps, eo, e4⟩ => ?_
  subst eo e4
  have I5 : Inv X pins σ H4 { s4 with heap := s4.heap.push { cls := .type "slice", data := .fields #[vl, vu, vs] } } := I4.kept (t' := s4.toks) fun b ob q => Heap.get?_push_of_some _ q
  obtain ⟨its, r, ht, hz⟩ := I5.tuple hx
  have hlen := r.length
  show wpAny (model X.prog X.w) X.A (subscriptTail e (.Slice none none (some (.UnaryOp .USub (.Constant (.int 1) k p1) p2)) p3) (.ref a) (.ref s4.heap.objs.size)) (EP X pins σ Q) X.xe { s4 with heap := s4.heap.push { cls := .type "slice", data := .fields #[vl, vu, vs] } }
  refine tail_any (ops := [.ref a, .ref s4.heap.objs.size]) ht.typeIs (PyProof.Rows.slot_tuple_getitem.lookup) ?_ (by with_unfolding_all rfl)
  refine getItem_tuple_back ht (Heap.IsSliceOf.new _ vl vu vs) pl pu ps ?_ (by rw [List.size_toArray]; omega)
  refine ⟨.ref _, _, I5.laid (t' := s4.toks) (o := .tup xs.reverse) (fun b ob q => Heap.get?_push_of_some _ q) (Nat.le_refl _) ?_, rfl, q _ (I5.hok.fresh (Nat.le_refl _))⟩
  exact ⟨by rw [List.length_reverse]; exact hz, its.reverse, r.reverse, by have z := IsTup.new (s4.heap.push { cls := .type "slice", data := .fields #[vl, vu, vs] }) its.reverse.toArray; simpa using z⟩
/-! ### set(t), t a tuple of ints -/
theorem setTI {K : PySem.W.Frag} (hc : X.calm = true) (hK : X.K = K := by rfl) : CallR X (.type "set") (fun xs H Q => ∃ (l : Addr) (ns : List Int), xs = [V.ref l] ∧ SqT K H l (ns.map V.int) ∧ ns.length < 1000 ∧
    ∀ (a : Addr) (c : Nat), H a = none → c ≤ ns.length → Q (.ref a) (upd H a (SetO X.w a (fun j => decide (j ∈ ns)) c))) := by
  subst hK
  intro pins s σ H xs us Q I r h
  obtain ⟨l, ns, rfl, hl, hz, q⟩ := h
  rw [Vals.ref1 r]
  obtain ⟨its, rv, tp, _⟩ := I.tuple hl
  refine call_set_tupI (P := X.prog) (w := X.w) ns (I.ok.hd hc) tp (by simpa using intsAre_of rv) (Nat.lt_of_le_of_lt (by omega : ns.length + 1 ≤ 1001) (by decide)) fun h' tk c R hc' kp => ?_
  exact ⟨.ref s.heap.objs.size, _, I.laid (t' := tk) kp (Nat.le_refl _) (setO_new R), rfl, q _ c (I.hok.fresh (Nat.le_refl _)) hc'⟩
end
end GL
namespace Nm
open PySem PySem.Spec PyProof.Rows L2 GL
/-! ### small data -/
def Fit : Nat → PyData → Prop
  | _, .none => True
  | _, .bool _ => True
  | _, .int i => -100 < i ∧ i < 100
  | _, .str x => (PyData.str x).shown.length ≤ 20
  | n + 1, .tuple ds => ds.length ≤ 40 ∧ ∀ x ∈ ds, Fit n x
  | n + 1, .list ds => ds.length ≤ 40 ∧ ∀ x ∈ ds, Fit n x
  | _, _ => False
def big : Nat → Nat
  | 0 => 20
  | n + 1 => 40 * (big n + 2) + 3
structure Fine (d : PyData) (n b : Nat) : Prop where
  ok : d.showable = true
  nd : d.hasDict = false
  dp : d.depth ≤ n
  len : d.shown.length ≤ b
theorem int_fine {i : Int} (h : -100 < i ∧ i < 100) : (PyData.shown (.int i)).length ≤ 20 ∧ PyData.showable (.int i) = true := by
  have all : ∀ n : Fin 200, (PyData.shown (.int ((n.val : Int) - 100))).length ≤ 20 ∧ PyData.showable (.int ((n.val : Int) - 100)) = true := by decide +kernel
  have z := all ⟨(i + 100).toNat, by omega⟩
  rw [show (((i + 100).toNat : Nat) : Int) - 100 = i by omega] at z
  exact z
theorem all_fine {n b : Nat} : ∀ ds : List PyData, (∀ x ∈ ds, Fine x n b) → PyData.showableAll ds = true ∧ PyData.hasDictAll ds = false ∧ PyData.depthAll ds ≤ n ∧ piled (PyData.shownAll ds) ≤ (b + 2) * ds.length
  | [], _ => by simp [PyData.shownAll, PyData.showableAll, PyData.hasDictAll, piled_nil, PyData.depthAll]
  | x :: ds, h => by
    have h0 := h x List.mem_cons_self
    have ih := all_fine ds fun y hy => h y (List.mem_cons_of_mem _ hy)
    have l0 := h0.len
    have d0 := h0.dp
    refine ⟨by simp [PyData.showableAll, h0.ok, ih.1], by simp [PyData.hasDictAll, h0.nd, ih.2.1], ?_, ?_⟩
    · rw [PyData.depthAll]
      have := ih.2.2.1
      omega
    · rw [PyData.shownAll, piled_cons, List.length_cons, Nat.mul_succ]
      have := ih.2.2.2
      omega
theorem from_len : ∀ (ts : List Str) (k : Nat) (acc : Str), (textFrom k acc ts).length ≤ acc.length + piled ts
  | [], k, acc => Nat.le_add_right _ _
  | t :: ts, k, acc => by
    have ih := from_len ts (k + 1) (acc ++ (if k > 0 then ", " else "" : String) ++ t)
    have e : (((if k > 0 then ", " else "" : String) : Str)).length ≤ 2 := by split <;> decide +kernel
    rw [strLen_append, strLen_append] at ih
    rw [piled_cons]
    show (textFrom (k + 1) (acc ++ (if k > 0 then ", " else "" : String) ++ t) ts).length ≤ _
    omega
theorem list_len (ts : List Str) : (listText ts).length ≤ piled ts + 2 := by
  have h := from_len ts 0 "["
  have e1 : ((("[" : String) : Str)).length = 1 := rfl
  have e2 : ((("]" : String) : Str)).length = 1 := rfl
  unfold listText
  rw [strLen_append]
  omega
theorem big_mono : ∀ n, 20 ≤ big n
  | 0 => Nat.le_refl _
  | n + 1 => by
    have := big_mono n
    show 20 ≤ 40 * (big n + 2) + 3
    omega
theorem fit_fine : ∀ (n : Nat) (d : PyData), Fit n d → Fine d n (big n)
  | n, .none, _ => ⟨rfl, rfl, Nat.zero_le _, Nat.le_trans (by decide +kernel) (big_mono n)⟩
  | n, .bool b, _ => ⟨rfl, rfl, Nat.zero_le _, Nat.le_trans (by cases b <;> decide +kernel) (big_mono n)⟩
  | n, .int i, h => by
    unfold Fit at h
    have z := int_fine h
    exact ⟨z.2, rfl, Nat.zero_le _, Nat.le_trans z.1 (big_mono n)⟩
  | n, .str x, h => by
    unfold Fit at h
    exact ⟨rfl, rfl, Nat.zero_le _, Nat.le_trans h (big_mono n)⟩
  | 0, .tuple ds, h => by
    unfold Fit at h
    exact h.elim
  | 0, .list ds, h => by
    unfold Fit at h
    exact h.elim
  | n + 1, .tuple ds, h => by
    unfold Fit at h
    have z := all_fine ds fun x hx => fit_fine n x (h.2 x hx)
    refine ⟨by simpa [PyData.showable] using z.1, by simpa [PyData.hasDict] using z.2.1, by have := z.2.2.1; rw [PyData.depth]; omega, ?_⟩
    have y := fmt_text (PyData.shownAll ds)
    have m : (big n + 2) * ds.length ≤ (big n + 2) * 40 := Nat.mul_le_mul_left _ h.1
    show (tupleText (PyData.shownAll ds)).length ≤ 40 * (big n + 2) + 3
    have := z.2.2.2
    omega
  | n + 1, .list ds, h => by
    unfold Fit at h
    have z := all_fine ds fun x hx => fit_fine n x (h.2 x hx)
    refine ⟨by simpa [PyData.showable] using z.1, by simpa [PyData.hasDict] using z.2.1, by have := z.2.2.1; rw [PyData.depth]; omega, ?_⟩
    have y := list_len (PyData.shownAll ds)
    have m : (big n + 2) * ds.length ≤ (big n + 2) * 40 := Nat.mul_le_mul_left _ h.1
    show (listText (PyData.shownAll ds)).length ≤ 40 * (big n + 2) + 3
    have := z.2.2.2
    omega
  | 0, .dict _, h => by
    unfold Fit at h
    exact h.elim
  | n + 1, .dict _, h => by
    unfold Fit at h
    exact h.elim
structure ShA (d : PyData) : Prop where
  a : d.showable = true
  b : d.hasDict = false
  c : d.depth ≤ 20
  d : d.shown.length ≤ sizeLine
theorem shA {d : PyData} (h : Fit 3 d) : ShA d := by
  have z := fit_fine 3 d h
  exact ⟨z.ok, z.nd, by have := z.dp; omega, Nat.le_trans z.len (by decide)⟩
/-! ### the type of data -/
def tyN : PyData → String
  | .none => "NoneType"
  | .bool _ => "bool"
  | .int _ => "int"
  | .str _ => "str"
  | .list _ => "list"
  | .tuple _ => "tuple"
  | .dict _ => "dict"
theorem tyD {K : PySem.W.Frag} {H : Hp} {v : V} {d : PyData} (h : Dp K H v d) : TyX K H v (.type (tyN d)) := by
  cases h with
  | non => exact .base .non
  | bl b => exact .base (.bl b)
  | int i => exact .base (.int i)
  | str x => exact .base (.str x)
  | lst hs ha =>
    rcases hs with (h | ⟨o, h⟩) | ⟨o, its, n, hk, hc, _⟩
    · exact .base (.lst h)
    · exact .base (.frz h)
    · exact .kList hk hc
  | tup hs ha =>
    rcases hs with (h | ⟨o, h⟩) | ⟨o, its, n, hk, hc, _⟩
    · exact .base (.tup h)
    · exact .fTuple h
    · exact .kTuple hk hc
end Nm

namespace Nm
open PySem PySem.Spec PyProof.Rows L2 GL
abbrev sBelow : Stmt := topS 1
abbrev sAsc : Stmt := topS 2
abbrev sIsRule : Stmt := topS 5
theorem scBelow : FnScope ["value", "limit"] ["value", "limit"] (defScope sBelow) := ⟨rfl, rfl, rfl, by decide +kernel, rfl, by decide +kernel, by decide +kernel⟩
theorem scAsc : FnScope ["value", "limit", "item", "at"] ["value", "limit"] (defScope sAsc) := ⟨rfl, rfl, rfl, by decide +kernel, rfl, by decide +kernel, by decide +kernel⟩
theorem scIsRule : FnScope ["value", "followers"] ["value"] (defScope sIsRule) := ⟨rfl, rfl, rfl, by decide +kernel, rfl, by decide +kernel, by decide +kernel⟩
theorem isiK {X : Cx} {K : PySem.W.Frag} (hK : X.K = K := by rfl) : CallR X (.builtin "isinstance") (rIsi K) := by
  subst hK
  exact call_isi
theorem chain_pw : ∀ (ns : List Int), (∀ (i : Nat) (a b : Int), ns[i]? = some a → ns[i + 1]? = some b → a < b) → ns.Pairwise (· < ·)
  | [], _ => List.Pairwise.nil
  | [x], _ => List.pairwise_singleton _ _
  | x :: y :: r, h => by
    have hr := chain_pw (y :: r) fun i a b ha hb => h (i + 1) a b (by simpa using ha) (by simpa using hb)
    have h0 := h 0 x y rfl rfl
    refine List.pairwise_cons.mpr ⟨fun z hz => ?_, hr⟩
    rcases List.mem_cons.mp hz with e | e
    · rw [e]
      exact h0
    · exact Int.lt_trans h0 ((List.pairwise_cons.mp hr).1 z e)
section
variable {P : Program} {w : World} {K : PySem.W.Frag} {mg : Str → Option Value} {base : Heap}
/-- what the judging defs lean on -/
structure LibJ (mg : Str → Option Value) : Prop where
  len : mg "len" = none
  isi : mg "isinstance" = none
  bool : mg "bool" = none
  int : mg "int" = none
  tuple : mg "tuple" = none
  range : mg "range" = none
  all : mg "all" = none
def spBelow (K : PySem.W.Frag) : Sp := fun vs H Q _ => ∃ i l : Int, vs = [.int i, .int l] ∧ Q (.bl (decide (0 ≤ i) && decide (i < l))) H
theorem ok_below {f : Addr} {fd : FuncData} {k : Nat} (F : Fun K "is_below" "is_below" sBelow f fd) (B : LibJ mg) : FnOk P w K mg base CX0 (k + 1) f fd ["value", "limit"] (spBelow K) := by
  refine F.ok scBelow (fun vs H Q E h => ?_) (fun cdv A outer s H vs Q E hr h => ?_)
  · obtain ⟨i, l, rfl, _⟩ := h
    rfl
  · obtain ⟨i, l, rfl, q⟩ := h
    refine ⟨_, pss_cons (ps_if (PW.pt (pw_or (pt_val (pe_callB (isiK (K := K)) (by rfl) B.isi (by decide +kernel) (pa_cons (pv 0) (pa_cons (pe_bltn (v := .ty "bool") (by rfl) B.bool (by decide +kernel) rfl) pa_nil))))
        (pw_or1 (pt_not (pt_val (pe_callB (isiK (K := K)) (by rfl) B.isi (by decide +kernel) (pa_cons (pv 0) (pa_cons (pe_bltn (v := .ty "int") (by rfl) B.int (by decide +kernel) rfl) pa_nil))))))))
        (pss_one (ps_ret pe_bl)) pss_nil)
      (pss_one (ps_ret (pe_chain op_le op_lt pe_int (pv 0) (pv 1)))), ?_⟩
    refine ⟨.int i, rfl, _, _, _, _, false, rfl, .ty "bool", .base (.int i), kit_ty (by decide +kernel), _, rfl, iteF ?_⟩
    refine ⟨.int i, rfl, _, _, _, _, true, rfl, .ty "int", .base (.int i), kit_ty (by decide +kernel), _, rfl, iteF ?_⟩
    refine ⟨.int i, rfl, 0, i, rfl, rfl, _, rfl, ?_⟩
    by_cases h0 : 0 ≤ i
    · rw [decide_eq_true h0] at q ⊢
      exact iteT ⟨.int l, rfl, i, l, rfl, rfl, q⟩
    · rw [decide_eq_false h0] at q ⊢
      exact iteF q
/-- a row of ints: ascending, below -/
def spAsc (K : PySem.W.Frag) : Sp := fun vs H Q _ => ∃ (a : Addr) (ns : List Int) (l : Int), vs = [.ref a, .int l] ∧ H a = some (.tup (ns.map V.int)) ∧ ns.length < 1000 ∧ (∀ x ∈ ns, 0 ≤ x ∧ x < l) ∧ ns.Pairwise (· < ·) ∧
  ∀ H', Same H H' → Q (.bl true) H'
theorem ok_asc {f fB : Addr} {fd dB : FuncData} {k : Nat} (F : Fun K "is_ascending" "is_ascending" sAsc f fd) (FB : Fun K "is_below" "is_below" sBelow fB dB) (bB : Binds K dB ["value", "limit"] []) (gB : mg "is_below" = some (.ref fB)) (B : LibJ mg) :
    FnOk P w K mg base CX0 (k + 2) f fd ["value", "limit"] (spAsc K) := by
  have GB : FnOk P w K mg base CX0 (k + 1) fB dB ["value", "limit"] (spBelow K) := ok_below FB B
  refine F.ok scAsc (fun vs H Q E h => ?_) (fun cdv A outer s H vs Q E hr h => ?_)
  · obtain ⟨a, ns, l, rfl, _⟩ := h
    rfl
  · obtain ⟨a, ns, l, rfl, ha, ln, bd, pw, q⟩ := h
    refine ⟨_, pss_cons (ps_if (pt_not (pt_val (pe_callB (isiK (K := K)) (by rfl) B.isi (by decide +kernel) (pa_cons (pv 0) (pa_cons (pe_bltn (v := .ty "tuple") (by rfl) B.tuple (by decide +kernel) rfl) pa_nil)))))
        (pss_one (ps_ret pe_bl)) pss_nil)
      (pss_cons (ps_if (pt_not (pt_val (pe_callB (allK (K := K) rfl) (by rfl) B.all (by decide +kernel) (pa_cons
          (pe_lc (own := [("item", 2)]) (g := gName 2) (by rfl) scAsc.nd (piTupK (K := K) (pv 0))
            (blkOk_by (own := [("item", 2)]) (N := ["value", "limit", "item", "at"]) (sc := defScope sAsc) (by decide +kernel))
            (fun _ _ _ _ _ => pg_name (i := 2) scAsc.nd rfl (Or.inl rfl)) (fun _ _ _ _ _ => pts_nil)
            (fun _ _ _ _ _ => pe_call GB hr (by rfl) gB FB.kp bB .nil pass0 (pa_cons (pv 2) (pa_cons (pv 1) pa_nil)))) pa_nil))))
        (pss_one (ps_ret pe_bl)) pss_nil)
      (pss_one (ps_ret (pe_callB (allK (K := K) rfl) (by rfl) B.all (by decide +kernel) (pa_cons
        (pe_lc (own := [("at", 3)]) (g := gName 3) (by rfl) scAsc.nd (pi_range2 (by rfl) B.range (pa_cons pe_int (pa_cons (pe_callB (lenK (K := K)) (by rfl) B.len PySem.boot_len (pa_cons (pv 0) pa_nil)) pa_nil)))
          (blkOk_by (own := [("at", 3)]) (N := ["value", "limit", "item", "at"]) (sc := defScope sAsc) (by decide +kernel))
          (fun _ _ _ _ _ => pg_name (i := 3) scAsc.nd rfl (Or.inl rfl)) (fun _ _ _ _ _ => pts_nil)
          (fun _ _ _ _ _ => pe_cmpR op_lt (pe_ix (ixTupK (K := K)) (pv 0) (pe_op op_sub (pv 3) pe_int) (fun _ _ => rfl)) (pe_ix (ixTupK (K := K)) (pv 0) (pv 3) (fun _ _ => rfl)) (nomark _))) pa_nil))))), ?_⟩
    refine ⟨.ref a, rfl, _, _, _, _, true, rfl, .ty "tuple", .base (.tup ha), kit_ty (by decide +kernel), _, rfl, iteF ?_⟩
    refine ⟨.ref a, rfl, a, rfl, ⟨_, SqT.of ha⟩, fun D nD => ?_⟩
    have sD := same_upd (o := .lst []) nD
    refine lc_tup (K := K) (a := a) (xs := ns.map V.int) (fun i H2 => H2 D = some (.lst ((List.replicate i true).map V.bl)) ∧ Same H H2) ⟨upd_same, sD⟩ (fun i H2 _ h => SqT.of (h.2 _ _ ha)) ?_ ?_
    · rintro i x H2 hx ⟨hD, s2⟩
      obtain ⟨y, hy, rfl⟩ := int_at hx
      have yb := bd y (List.mem_of_getElem? hy)
      have il := (List.getElem?_eq_some_iff.mp hy).1
      refine ⟨rfl, yesI ⟨.int y, rfl, .int l, rfl, y, l, rfl, _, hD, ?_, ?_, ?_⟩⟩
      · rw [List.length_map, List.length_replicate]
        exact lenLine (by omega)
      · rw [upd_same, decide_eq_true yb.1, decide_eq_true yb.2, List.replicate_succ', List.map_append]
        rfl
      · intro b o hb
        rw [upd_ne (ne_of_none hb nD)]
        exact s2 _ _ hb
    · rintro H2 ⟨hD, s2⟩
      refine ⟨D, _, rfl, SqL.of hD, _, rfl, ?_⟩
      rw [show (List.replicate (ns.map V.int).length true).all id = true by simp]
      refine iteF ?_
      refine ⟨.ref a, rfl, a, _, rfl, .inr (SqT.of (s2 _ _ ha)), 1, _, rfl, ⟨by decide, by decide, by rw [List.length_map]; omega, by rw [List.length_map]; omega⟩, fun D2 nD2 => ?_⟩
      have sD2 := same_upd (o := .lst []) nD2
      have en : (((ns.map V.int).length : Int) - 1).toNat = ns.length - 1 := by
        rw [List.length_map]
        omega
      rw [en]
      refine lc_range (lo := 1) (n := ns.length - 1) (fun i H3 => H3 D2 = some (.lst ((List.replicate i true).map V.bl)) ∧ Same H2 H3) ⟨upd_same, sD2⟩ ?_ ?_
      · rintro i H3 hi ⟨hD3, s3⟩
        have h1 : i < ns.length := by omega
        have h2 : i + 1 < ns.length := by omega
        have lt : ns[i] < ns[i + 1] := (List.pairwise_iff_getElem.mp pw) i (i + 1) h1 h2 (by omega)
        have a1 : atI (ns.map V.int) (1 + (i : Int) - 1) = some (.int ns[i]) := by
          rw [show (1 : Int) + (i : Int) - 1 = ((i : Nat) : Int) by omega]
          exact atI_nat (by rw [List.getElem?_map, List.getElem?_eq_getElem h1]; rfl)
        have a2 : atI (ns.map V.int) (1 + (i : Int)) = some (.int ns[i + 1]) := by
          rw [show (1 : Int) + (i : Int) = ((i + 1 : Nat) : Int) by omega]
          exact atI_nat (by rw [List.getElem?_map, List.getElem?_eq_getElem h2]; rfl)
        have ha3 := SqT.of (K := K) (s3 _ _ (s2 _ _ ha))
        refine ⟨rfl, yesI ⟨.ref a, rfl, .int (1 + i), rfl, _, 1, rfl, rfl, a, _, _, _, rfl, rfl, ha3, a1, .ref a, rfl, .int (1 + i), rfl, a, _, _, _, rfl, rfl, ha3, a2, _, _, rfl, rfl, _, hD3, ?_, ?_, ?_⟩⟩
        · rw [List.length_map, List.length_replicate]
          exact lenLine (by omega)
        · rw [upd_same]
          dsimp only
          rw [decide_eq_true lt, List.replicate_succ', List.map_append]
          rfl
        · intro b o hb
          rw [upd_ne (ne_of_none hb nD2)]
          exact s3 _ _ hb
      · rintro H3 ⟨hD3, s3⟩
        refine ⟨D2, _, rfl, SqL.of hD3, ?_⟩
        rw [show (List.replicate (ns.length - 1) true).all id = true by simp]
        exact q H3 (s2.trans s3)
/-- a rule is one -/
def spIsRule (K : PySem.W.Frag) : Sp := fun vs H Q _ => ∃ (p : Addr) (T : List (List Int)), vs = [.ref p] ∧ Tbl H p T ∧ IsRule T ∧ ∀ H', Same H H' → Q (.bl true) H'
theorem ok_isrule {f fA fB : Addr} {fd dA dB : FuncData} {k : Nat} (F : Fun K "is_rule" "is_rule" sIsRule f fd) (FA : Fun K "is_ascending" "is_ascending" sAsc fA dA) (FB : Fun K "is_below" "is_below" sBelow fB dB)
    (bA : Binds K dA ["value", "limit"] []) (gA : mg "is_ascending" = some (.ref fA)) (bB : Binds K dB ["value", "limit"] []) (gB : mg "is_below" = some (.ref fB)) (B : LibJ mg) {tm : Tok} (mm : mg "MOST_MARKS" = some (.int 16 tm)) :
    FnOk P w K mg base CX0 (k + 3) f fd ["value"] (spIsRule K) := by
  have GA : FnOk P w K mg base CX0 (k + 2) fA dA ["value", "limit"] (spAsc K) := ok_asc FA FB bB gB B
  refine F.ok scIsRule (fun vs H Q E h => ?_) (fun cdv A outer s H vs Q E hr h => ?_)
  · obtain ⟨p, T, rfl, _⟩ := h
    rfl
  · obtain ⟨p, T, rfl, ⟨rs, hp, hR⟩, ⟨t1, t16, good⟩, q⟩ := h
    have lr : rs.length = T.length := Paired.length hR
    refine ⟨_, pss_cons (ps_if (PW.pt (pw_or (pt_not (pt_val (pe_callB (isiK (K := K)) (by rfl) B.isi (by decide +kernel) (pa_cons (pv 0) (pa_cons (pe_bltn (v := .ty "tuple") (by rfl) B.tuple (by decide +kernel) rfl) pa_nil)))))
        (pw_or1 (pt_not (pt_chain op_le op_le pe_int (pe_callB (lenK (K := K)) (by rfl) B.len PySem.boot_len (pa_cons (pv 0) pa_nil)) (pe_glob (v := .int 16) rfl mm ⟨_, rfl⟩))))))
        (pss_one (ps_ret pe_bl)) pss_nil)
      (pss_one (ps_ret (pe_callB (allK (K := K) rfl) (by rfl) B.all (by decide +kernel) (pa_cons
        (pe_lc (own := [("followers", 1)]) (g := gName 1) (by rfl) scIsRule.nd (piTupK (K := K) (pv 0))
          (blkOk_by (own := [("followers", 1)]) (N := ["value", "followers"]) (sc := defScope sIsRule) (by decide +kernel))
          (fun _ _ _ _ _ => pg_name (i := 1) scIsRule.nd rfl (Or.inl rfl)) (fun _ _ _ _ _ => pts_nil)
          (fun _ _ _ _ _ => pe_call GA hr (by rfl) gA FA.kp bA .nil pass0 (pa_cons (pv 1) (pa_cons (pe_callB (lenK (K := K)) (by rfl) B.len PySem.boot_len (pa_cons (pv 0) pa_nil)) pa_nil)))) pa_nil)))), ?_⟩
    have len : ((rs.map V.ref).length : Int) = (T.length : Nat) := by rw [List.length_map, lr]
    refine ⟨.ref p, rfl, _, _, _, _, true, rfl, .ty "tuple", .base (.tup hp), kit_ty (by decide +kernel), _, rfl, iteF ?_⟩
    refine ⟨.ref p, rfl, p, _, rfl, .inr (SqT.of hp), 1, _, rfl, rfl, _, rfl, ?_⟩
    rw [decide_eq_true (show (1 : Int) ≤ ((rs.map V.ref).length : Int) by rw [len]; omega)]
    refine iteT ⟨_, 16, rfl, rfl, _, rfl, ?_⟩
    rw [decide_eq_true (show ((rs.map V.ref).length : Int) ≤ 16 by rw [len]; omega)]
    refine iteF ?_
    refine ⟨.ref p, rfl, p, rfl, ⟨_, SqT.of hp⟩, fun D nD => ?_⟩
    have sD := same_upd (o := .lst []) nD
    refine lc_tup (K := K) (a := p) (xs := rs.map V.ref) (fun i H2 => H2 D = some (.lst ((List.replicate i true).map V.bl)) ∧ Same H H2) ⟨upd_same, sD⟩ (fun i H2 _ h => SqT.of (h.2 _ _ hp)) ?_ ?_
    · rintro i x H2 hx ⟨hD, s2⟩
      obtain ⟨c, hc, rfl⟩ := ref_at hx
      obtain ⟨row, hrw, hcell⟩ := paired_get hR hc
      have g := good row (List.mem_of_getElem? hrw)
      have gl := g.len
      have il := (List.getElem?_eq_some_iff.mp hrw).1
      refine ⟨rfl, yesI ⟨.ref c, rfl, .ref p, rfl, p, _, rfl, .inr (SqT.of (s2 _ _ hp)), c, row, _, rfl, s2 _ _ hcell, by omega, ?_, g.1, fun H3 s3 => ?_⟩⟩
      · rw [len]
        exact g.2
      · refine ⟨_, s3 _ _ hD, ?_, ?_, ?_⟩
        · rw [List.length_map, List.length_replicate]
          exact lenLine (by omega)
        · rw [upd_same, List.replicate_succ', List.map_append]
          rfl
        · intro b o hb
          rw [upd_ne (ne_of_none hb nD)]
          exact s3 _ _ (s2 _ _ hb)
    · rintro H2 ⟨hD, s2⟩
      refine ⟨D, _, rfl, SqL.of hD, ?_⟩
      rw [show (List.replicate (rs.map V.ref).length true).all id = true by simp]
      exact q H2 s2
end
end Nm

namespace Nm
open PySem PySem.Spec PyProof.Rows L2 GL
/-! ### what is asked of data of any kind -/
def isT : PyData → Bool | .tuple _ => true | _ => false
def isB : PyData → Bool | .bool _ => true | _ => false
def isI : PyData → Bool | .bool _ => true | .int _ => true | _ => false
def isS : PyData → Bool | .str _ => true | _ => false
theorem kitT (d : PyData) : kitB (tyN d) "tuple" = some (isT d) := by cases d <;> (simp only [tyN, isT]; decide +kernel)
theorem kitBo (d : PyData) : kitB (tyN d) "bool" = some (isB d) := by cases d <;> (simp only [tyN, isB]; decide +kernel)
theorem kitI (d : PyData) : kitB (tyN d) "int" = some (isI d) := by cases d <;> (simp only [tyN, isI]; decide +kernel)
theorem kitS (d : PyData) : kitB (tyN d) "str" = some (isS d) := by cases d <;> (simp only [tyN, isS]; decide +kernel)
def belowD (l : Int) : PyData → Bool | .int i => decide (0 ≤ i) && decide (i < l) | _ => false
def toI : PyData → Int | .int i => i | _ => 0
def ascD (l : Int) : PyData → Bool | .tuple ds => ds.all (belowD l) && decide ((ds.map toI).Pairwise (· < ·)) | _ => false
def ruleD : PyData → Bool | .tuple ds => (decide (1 ≤ ds.length) && decide (ds.length ≤ 16)) && ds.all (ascD ds.length) | _ => false
theorem below_int {l : Int} {d : PyData} (h : belowD l d = true) : d = .int (toI d) := by
  cases d <;> first | rfl | cases h
theorem dp_ints {K : PySem.W.Frag} {H : Hp} {l : Int} : ∀ {vs : List V} {ds : List PyData}, DpAll K H vs ds → ds.all (belowD l) = true → vs = (ds.map toI).map V.int
  | _, _, .nil, _ => rfl
  | _, _, .cons (d := d) h t, a => by
    rw [List.all_cons, Bool.and_eq_true] at a
    have e := below_int a.1
    have ih := dp_ints t a.2
    rw [e] at h
    cases h
    rw [List.map_cons, List.map_cons, ih]
theorem all_take {α : Type} (f : α → Bool) (l : List α) : ((l.take l.length).map f).all id = l.all f := by
  rw [List.take_length, List.all_map]
  rfl
theorem chain_all (ns : List Int) : ((List.range (ns.length - 1)).map fun (i : Nat) => decide (ns.getD i 0 < ns.getD (i + 1) 0)).all id = decide (ns.Pairwise (· < ·)) := by
  rw [Bool.eq_iff_iff, decide_eq_true_eq, List.all_map, List.all_eq_true]
  refine ⟨fun h => chain_pw ns fun i a b ha hb => ?_, fun h i hi => ?_⟩
  · have il := (List.getElem?_eq_some_iff.mp hb).1
    have z := h i (List.mem_range.mpr (by omega))
    have y := of_decide_eq_true (show decide (ns.getD i 0 < ns.getD (i + 1) 0) = true from z)
    rw [List.getD_eq_getElem?_getD, List.getD_eq_getElem?_getD, ha, hb] at y
    exact y
  · have il := List.mem_range.mp hi
    have h1 : i < ns.length := by omega
    have h2 : i + 1 < ns.length := by omega
    show decide (ns.getD i 0 < ns.getD (i + 1) 0) = true
    rw [List.getD_eq_getElem?_getD, List.getD_eq_getElem?_getD, List.getElem?_eq_getElem h1, List.getElem?_eq_getElem h2]
    exact decide_eq_true ((List.pairwise_iff_getElem.mp h) i (i + 1) h1 h2 (by omega))
section
variable {P : Program} {w : World} {K : PySem.W.Frag} {mg : Str → Option Value} {base : Heap}
def spBelowA (K : PySem.W.Frag) : Sp := fun vs H Q _ => ∃ (v : V) (d : PyData) (l : Int), vs = [v, .int l] ∧ Dp K H v d ∧ Q (.bl (belowD l d)) H
theorem ok_belowA {f : Addr} {fd : FuncData} {k : Nat} (F : Fun K "is_below" "is_below" sBelow f fd) (B : LibJ mg) : FnOk P w K mg base CX0 (k + 1) f fd ["value", "limit"] (spBelowA K) := by
  refine F.ok scBelow (fun vs H Q E h => ?_) (fun cdv A outer s H vs Q E hr h => ?_)
  · obtain ⟨v, d, l, rfl, _⟩ := h
    rfl
  · obtain ⟨v, d, l, rfl, hd, q⟩ := h
    refine ⟨_, pss_cons (ps_if (PW.pt (pw_or (pt_val (pe_callB (isiK (K := K)) (by rfl) B.isi (by decide +kernel) (pa_cons (pv 0) (pa_cons (pe_bltn (v := .ty "bool") (by rfl) B.bool (by decide +kernel) rfl) pa_nil))))
        (pw_or1 (pt_not (pt_val (pe_callB (isiK (K := K)) (by rfl) B.isi (by decide +kernel) (pa_cons (pv 0) (pa_cons (pe_bltn (v := .ty "int") (by rfl) B.int (by decide +kernel) rfl) pa_nil))))))))
        (pss_one (ps_ret pe_bl)) pss_nil)
      (pss_one (ps_ret (pe_chain op_le op_lt pe_int (pv 0) (pv 1)))), ?_⟩
    refine ⟨v, rfl, _, _, _, _, isB d, rfl, .ty "bool", tyD hd, kit_ty (kitBo d), _, rfl, ?_⟩
    cases d with
    | bool b => exact iteT q
    | int i =>
      refine iteF ⟨v, rfl, _, _, _, _, true, rfl, .ty "int", tyD hd, kit_ty (kitI _), _, rfl, iteF ?_⟩
      cases hd
      refine ⟨.int i, rfl, 0, i, rfl, rfl, _, rfl, ?_⟩
      by_cases h0 : 0 ≤ i
      · rw [decide_eq_true h0]
        refine iteT ⟨.int l, rfl, i, l, rfl, rfl, ?_⟩
        simp only [belowD, decide_eq_true h0, Bool.true_and] at q
        exact q
      · rw [decide_eq_false h0]
        refine iteF ?_
        simp only [belowD, decide_eq_false h0, Bool.false_and] at q
        exact q
    | none => exact iteF ⟨v, rfl, _, _, _, _, false, rfl, .ty "int", tyD hd, kit_ty (kitI _), _, rfl, iteT q⟩
    | str x => exact iteF ⟨v, rfl, _, _, _, _, false, rfl, .ty "int", tyD hd, kit_ty (kitI _), _, rfl, iteT q⟩
    | list x => exact iteF ⟨v, rfl, _, _, _, _, false, rfl, .ty "int", tyD hd, kit_ty (kitI _), _, rfl, iteT q⟩
    | tuple x => exact iteF ⟨v, rfl, _, _, _, _, false, rfl, .ty "int", tyD hd, kit_ty (kitI _), _, rfl, iteT q⟩
    | dict x => cases hd
def spAscA (K : PySem.W.Frag) : Sp := fun vs H Q _ => ∃ (v : V) (d : PyData) (n : Nat) (l : Int), vs = [v, .int l] ∧ Dp K H v d ∧ Fit n d ∧ ∀ H', Same H H' → Q (.bl (ascD l d)) H'
set_option maxHeartbeats 2000000 in
theorem ok_ascA {f fB : Addr} {fd dB : FuncData} {k : Nat} (F : Fun K "is_ascending" "is_ascending" sAsc f fd) (FB : Fun K "is_below" "is_below" sBelow fB dB) (bB : Binds K dB ["value", "limit"] []) (gB : mg "is_below" = some (.ref fB)) (B : LibJ mg) :
    FnOk P w K mg base CX0 (k + 2) f fd ["value", "limit"] (spAscA K) := by
  have GB : FnOk P w K mg base CX0 (k + 1) fB dB ["value", "limit"] (spBelowA K) := ok_belowA FB B
  refine F.ok scAsc (fun vs H Q E h => ?_) (fun cdv A outer s H vs Q E hr h => ?_)
  · obtain ⟨v, d, n, l, rfl, _⟩ := h
    rfl
  · obtain ⟨v, d, n, l, rfl, hd, fit, q⟩ := h
    refine ⟨_, pss_cons (ps_if (pt_not (pt_val (pe_callB (isiK (K := K)) (by rfl) B.isi (by decide +kernel) (pa_cons (pv 0) (pa_cons (pe_bltn (v := .ty "tuple") (by rfl) B.tuple (by decide +kernel) rfl) pa_nil)))))
        (pss_one (ps_ret pe_bl)) pss_nil)
      (pss_cons (ps_if (pt_not (pt_val (pe_callB (allK (K := K) rfl) (by rfl) B.all (by decide +kernel) (pa_cons
          (pe_lc (own := [("item", 2)]) (g := gName 2) (by rfl) scAsc.nd (piTupK (K := K) (pv 0))
            (blkOk_by (own := [("item", 2)]) (N := ["value", "limit", "item", "at"]) (sc := defScope sAsc) (by decide +kernel))
            (fun _ _ _ _ _ => pg_name (i := 2) scAsc.nd rfl (Or.inl rfl)) (fun _ _ _ _ _ => pts_nil)
            (fun _ _ _ _ _ => pe_call GB hr (by rfl) gB FB.kp bB .nil pass0 (pa_cons (pv 2) (pa_cons (pv 1) pa_nil)))) pa_nil))))
        (pss_one (ps_ret pe_bl)) pss_nil)
      (pss_one (ps_ret (pe_callB (allK (K := K) rfl) (by rfl) B.all (by decide +kernel) (pa_cons
        (pe_lc (own := [("at", 3)]) (g := gName 3) (by rfl) scAsc.nd (pi_range2 (by rfl) B.range (pa_cons pe_int (pa_cons (pe_callB (lenK (K := K)) (by rfl) B.len PySem.boot_len (pa_cons (pv 0) pa_nil)) pa_nil)))
          (blkOk_by (own := [("at", 3)]) (N := ["value", "limit", "item", "at"]) (sc := defScope sAsc) (by decide +kernel))
          (fun _ _ _ _ _ => pg_name (i := 3) scAsc.nd rfl (Or.inl rfl)) (fun _ _ _ _ _ => pts_nil)
          (fun _ _ _ _ _ => pe_cmpR op_lt (pe_ix (ixTupK (K := K)) (pv 0) (pe_op op_sub (pv 3) pe_int) (fun _ _ => rfl)) (pe_ix (ixTupK (K := K)) (pv 0) (pv 3) (fun _ _ => rfl)) (nomark _))) pa_nil))))), ?_⟩
    refine ⟨v, rfl, _, _, _, _, isT d, rfl, .ty "tuple", tyD hd, kit_ty (kitT d), _, rfl, ?_⟩
    cases d with
    | bool b => exact iteT (q H (Same.refl _))
    | int i => exact iteT (q H (Same.refl _))
    | none => exact iteT (q H (Same.refl _))
    | str x => exact iteT (q H (Same.refl _))
    | list x => exact iteT (q H (Same.refl _))
    | dict x => cases hd
    | tuple ds =>
      refine iteF ?_
      cases hd with
      | @tup a xs _ hs ha =>
      have fl : ds.length ≤ 40 := by
        cases n with
        | zero => unfold Fit at fit; exact fit.elim
        | succ n => unfold Fit at fit; exact fit.1
      have lx := DpAll.len ha
      refine ⟨.ref a, rfl, a, rfl, ⟨_, hs⟩, fun D nD => ?_⟩
      have sD := same_upd (o := .lst []) nD
      refine lc_tup (K := K) (a := a) (xs := xs) (fun i H2 => H2 D = some (.lst (((ds.take i).map (belowD l)).map V.bl)) ∧ Same H H2) ⟨upd_same, sD⟩ (fun i H2 _ h => Nm.Same.seqT h.2 hs) ?_ ?_
      · rintro i x H2 hx ⟨hD, s2⟩
        obtain ⟨d, hdi, dp⟩ := DpAll.at ha hx
        have il := (List.getElem?_eq_some_iff.mp hdi).1
        refine ⟨rfl, yesI ⟨x, rfl, .int l, rfl, x, d, l, rfl, dpS s2 _ _ dp, _, hD, ?_, ?_, ?_⟩⟩
        · rw [List.length_map, List.length_map, List.length_take]
          exact lenLine (by omega)
        · rw [upd_same, List.take_add_one, hdi, List.map_append, List.map_append]
          rfl
        · intro b o hb
          rw [upd_ne (ne_of_none hb nD)]
          exact s2 _ _ hb
      rintro H2 ⟨hD, s2⟩
      rw [lx] at hD
      refine ⟨D, _, rfl, SqL.of hD, _, rfl, ?_⟩
      rw [all_take]
      cases hall : ds.all (belowD l) with
      | false =>
        refine iteT ?_
        have z := q H2 s2
        simp only [ascD, hall, Bool.false_and] at z
        exact z
      | true =>
        refine iteF ?_
        have ex := dp_ints ha hall
        obtain ⟨ns, ens⟩ : ∃ ns, ns = ds.map toI := ⟨_, rfl⟩
        rw [← ens] at ex
        have ln : ns.length = ds.length := by rw [ens, List.length_map]
        subst ex
        have hs2 := Nm.Same.seqT s2 hs
        refine ⟨.ref a, rfl, a, _, rfl, .inr hs2, 1, _, rfl, ⟨by decide, by decide, by rw [List.length_map]; omega, by rw [List.length_map]; omega⟩, fun D2 nD2 => ?_⟩
        have sD2 := same_upd (o := .lst []) nD2
        have en : (((ns.map V.int).length : Int) - 1).toNat = ns.length - 1 := by
          rw [List.length_map]
          omega
        rw [en]
        refine lc_range (lo := 1) (n := ns.length - 1) (fun i H3 => H3 D2 = some (.lst (((List.range i).map fun (i : Nat) => decide (ns.getD i 0 < ns.getD (i + 1) 0)).map V.bl)) ∧ Same H2 H3) ⟨upd_same, sD2⟩ ?_ ?_
        · rintro i H3 hi ⟨hD3, s3⟩
          have h1 : i < ns.length := by omega
          have h2 : i + 1 < ns.length := by omega
          have a1 : atI (ns.map V.int) (1 + (i : Int) - 1) = some (.int (ns.getD i 0)) := by
            rw [show (1 : Int) + (i : Int) - 1 = ((i : Nat) : Int) by omega]
            exact atI_nat (by rw [List.getElem?_map, List.getD_eq_getElem?_getD, List.getElem?_eq_getElem h1]; rfl)
          have a2 : atI (ns.map V.int) (1 + (i : Int)) = some (.int (ns.getD (i + 1) 0)) := by
            rw [show (1 : Int) + (i : Int) = ((i + 1 : Nat) : Int) by omega]
            exact atI_nat (by rw [List.getElem?_map, List.getD_eq_getElem?_getD, List.getElem?_eq_getElem h2]; rfl)
          have ha3 := Nm.Same.seqT s3 hs2
          refine ⟨rfl, yesI ⟨.ref a, rfl, .int (1 + i), rfl, _, 1, rfl, rfl, a, _, _, _, rfl, rfl, ha3, a1, .ref a, rfl, .int (1 + i), rfl, a, _, _, _, rfl, rfl, ha3, a2, _, _, rfl, rfl, _, hD3, ?_, ?_, ?_⟩⟩
          · rw [List.length_map, List.length_map, List.length_range]
            exact lenLine (by omega)
          · rw [upd_same, List.range_succ, List.map_append, List.map_append]
            rfl
          · intro b o hb
            rw [upd_ne (ne_of_none hb nD2)]
            exact s3 _ _ hb
        · rintro H3 ⟨hD3, s3⟩
          refine ⟨D2, _, rfl, SqL.of hD3, ?_⟩
          rw [chain_all]
          have z := q H3 (s2.trans s3)
          simp only [ascD, hall, Bool.true_and] at z
          rw [ens]
          exact z
/-- a rule or not: data of any kind, or {} -/
def spRuleA (K : PySem.W.Frag) : Sp := fun vs H Q _ => ∃ v : V, vs = [v] ∧ ((∃ (d : PyData) (n : Nat), Dp K H v d ∧ Fit (n + 1) d ∧ ∀ H', Same H H' → Q (.bl (ruleD d)) H') ∨ ∃ a : Addr, v = .ref a ∧ H a = some (.dK []) ∧ Q (.bl false) H)
set_option maxHeartbeats 2000000 in
theorem ok_ruleA {f fA fB : Addr} {fd dA dB : FuncData} {k : Nat} (F : Fun K "is_rule" "is_rule" sIsRule f fd) (FA : Fun K "is_ascending" "is_ascending" sAsc fA dA) (FB : Fun K "is_below" "is_below" sBelow fB dB)
    (bA : Binds K dA ["value", "limit"] []) (gA : mg "is_ascending" = some (.ref fA)) (bB : Binds K dB ["value", "limit"] []) (gB : mg "is_below" = some (.ref fB)) (B : LibJ mg) {tm : Tok} (mm : mg "MOST_MARKS" = some (.int 16 tm)) :
    FnOk P w K mg base CX0 (k + 3) f fd ["value"] (spRuleA K) := by
  have GA : FnOk P w K mg base CX0 (k + 2) fA dA ["value", "limit"] (spAscA K) := ok_ascA FA FB bB gB B
  refine F.ok scIsRule (fun vs H Q E h => ?_) (fun cdv A outer s H vs Q E hr h => ?_)
  · obtain ⟨v, rfl, _⟩ := h
    rfl
  · obtain ⟨v, rfl, h⟩ := h
    refine ⟨_, pss_cons (ps_if (PW.pt (pw_or (pt_not (pt_val (pe_callB (isiK (K := K)) (by rfl) B.isi (by decide +kernel) (pa_cons (pv 0) (pa_cons (pe_bltn (v := .ty "tuple") (by rfl) B.tuple (by decide +kernel) rfl) pa_nil)))))
        (pw_or1 (pt_not (pt_chain op_le op_le pe_int (pe_callB (lenK (K := K)) (by rfl) B.len PySem.boot_len (pa_cons (pv 0) pa_nil)) (pe_glob (v := .int 16) rfl mm ⟨_, rfl⟩))))))
        (pss_one (ps_ret pe_bl)) pss_nil)
      (pss_one (ps_ret (pe_callB (allK (K := K) rfl) (by rfl) B.all (by decide +kernel) (pa_cons
        (pe_lc (own := [("followers", 1)]) (g := gName 1) (by rfl) scIsRule.nd (piTupK (K := K) (pv 0))
          (blkOk_by (own := [("followers", 1)]) (N := ["value", "followers"]) (sc := defScope sIsRule) (by decide +kernel))
          (fun _ _ _ _ _ => pg_name (i := 1) scIsRule.nd rfl (Or.inl rfl)) (fun _ _ _ _ _ => pts_nil)
          (fun _ _ _ _ _ => pe_call GA hr (by rfl) gA FA.kp bA .nil pass0 (pa_cons (pv 1) (pa_cons (pe_callB (lenK (K := K)) (by rfl) B.len PySem.boot_len (pa_cons (pv 0) pa_nil)) pa_nil)))) pa_nil)))), ?_⟩
    rcases h with ⟨d, n, hd, fit, q⟩ | ⟨a, rfl, ha, q⟩
    · refine ⟨v, rfl, _, _, _, _, isT d, rfl, .ty "tuple", tyD hd, kit_ty (kitT d), _, rfl, ?_⟩
      cases d with
      | bool b => exact iteT (q H (Same.refl _))
      | int i => exact iteT (q H (Same.refl _))
      | none => exact iteT (q H (Same.refl _))
      | str x => exact iteT (q H (Same.refl _))
      | list x => exact iteT (q H (Same.refl _))
      | dict x => cases hd
      | tuple ds =>
        refine iteF ?_
        cases hd with
        | @tup a xs _ hs ha =>
        unfold Fit at fit
        have lx := DpAll.len ha
        have len : (xs.length : Int) = (ds.length : Nat) := by rw [lx]
        refine ⟨.ref a, rfl, a, _, rfl, .inr hs, 1, _, rfl, rfl, _, rfl, ?_⟩
        by_cases h1 : (1 : Int) ≤ (xs.length : Int)
        · rw [decide_eq_true h1]
          refine iteT ⟨_, 16, rfl, rfl, _, rfl, ?_⟩
          by_cases h16 : (xs.length : Int) ≤ 16
          · rw [decide_eq_true h16]
            refine iteF ?_
            refine ⟨.ref a, rfl, a, rfl, ⟨_, hs⟩, fun D nD => ?_⟩
            have sD := same_upd (o := .lst []) nD
            refine lc_tup (K := K) (a := a) (xs := xs) (fun i H2 => H2 D = some (.lst (((ds.take i).map (ascD ds.length)).map V.bl)) ∧ Same H H2) ⟨upd_same, sD⟩ (fun i H2 _ h => Nm.Same.seqT h.2 hs) ?_ ?_
            · rintro i x H2 hx ⟨hD, s2⟩
              obtain ⟨d, hdi, dp⟩ := DpAll.at ha hx
              refine ⟨rfl, yesI ⟨x, rfl, .ref a, rfl, a, _, rfl, .inr (Nm.Same.seqT s2 hs), x, d, n, _, rfl, dpS s2 _ _ dp, fit.2 d (List.mem_of_getElem? hdi), fun H3 s3 => ⟨_, s3 _ _ hD, ?_, ?_, ?_⟩⟩⟩
              · rw [List.length_map, List.length_map, List.length_take]
                exact lenLine (by omega)
              · rw [upd_same, List.take_add_one, hdi, List.map_append, List.map_append, len]
                rfl
              · intro b o hb
                rw [upd_ne (ne_of_none hb nD)]
                exact s3 _ _ (s2 _ _ hb)
            · rintro H2 ⟨hD, s2⟩
              rw [lx] at hD
              refine ⟨D, _, rfl, SqL.of hD, ?_⟩
              rw [all_take]
              have z := q H2 s2
              simp only [ruleD, decide_eq_true (show 1 ≤ ds.length by omega), decide_eq_true (show ds.length ≤ 16 by omega), Bool.true_and] at z
              exact z
          · rw [decide_eq_false h16]
            have z := q H (Same.refl _)
            simp only [ruleD, decide_eq_false (show ¬ ds.length ≤ 16 by omega), Bool.and_false, Bool.false_and] at z
            exact iteT z
        · rw [decide_eq_false h1]
          have z := q H (Same.refl _)
          simp only [ruleD, decide_eq_false (show ¬ 1 ≤ ds.length by omega), Bool.false_and] at z
          exact iteF ⟨_, rfl, iteT z⟩
    · exact ⟨.ref a, rfl, _, _, _, _, false, rfl, .ty "tuple", .base (.dK ha), kit_ty (by decide +kernel), _, rfl, iteT q⟩
end
end Nm

namespace Nm
open PySem PySem.Spec PyProof.Rows L2 GL
abbrev sIsNum : Stmt := topS 18
abbrev sLisRule : Stmt := topS 19
theorem scIsNum : FnScope ["_law_thing", "_law_below"] ["_law_thing", "_law_below"] (defScope sIsNum) := ⟨rfl, rfl, rfl, by decide +kernel, rfl, by decide +kernel, by decide +kernel⟩
abbrev nLisRule : List Str := ["_law_thing", "_law_row", "_law_one"]
theorem scLisRule : FnScope nLisRule ["_law_thing"] (defScope sLisRule) := ⟨rfl, rfl, rfl, by decide +kernel, rfl, by decide +kernel, by decide +kernel⟩
theorem eqvI : ∀ a b : List Int, PyData.eqvAll (a.map PyData.int) (b.map PyData.int) = decide (a = b)
  | [], [] => rfl
  | [], _ :: _ => rfl
  | _ :: _, [] => rfl
  | x :: a, y :: b => by
    show ((PyData.eqv (.int x) (.int y)) && PyData.eqvAll (a.map PyData.int) (b.map PyData.int)) = _
    rw [eqvI a b, PyData.eqv]
    by_cases e : x = y
    · by_cases e' : a = b
      · simp [e, e']
      · simp [e, e']
    · simp [e]
theorem same_asc {ns ms : List Int} (h : ms.Pairwise (· < ·)) (m : ∀ k : Int, k ∈ ms ↔ decide (k ∈ ns) = true) : decide (ns = ms) = decide (ns.Pairwise (· < ·)) := by
  refine decide_eq_decide.mpr ⟨fun e => by rw [e]; exact h, fun p => ?_⟩
  exact ((List.perm_ext_iff_of_nodup (p.imp fun h => Int.ne_of_lt h) (h.imp fun h => Int.ne_of_lt h)).mpr fun x => by rw [m x, decide_eq_true_eq]).eq_of_pairwise (fun x y _ _ a b => by omega) p h
theorem all_no {α : Type} {f : α → Bool} {l : List α} {i : Nat} {x : α} (h : l[i]? = some x) (e : f x = false) : l.all f = false := by
  rw [Bool.eq_false_iff]
  intro z
  rw [List.all_eq_true.mp z x (List.mem_of_getElem? h)] at e
  cases e
section
variable {P : Program} {w : World} {K : PySem.W.Frag} {mg : Str → Option Value} {base : Heap}
theorem ok_isnum {f : Addr} {fd : FuncData} {k : Nat} (F : Fun K "_law_is_number" "_law_is_number" sIsNum f fd) (B : LibJ mg) : FnOk P w K mg base CX0 (k + 1) f fd ["_law_thing", "_law_below"] (spBelowA K) := by
  refine F.ok scIsNum (fun vs H Q E h => ?_) (fun cdv A outer s H vs Q E hr h => ?_)
  · obtain ⟨v, d, l, rfl, _⟩ := h
    rfl
  · obtain ⟨v, d, l, rfl, hd, q⟩ := h
    refine ⟨_, pss_one (ps_ret (pe_and (pe_callB (isiK (K := K)) (by rfl) B.isi (by decide +kernel) (pa_cons (pv 0) (pa_cons (pe_bltn (v := .ty "int") (by rfl) B.int (by decide +kernel) rfl) pa_nil)))
      (pe_and (pe_not (pe_callB (isiK (K := K)) (by rfl) B.isi (by decide +kernel) (pa_cons (pv 0) (pa_cons (pe_bltn (v := .ty "bool") (by rfl) B.bool (by decide +kernel) rfl) pa_nil))))
      (pe_one (pe_chain op_le op_lt pe_int (pv 0) (pv 1)))))), ?_⟩
    refine ⟨v, rfl, _, _, _, _, isI d, rfl, .ty "int", tyD hd, kit_ty (kitI d), _, rfl, ?_⟩
    cases d with
    | bool b => exact iteT ⟨v, rfl, _, _, _, _, true, rfl, .ty "bool", tyD hd, kit_ty (kitBo _), _, rfl, _, rfl, iteF q⟩
    | int i =>
      refine iteT ⟨v, rfl, _, _, _, _, false, rfl, .ty "bool", tyD hd, kit_ty (kitBo _), _, rfl, _, rfl, iteT ?_⟩
      cases hd
      refine ⟨.int i, rfl, 0, i, rfl, rfl, _, rfl, ?_⟩
      by_cases h0 : 0 ≤ i
      · rw [decide_eq_true h0]
        refine iteT ⟨.int l, rfl, i, l, rfl, rfl, ?_⟩
        simp only [belowD, decide_eq_true h0, Bool.true_and] at q
        exact q
      · rw [decide_eq_false h0]
        refine iteF ?_
        simp only [belowD, decide_eq_false h0, Bool.false_and] at q
        exact q
    | none => exact iteF q
    | str x => exact iteF q
    | list x => exact iteF q
    | tuple x => exact iteF q
    | dict x => cases hd
set_option maxHeartbeats 2000000 in
theorem ok_lisrule {f fN : Addr} {fd dN : FuncData} {k : Nat} (F : Fun K "_law_is_rule" "_law_is_rule" sLisRule f fd) (FN : Fun K "_law_is_number" "_law_is_number" sIsNum fN dN) (bN : Binds K dN ["_law_thing", "_law_below"] []) (gN : mg "_law_is_number" = some (.ref fN)) (B : LibJ mg)
    (mlist : mg "list" = none) (mset : mg "set" = none) (msort : mg "sorted" = none) :
    FnOk P w K mg base CX0 (k + 2) f fd ["_law_thing"] (spRuleA K) := by
  have GN : FnOk P w K mg base CX0 (k + 1) fN dN ["_law_thing", "_law_below"] (spBelowA K) := ok_isnum FN B
  refine F.ok scLisRule (fun vs H Q E h => ?_) (fun cdv A outer s H vs Q E hr h => ?_)
  · obtain ⟨v, rfl, _⟩ := h
    rfl
  · obtain ⟨v, rfl, h⟩ := h
    refine ⟨_, pss_cons (ps_if (PW.pt (pw_or (pt_not (pt_val (pe_callB (isiK (K := K)) (by rfl) B.isi (by decide +kernel) (pa_cons (pv 0) (pa_cons (pe_bltn (v := .ty "tuple") (by rfl) B.tuple (by decide +kernel) rfl) pa_nil)))))
        (pw_or1 (pt_not (pt_chain op_lt op_lt pe_int (pe_callB (lenK (K := K)) (by rfl) B.len PySem.boot_len (pa_cons (pv 0) pa_nil)) pe_int)))))
        (pss_one (ps_ret pe_bl)) pss_nil)
      (pss_cons (ps_for PassesOwn.never rfl (piTupK (K := K) (pv 0)) (pg_name (i := 1) scLisRule.nd rfl (.inl rfl))
        (pss_cons (ps_if (PW.pt (pw_or (pt_not (pt_val (pe_callB (isiK (K := K)) (by rfl) B.isi (by decide +kernel) (pa_cons (pv 1) (pa_cons (pe_bltn (v := .ty "tuple") (by rfl) B.tuple (by decide +kernel) rfl) pa_nil)))))
          (pw_or1 (pt_not (pt_val (pe_callB (allK (K := K) rfl) (by rfl) B.all (by decide +kernel) (pa_cons
            (pe_lc (own := [("_law_one", 2)]) (g := gName 2) (by rfl) scLisRule.nd (piTupK (K := K) (pv 1))
              (blkOk_by (own := [("_law_one", 2)]) (N := nLisRule) (sc := defScope sLisRule) (by decide +kernel))
              (fun _ _ _ _ _ => pg_name (i := 2) scLisRule.nd rfl (Or.inl rfl)) (fun _ _ _ _ _ => pts_nil)
              (fun _ _ _ _ _ => pe_call GN hr (by rfl) gN FN.kp bN .nil pass0 (pa_cons (pv 2) (pa_cons (pe_callB (lenK (K := K)) (by rfl) B.len PySem.boot_len (pa_cons (pv 0) pa_nil)) pa_nil)))) pa_nil)))))))
          (pss_one (ps_ret pe_bl)) pss_nil)
        (pss_one (ps_if (pt_cmpR (op_neD hr.units) (pe_callTy (lstOfK (K := K)) (by rfl) mlist (by decide +kernel) (pa_cons (pv 1) pa_nil))
            (pe_callB (cr_sortedSet rfl) (by rfl) msort (by decide +kernel) (pa_cons (pe_callTy (setTI (K := K) rfl) (by rfl) mset (by decide +kernel) (pa_cons (pv 1) pa_nil)) pa_nil)) (nomark _))
          (pss_one (ps_ret pe_bl)) pss_nil))))
      (pss_one (ps_ret pe_bl))), ?_⟩
    rcases h with ⟨d, n, hd, fit, q⟩ | ⟨a, rfl, ha, q⟩
    · refine ⟨v, rfl, _, _, _, _, isT d, rfl, .ty "tuple", tyD hd, kit_ty (kitT d), _, rfl, ?_⟩
      cases d with
      | bool b => exact iteT (q H (Same.refl _))
      | int i => exact iteT (q H (Same.refl _))
      | none => exact iteT (q H (Same.refl _))
      | str x => exact iteT (q H (Same.refl _))
      | list x => exact iteT (q H (Same.refl _))
      | dict x => cases hd
      | tuple ds =>
        refine iteF ?_
        cases hd with
        | @tup a xs _ hs ha =>
        unfold Fit at fit
        have lx := DpAll.len ha
        have len : (xs.length : Int) = (ds.length : Nat) := by rw [lx]
        refine ⟨.ref a, rfl, a, _, rfl, .inr hs, 0, _, rfl, rfl, _, rfl, ?_⟩
        by_cases h1 : (0 : Int) < (xs.length : Int)
        · rw [decide_eq_true h1]
          refine iteT ⟨_, 17, rfl, rfl, _, rfl, ?_⟩
          by_cases h16 : (xs.length : Int) < 17
          · rw [decide_eq_true h16]
            refine iteF ?_
            have pre : ruleD (.tuple ds) = ds.all (ascD ds.length) := by
              simp only [ruleD, decide_eq_true (show 1 ≤ ds.length by omega), decide_eq_true (show ds.length ≤ 16 by omega), Bool.true_and]
            rw [pre] at q
            refine ⟨.ref a, rfl, a, rfl, ⟨_, hs⟩, for_it (walk_tup (K := K) (a := a) (xs := xs)) (fun i σ H' => ∃ (y1 y2 : Option V), σ = [some (.ref a), y1, y2] ∧ Same H H' ∧ (ds.take i).all (ascD ds.length) = true) ⟨none, none, rfl, Same.refl _, by simp⟩ (fun i σ H' _ h => ?_) ?_ ?_⟩
            · obtain ⟨_, _, _, sm, _⟩ := h
              exact Nm.Same.seqT sm hs
            · rintro i x σ H1 H2 hi ⟨y1, y2, rfl, sm, al⟩ ⟨rfl, hx⟩
              obtain ⟨r, hri, dp⟩ := DpAll.at ha hx
              have dp1 := dpS sm _ _ dp
              have fr := fit.2 r (List.mem_of_getElem? hri)
              refine ⟨x, rfl, _, _, _, _, isT r, rfl, .ty "tuple", tyD dp1, kit_ty (kitT r), _, rfl, ?_⟩
              have no : ascD ds.length r = false → ∀ H', Same H H' → Q (.bl false) H' := fun e H' s' => by
                have z := q H' s'
                rw [all_no hri e] at z
                exact z
              cases r with
              | bool b => exact iteT (no rfl _ sm)
              | int i => exact iteT (no rfl _ sm)
              | none => exact iteT (no rfl _ sm)
              | str x => exact iteT (no rfl _ sm)
              | list x => exact iteT (no rfl _ sm)
              | dict x => cases dp
              | tuple es =>
                refine iteF ?_
                cases dp1 with
                | @tup c zs _ hc hz =>
                have fl : es.length ≤ 40 := by
                  cases n with
                  | zero => unfold Fit at fr; exact fr.elim
                  | succ n => unfold Fit at fr; exact fr.1
                have lz := DpAll.len hz
                refine ⟨.ref c, rfl, c, rfl, ⟨_, hc⟩, fun D nD => ?_⟩
                have sD := same_upd (o := .lst []) nD
                refine lc_tup (K := K) (a := c) (xs := zs) (fun i H3 => H3 D = some (.lst (((es.take i).map (belowD ds.length)).map V.bl)) ∧ Same H2 H3) ⟨upd_same, sD⟩ (fun i H3 _ h => Nm.Same.seqT h.2 hc) ?_ ?_
                · rintro m y H3 hy ⟨hD, s3⟩
                  obtain ⟨e, hei, de⟩ := DpAll.at hz hy
                  refine ⟨rfl, yesI ⟨y, rfl, .ref a, rfl, a, _, rfl, .inr (Nm.Same.seqT (sm.trans s3) hs), y, e, _, rfl, dpS s3 _ _ de, _, hD, ?_, ?_, ?_⟩⟩
                  · rw [List.length_map, List.length_map, List.length_take]
                    exact lenLine (by omega)
                  · rw [upd_same, List.take_add_one, hei, List.map_append, List.map_append, len]
                    rfl
                  · intro b o hb
                    rw [upd_ne (ne_of_none hb nD)]
                    exact s3 _ _ hb
                rintro H3 ⟨hD, s3⟩
                rw [lz] at hD
                refine ⟨D, _, rfl, SqL.of hD, _, rfl, ?_⟩
                rw [all_take]
                cases hall : es.all (belowD ds.length) with
                | false => exact iteT (no (by simp only [ascD, hall, Bool.false_and]) _ (sm.trans s3))
                | true =>
                  refine iteF ?_
                  have ex := dp_ints hz hall
                  obtain ⟨ns, ens⟩ : ∃ ns, ns = es.map toI := ⟨_, rfl⟩
                  rw [← ens] at ex
                  have ln : ns.length = es.length := by rw [ens, List.length_map]
                  subst ex
                  have ea : ascD ds.length (.tuple es) = decide (ns.Pairwise (· < ·)) := by
                    simp only [ascD, hall, Bool.true_and, ens]
                  have hc3 := Nm.Same.seqT s3 hc
                  refine ⟨.ref c, rfl, c, _, rfl, .inr hc3, fun L nL => ?_⟩
                  have sL := same_upd (o := .lst (ns.map V.int)) nL
                  refine ⟨.ref c, rfl, c, ns, rfl, Nm.Same.seqT sL hc3, by omega, fun S k nS hk => ?_⟩
                  have sS := same_upd (H := upd H3 L (.lst (ns.map V.int))) (o := SetO w S (fun j => decide (j ∈ ns)) k) nS
                  refine ⟨S, _, k, rfl, upd_same, by omega, fun ms g srt mem _ ng => ?_⟩
                  have sg := same_upd (H := upd (upd H3 L (.lst (ns.map V.int))) S (SetO w S (fun j => decide (j ∈ ns)) k)) (o := .lst (ms.map V.int)) ng
                  have hL := sg _ _ (sS _ _ (upd_same (H := H3) (a := L) (o := .lst (ns.map V.int))))
                  refine ⟨.list (ns.map PyData.int), .list (ms.map PyData.int), .lst (SqL.of hL) (dpInts ns), .lst (SqL.of upd_same) (dpInts ms), shapedL ns, shapedL ms, _, rfl, ?_⟩
                  have eq : PyData.eqv (.list (ns.map PyData.int)) (.list (ms.map PyData.int)) = decide (ns.Pairwise (· < ·)) := by
                    rw [PyData.eqv, eqvI, same_asc srt mem]
                  rw [eq]
                  have sAll := sm.trans (s3.trans (sL.trans (sS.trans sg)))
                  by_cases pw : ns.Pairwise (· < ·)
                  · rw [decide_eq_true pw] at ea ⊢
                    refine iteF ⟨_, _, rfl, sAll, ?_⟩
                    rw [List.take_add_one, hri, List.all_append, al]
                    simp [ea]
                  · rw [decide_eq_false pw] at ea ⊢
                    exact iteT (no ea _ sAll)
            · rintro σ H1 ⟨y1, y2, rfl, sm, al⟩
              rw [lx, List.take_length] at al
              have z := q H1 sm
              rw [al] at z
              exact z
          · rw [decide_eq_false h16]
            have z := q H (Same.refl _)
            simp only [ruleD, decide_eq_false (show ¬ ds.length ≤ 16 by omega), Bool.and_false, Bool.false_and] at z
            exact iteT z
        · rw [decide_eq_false h1]
          have z := q H (Same.refl _)
          simp only [ruleD, decide_eq_false (show ¬ 1 ≤ ds.length by omega), Bool.false_and] at z
          exact iteF ⟨_, rfl, iteT z⟩
    · exact ⟨.ref a, rfl, _, _, _, _, false, rfl, .ty "tuple", .base (.dK ha), kit_ty (by decide +kernel), _, rfl, iteT q⟩
end
end Nm

namespace GL
open PySem PySem.Spec PyProof.Rows L2
theorem PW.no {X : Cx} {b : Expr} {rest : List Expr} {pos : Pos} : PW X (.BoolOp .Or (b :: rest) pos) (fun _ _ _ => False) := ⟨fun _ _ _ _ _ _ _ h => h.elim⟩
theorem pss_no {X : Cx} {ss : List Stmt} : PSs X ss (fun _ _ _ => False) := ⟨fun _ _ _ _ _ _ h => h.elim⟩
end GL
namespace Nm
open PySem PySem.Spec PyProof.Rows L2 GL
abbrev sOdd : Stmt := topS 16
abbrev sBent : Stmt := topS 17
abbrev nOdd : List Str := ["_law_pot_here", "_law_part", "_law_some_here", "_law_changed_here"]
theorem scOdd : FnScope nOdd ["_law_pot_here", "_law_part"] (defScope sOdd) := ⟨rfl, rfl, rfl, by decide +kernel, rfl, by decide +kernel, by decide +kernel⟩
abbrev nBent : List Str := ["_law_pot_here", "_law_thing", "_law_depth", "_law_at"]
theorem scBent : FnScope nBent ["_law_pot_here", "_law_thing", "_law_depth"] (defScope sBent) := ⟨rfl, rfl, rfl, by decide +kernel, rfl, by decide +kernel, by decide +kernel⟩
/-! ### tuples in tuples of numbers, and what is made of them -/
def Tint : Nat → PyData → Prop
  | 0, .int i => -50 < i ∧ i < 50
  | n + 1, .tuple ds => ds.length ≤ 30 ∧ ∀ x ∈ ds, Tint n x
  | _, _ => False
theorem fit_up : ∀ (n : Nat) (d : PyData), Fit n d → Fit (n + 1) d
  | n, .none, _ => by unfold Fit; trivial
  | n, .bool b, _ => by unfold Fit; trivial
  | n, .int i, h => by unfold Fit at h ⊢; exact h
  | n, .str x, h => by unfold Fit at h ⊢; exact h
  | 0, .tuple ds, h => by unfold Fit at h; exact h.elim
  | 0, .list ds, h => by unfold Fit at h; exact h.elim
  | n + 1, .tuple ds, h => by
    unfold Fit at h ⊢
    exact ⟨h.1, fun x hx => fit_up n x (h.2 x hx)⟩
  | n + 1, .list ds, h => by
    unfold Fit at h ⊢
    exact ⟨h.1, fun x hx => fit_up n x (h.2 x hx)⟩
  | 0, .dict _, h => by unfold Fit at h; exact h.elim
  | n + 1, .dict _, h => by unfold Fit at h; exact h.elim
theorem tint_fit : ∀ (n : Nat) (d : PyData), Tint n d → Fit n d
  | 0, .int i, h => by
    unfold Tint at h
    unfold Fit
    omega
  | n + 1, .tuple ds, h => by
    unfold Tint at h
    unfold Fit
    exact ⟨by omega, fun x hx => tint_fit n x (h.2 x hx)⟩
  | 0, .none, h => by unfold Tint at h; exact h.elim
  | 0, .bool _, h => by unfold Tint at h; exact h.elim
  | 0, .str _, h => by unfold Tint at h; exact h.elim
  | 0, .list _, h => by unfold Tint at h; exact h.elim
  | 0, .tuple _, h => by unfold Tint at h; exact h.elim
  | 0, .dict _, h => by unfold Tint at h; exact h.elim
  | n + 1, .none, h => by unfold Tint at h; exact h.elim
  | n + 1, .bool _, h => by unfold Tint at h; exact h.elim
  | n + 1, .int _, h => by unfold Tint at h; exact h.elim
  | n + 1, .str _, h => by unfold Tint at h; exact h.elim
  | n + 1, .list _, h => by unfold Tint at h; exact h.elim
  | n + 1, .dict _, h => by unfold Tint at h; exact h.elim
section
variable {P : Program} {w : World} {K : PySem.W.Frag} {mg : Str → Option Value} {base : Heap}
/-- a value with small data, not leaning on the place p -/
def GoodV (K : PySem.W.Frag) (p : Addr) (H : Hp) (m : Nat) (v : V) : Prop := ∃ d, Dp K (rm H p) v d ∧ Fit m d
theorem GoodV.kp {p : Addr} {H H' : Hp} {m : Nat} {v : V} (g : GoodV K p H m v) (k : Kp p H H') : GoodV K p H' m v := by
  obtain ⟨d, h, f⟩ := g
  exact ⟨d, dpS (rm_kp k) _ _ h, f⟩
theorem GoodV.same {p : Addr} {H H' : Hp} {m : Nat} {v : V} (g : GoodV K p H m v) (s : Same H H') : GoodV K p H' m v := g.kp (.of s)
/-- a tuple value by its items' data -/
def DT (K : PySem.W.Frag) (p : Addr) (H : Hp) (v : V) (ds : List PyData) : Prop := ∃ a xs, v = .ref a ∧ SqT K (rm H p) a xs ∧ DpAll K (rm H p) xs ds
theorem DT.same {p : Addr} {H H' : Hp} {v : V} {ds : List PyData} (g : DT K p H v ds) (s : Same H H') : DT K p H' v ds := by
  obtain ⟨a, xs, e, h1, h2⟩ := g
  exact ⟨a, xs, e, Nm.Same.seqT (rm_kp (.of s)) h1, dpSA (rm_kp (.of s)) _ _ h2⟩
theorem DT.dp {p : Addr} {H : Hp} {v : V} {ds : List PyData} (g : DT K p H v ds) : Dp K (rm H p) v (.tuple ds) := by
  obtain ⟨a, xs, rfl, h1, h2⟩ := g
  exact .tup h1 h2
theorem DT.of {p : Addr} {H : Hp} {v : V} {ds : List PyData} (g : Dp K (rm H p) v (.tuple ds)) : DT K p H v ds := by
  cases g with
  | tup h1 h2 => exact ⟨_, _, rfl, h1, h2⟩
theorem DT.new {p t : Addr} {o : HO} {H : Hp} {xs : List V} {ds : List PyData} (hp : H p = some o) (nt : H t = none) (h : DpAll K (rm H p) xs ds) : DT K p (upd H t (.tup xs)) (.ref t) ds :=
  ⟨t, xs, rfl, SqT.of (rm_of (fun z => by rw [z, hp] at nt; cases nt) upd_same), dpSA (rm_kp (.of (same_upd nt))) _ _ h⟩
theorem dt_cat {p : Addr} {o : HO} {H : Hp} {v u : V} {ds es : List PyData} {Q : VK} (hp : H p = some o) (h1 : DT K p H v ds) (h2 : DT K p H u es) (sz : ds.length + es.length ≤ 1000)
    (q : ∀ (w : V) (H' : Hp), Same H H' → DT K p H' w (ds ++ es) → Q w H') : rCatA K v u H Q := by
  obtain ⟨a, xs, rfl, s1, d1⟩ := h1
  obtain ⟨b, ys, rfl, s2, d2⟩ := h2
  have l1 := DpAll.len d1
  have l2 := DpAll.len d2
  refine ⟨a, b, xs, ys, rfl, rfl, Nm.Same.seqT rm_sub s1, Nm.Same.seqT rm_sub s2, Nat.le_trans (by omega : xs.length + ys.length ≤ 1000) (by decide), fun e => ?_, fun _ e => ?_, fun _ _ t nt => ?_⟩
  · subst e
    cases d1
    exact q _ H (Same.refl _) ⟨b, ys, rfl, s2, d2⟩
  · subst e
    cases d2
    rw [List.append_nil] at q
    exact q _ H (Same.refl _) ⟨a, xs, rfl, s1, d1⟩
  · exact q _ _ (same_upd nt) (DT.new hp nt (DpAll.app d1 d2))
theorem dt_cut {p : Addr} {o : HO} {H : Hp} {v : V} {ds : List PyData} {lo hi : Option Int} {Q : VK} (hp : H p = some o) (h1 : DT K p H v ds)
    (q : ∀ (w : V) (H' : Hp), Same H H' → DT K p H' w ((ds.drop (HT.sIx ds.length 0 lo)).take (HT.sIx ds.length ds.length hi - HT.sIx ds.length 0 lo)) → Q w H') : rSlA K v lo hi H Q := by
  obtain ⟨a, xs, rfl, s1, d1⟩ := h1
  have l1 := DpAll.len d1
  refine ⟨a, xs, rfl, Nm.Same.seqT rm_sub s1, fun e => ?_, fun _ t nt => ?_⟩
  · rw [l1] at e
    rw [e.1, e.2, List.drop_zero, Nat.sub_zero, List.take_length] at q
    exact q _ H (Same.refl _) ⟨a, xs, rfl, s1, d1⟩
  · refine q _ _ (same_upd nt) ?_
    unfold cutV
    rw [l1]
    exact DT.new hp nt (DpAll.take _ (DpAll.drop _ d1))
theorem cut_len {α : Type} (l : List α) (i j : Nat) : ((l.drop i).take j).length ≤ l.length := by
  rw [List.length_take, List.length_drop]
  omega
theorem cut_mem {α : Type} {l : List α} {i j : Nat} {x : α} (h : x ∈ (l.drop i).take j) : x ∈ l := List.mem_of_mem_drop (List.mem_of_mem_take h)
theorem cutV_pre (xs ys : List V) : cutV (xs ++ ys) none (some (xs.length : Int)) = xs := by
  unfold cutV
  rw [HT.sIx_nat, HT.sIx_none, List.drop_zero, Nat.sub_zero, List.length_append, Nat.min_eq_left (by omega), List.take_left]
theorem fitT {m : Nat} {ds : List PyData} (l : ds.length ≤ 40) (h : ∀ x ∈ ds, Fit m x) : Fit (m + 1) (.tuple ds) := by
  unfold Fit
  exact ⟨l, h⟩
theorem fitL {m : Nat} {ds : List PyData} (l : ds.length ≤ 40) (h : ∀ x ∈ ds, Fit m x) : Fit (m + 1) (.list ds) := by
  unfold Fit
  exact ⟨l, h⟩
theorem DT.good {p : Addr} {H : Hp} {v : V} {ds : List PyData} {m : Nat} (g : DT K p H v ds) (l : ds.length ≤ 40) (h : ∀ x ∈ ds, Fit m x) : GoodV K p H (m + 1) v := ⟨_, g.dp, fitT l h⟩
theorem str_fit {m : Nat} {i : Int} (h : -50 < i ∧ i < 50) : Fit m (.str (toString i)) := by
  have all : ∀ n : Fin 100, (PyData.str ((toString ((n.val : Int) - 50) : String) : Str)).shown.length ≤ 20 := by decide +kernel
  have z := all ⟨(i + 50).toNat, by omega⟩
  rw [show (((i + 50).toNat : Nat) : Int) - 50 = i by omega] at z
  unfold Fit
  exact z
def spOdd (K : PySem.W.Frag) : Sp := fun vs H Q _ => ∃ (p : Addr) (n j : Nat) (v : V) (d : PyData), vs = [.ref p, v] ∧ Pot H p n ∧ n < 900000 ∧ Dp K (rm H p) v d ∧ Tint j d ∧
  ∀ (v' : V) (H' : Hp), Pot H' p (n + 1) → Kp p H H' → GoodV K p H' (j + 1) v' → Q v' H'
abbrev six : List V := [.non, .bl true, .bl false, .int 0, .int 1, .int (-1)]
abbrev nine : List V := six ++ [.int 15, .int 16, .str ""]
theorem six_good {p : Addr} {H : Hp} {m : Nat} : ∀ x ∈ six, GoodV K p H m x := by
  intro x hx
  simp only [six, List.mem_cons, List.not_mem_nil, or_false] at hx
  rcases hx with rfl | rfl | rfl | rfl | rfl | rfl
  · exact ⟨_, .non, by unfold Fit; trivial⟩
  · exact ⟨_, .bl _, by unfold Fit; trivial⟩
  · exact ⟨_, .bl _, by unfold Fit; trivial⟩
  · exact ⟨_, .int _, by unfold Fit; decide⟩
  · exact ⟨_, .int _, by unfold Fit; decide⟩
  · exact ⟨_, .int _, by unfold Fit; decide⟩
theorem nine_good {p : Addr} {H : Hp} {m : Nat} : ∀ x ∈ nine, GoodV K p H m x := by
  intro x hx
  rcases List.mem_append.mp hx with h | h
  · exact six_good x h
  · simp only [List.mem_cons, List.not_mem_nil, or_false] at h
    rcases h with rfl | rfl | rfl
    · exact ⟨_, .int _, by unfold Fit; decide⟩
    · exact ⟨_, .int _, by unfold Fit; decide⟩
    · exact ⟨_, .str _, by unfold Fit; decide +kernel⟩
set_option maxHeartbeats 4000000 in
theorem ok_odd {f fP fT : Addr} {fd dP dT : FuncData} {k : Nat} (F : Fun K "_law_odd" "_law_odd" sOdd f fd) (FP : Fun K "_law_pick" "_law_pick" sPick fP dP) (bP : Binds K dP ["_law_pot_here", "_law_some_here"] []) (gP : mg "_law_pick" = some (.ref fP))
    (FT : Fun K "_law_take" "_law_take" sTake fT dT) (bT : Binds K dT ["_law_pot_here", "_law_size"] []) (gT : mg "_law_take" = some (.ref fT)) (B : LibJ mg) (mlist : mg "list" = none) (mstr : mg "str" = none) :
    FnOk P w K mg base CX0 (k + 3) f fd ["_law_pot_here", "_law_part"] (spOdd K) := by
  have GP : FnOk P w K mg base CX0 (k + 2) fP dP ["_law_pot_here", "_law_some_here"] (spPick K) := ok_pick FP FT bT gT B.len
  refine F.ok scOdd (fun vs H Q E h => ?_) (fun cdv A outer s H vs Q E hr h => ?_)
  · obtain ⟨p, n, j, v, d, rfl, _⟩ := h
    rfl
  · obtain ⟨p, n, j, v, d, rfl, hp, hn, hd, ti, q⟩ := h
    refine ⟨_, pss_cons (ps_set (i := 2) scOdd.nd rfl (.inl rfl) (pe_cut (pe_lst (pa_cons pe_non (pa_cons pe_bl (pa_cons pe_bl (pa_cons pe_int (pa_cons pe_int (pa_cons (pe_un un_neg pe_int) (pa_cons pe_int (pa_cons pe_int (pa_cons pe_str (pa_cons pe_str
          (pa_cons (pe_tup pa_nil) (pa_cons (pe_lst pa_nil) (pa_cons pe_dnewK (pa_cons (pe_tup (pa_cons pe_int pa_nil)) (pa_cons (pe_tup (pa_cons pe_int (pa_cons pe_int pa_nil))) (pa_cons (pe_tup (pa_cons pe_int (pa_cons pe_int pa_nil))) (pa_cons (pe_tup (pa_cons pe_int (pa_cons pe_int pa_nil))) pa_nil))))))))))))))))))))
      (pss_cons (ps_if (pt_val (pe_callB (isiK (K := K)) (by rfl) B.isi (by decide +kernel) (pa_cons (pv 1) (pa_cons (pe_bltn (v := .ty "tuple") (by rfl) B.tuple (by decide +kernel) rfl) pa_nil))))
          (pss_cons (ps_set (i := 3) scOdd.nd rfl (.inl rfl) (pe_cut (pe_lst (pa_cons (pe_callTy (lstOfK (K := K)) (by rfl) mlist (by decide +kernel) (pa_cons (pv 1) pa_nil))
              (pa_cons (pe_slice sl_tupA (pv 1) po_none (po_some (pe_un un_neg pe_int))) (pa_cons (pe_slice sl_tupA (pv 1) (po_some pe_int) po_none)
              (pa_cons (pe_op op_catA (pv 1) (pe_slice sl_tupA (pv 1) (po_some (pe_un un_neg pe_int)) po_none)) (pa_cons (pe_revT (K := K) (pv 1))
              (pa_cons (pe_tup (pa_cons (pv 1) pa_nil)) (pa_cons (pe_op op_catA (pv 1) (pe_tup (pa_cons pe_int pa_nil))) pa_nil))))))))))
          (pss_one (ps_set (i := 2) scOdd.nd rfl (.inl rfl) (pe_op op_cat (pe_slice sl_list (pv 2) po_none (po_some pe_int)) (pe_op op_rep (pv 3) pe_int)))))
          (pss_one (ps_if (pt_val (pe_callB (isiK (K := K)) (by rfl) B.isi (by decide +kernel) (pa_cons (pv 1) (pa_cons (pe_bltn (v := .ty "str") (by rfl) mstr (by decide +kernel) rfl) pa_nil))))
            pss_no
            (pss_one (ps_if (pt_val (pe_callB (isiK (K := K)) (by rfl) B.isi (by decide +kernel) (pa_cons (pv 1) (pa_cons (pe_bltn (v := .ty "int") (by rfl) B.int (by decide +kernel) rfl) pa_nil))))
              (pss_one (ps_set (i := 2) scOdd.nd rfl (.inl rfl) (pe_op op_cat (pe_slice sl_list (pv 2) po_none (po_some pe_int)) (pe_op op_rep (pe_cut (pe_lst (pa_cons (pe_op op_add (pv 1) pe_int) (pa_cons (pe_op op_sub (pv 1) pe_int)
                (pa_cons (pe_callTy call_str_int (by rfl) mstr (by decide +kernel) (pa_cons (pv 1) pa_nil)) (pa_cons (pe_cmpR op_eq (pv 1) pe_int (nomark _)) (pa_cons (pe_tup (pa_cons (pv 1) pa_nil)) (pa_cons (pe_op op_add (pv 1) pe_int) pa_nil)))))))) pe_int))))
              pss_nil)))))
      (pss_one (ps_ret (pe_call GP hr (by rfl) gP FP.kp bP .nil pass0 (pa_cons (pv 0) (pa_cons (pv 2) pa_nil)))))), ?_⟩
    have hp0 := hp
    obtain ⟨g0, t0, c0, hpl, _⟩ := hp0
    refine ⟨fun v1 H1 => ∃ (L : Addr) (rest : List V), v1 = .ref L ∧ H1 L = some (.lst (nine ++ rest)) ∧ Same H H1, ?_, ?_⟩
    · refine ⟨1, rfl, Nat.zero_le _, fun a1 n1 => ⟨Nat.zero_le _, fun a2 n2 => fun a3 n3 => ⟨by show 1 ≤ sizeLine; decide, fun a4 n4 => ⟨by show 2 ≤ sizeLine; decide, fun a5 n5 => ⟨by show 2 ≤ sizeLine; decide, fun a6 n6 => ⟨by show 2 ≤ sizeLine; decide, fun a7 n7 => ⟨by show 17 ≤ sizeLine; decide, fun L nL => ?_⟩⟩⟩⟩⟩⟩⟩
      exact ⟨L, [.str "a", .ref a1, .ref a2, .ref a3, .ref a4, .ref a5, .ref a6, .ref a7], rfl, upd_same, (same_upd n1).trans ((same_upd n2).trans ((same_upd n3).trans ((same_upd n4).trans ((same_upd n5).trans ((same_upd n6).trans ((same_upd n7).trans (same_upd nL)))))))⟩
    rintro v1 H1 ⟨L, rest, rfl, hL, s1⟩
    have hd1 : Dp K (rm H1 p) v d := dpS (rm_kp (.of s1)) _ _ hd
    have fin : ∀ (L3 : Addr) (zs : List V) (H3 : Hp), Same H1 H3 → H3 L3 = some (.lst zs) → L3 ≠ p → zs ≠ [] → zs.length < 1000 → (∀ x ∈ zs, GoodV K p H3 (j + 1) x) → spPick K [.ref p, .ref L3] H3 Q E0 := by
      intro L3 zs H3 s3 hz ne nz lz gz
      refine ⟨p, L3, n, zs, rfl, (hp.same s1).same s3, by omega, SqL.of hz, ne, nz, by omega, fun i x H4 hx hp4 kp4 => ?_⟩
      exact q x H4 hp4 (((Kp.of s1).trans (.of s3)).trans kp4) ((gz x (List.mem_of_getElem? hx)).kp kp4)
    have hp1 := s1 _ _ hpl
    refine ⟨v, rfl, _, _, _, _, isT d, rfl, .ty "tuple", tyD (dpS rm_sub _ _ hd1), kit_ty (kitT d), _, rfl, ?_⟩
    cases j with
    | zero =>
      cases d with
      | int i =>
        unfold Tint at ti
        refine iteF ⟨v, rfl, _, _, _, _, false, rfl, .ty "str", tyD (dpS rm_sub _ _ hd1), kit_ty (kitS _), _, rfl, iteF ?_⟩
        refine ⟨v, rfl, _, _, _, _, true, rfl, .ty "int", tyD (dpS rm_sub _ _ hd1), kit_ty (kitI _), _, rfl, iteT ?_⟩
        cases hd1
        refine ⟨.ref L, rfl, 9, rfl, L, _, rfl, SqL.of hL, fun a nA => ?_⟩
        rw [show cutV (nine ++ rest) none (some 9) = nine from cutV_pre nine rest]
        have sA := same_upd (o := .lst nine) nA
        refine ⟨fun v2 H2 => ∃ (L2 : Addr) (cs : List V), v2 = .ref L2 ∧ H2 L2 = some (.lst cs) ∧ cs.length = 6 ∧ (∀ x ∈ cs, GoodV K p H2 1 x) ∧ Same (upd H1 a (.lst nine)) H2, ?_, ?_⟩
        · refine ⟨.int i, rfl, i, 1, rfl, rfl, .int i, rfl, i, 1, rfl, rfl, .int i, rfl, i, rfl, ?_, .int i, rfl, rfl, .int i, rfl, by show 1 ≤ sizeLine; decide, fun t nt => ⟨.int i, rfl, i, 16, rfl, rfl, by show 6 ≤ sizeLine; decide, fun L2 nL2 => ?_⟩⟩
          · have z := (int_fine (i := i) (by omega)).2
            simpa [PyData.showable] using z
          have st := same_upd (o := .tup [.int i]) nt
          have hpA := sA _ _ hp1
          have dt := DT.new (K := K) hpA nt (DpAll.cons (.int i) .nil)
          have sL := same_upd (H := upd (upd H1 a (.lst nine)) t (.tup [.int i])) (o := .lst [.int (i + 1), .int (i - 1), .str (toString i), .bl (decide (V.int i = V.int 1)), .ref t, .int (i + 16)]) nL2
          refine ⟨L2, _, rfl, upd_same, rfl, fun x hx => ?_, st.trans sL⟩
          simp only [List.mem_cons, List.not_mem_nil, or_false] at hx
          rcases hx with rfl | rfl | rfl | rfl | rfl | rfl
          · exact ⟨_, .int _, by unfold Fit; omega⟩
          · exact ⟨_, .int _, by unfold Fit; omega⟩
          · exact ⟨_, .str _, str_fit ti⟩
          · exact ⟨_, .bl _, by unfold Fit; trivial⟩
          · exact (dt.good (m := 0) (by show 1 ≤ 40; decide) (fun y hy => by rw [List.mem_singleton.mp hy]; unfold Fit; omega)).same sL
          · exact ⟨_, .int _, by unfold Fit; omega⟩
        rintro v2 H2 ⟨L2, cs, rfl, hL2, l6, gc, s2⟩
        have hA2 := s2 _ _ (upd_same (H := H1) (a := a) (o := .lst nine))
        refine ⟨L2, 2, cs, rfl, rfl, hL2, by decide, by decide, Nat.le_trans (by rw [l6]; decide) (by decide : (12 : Nat) ≤ sizeLine), fun b nB => ?_⟩
        have sB := same_upd (o := .lst (List.replicate (2 : Int).toNat cs).flatten) nB
        have e2 : (List.replicate (2 : Int).toNat cs).flatten = cs ++ cs := by
          show (List.replicate 2 cs).flatten = cs ++ cs
          simp [List.replicate]
        refine ⟨a, b, nine, cs ++ cs, rfl, rfl, sB _ _ hA2, by rw [← e2]; exact upd_same, Nat.le_trans (by have lc : (cs ++ cs).length = 12 := (by rw [List.length_append, l6]); show 9 + (cs ++ cs).length ≤ 21; omega) (by decide : (21 : Nat) ≤ sizeLine), fun c nC => ?_⟩
        have sC := same_upd (H := upd H2 b (.lst (List.replicate (2 : Int).toNat cs).flatten)) (o := .lst (nine ++ (cs ++ cs))) nC
        have sT := sA.trans (s2.trans (sB.trans sC))
        refine ⟨.ref p, rfl, .ref c, rfl, fin c _ _ sT upd_same (fun z => ?_) (by simp [nine, six]) (by have lc : (cs ++ cs).length = 12 := (by rw [List.length_append, l6]); rw [List.length_append]; show 9 + (cs ++ cs).length < 1000; omega) (fun x hx => ?_)⟩
        · have y := sB _ _ (s2 _ _ (sA _ _ hp1))
          rw [← z, nC] at y
          cases y
        · rcases List.mem_append.mp hx with h | h
          · exact nine_good x h
          · have hc : x ∈ cs := by
              rcases List.mem_append.mp h with h | h
              · exact h
              · exact h
            exact (gc x hc).same (sB.trans sC)
      | none => unfold Tint at ti; exact ti.elim
      | bool _ => unfold Tint at ti; exact ti.elim
      | str _ => unfold Tint at ti; exact ti.elim
      | list _ => unfold Tint at ti; exact ti.elim
      | tuple _ => unfold Tint at ti; exact ti.elim
      | dict _ => unfold Tint at ti; exact ti.elim
    | succ m =>
      cases d with
      | tuple ds =>
        have fd0 := tint_fit _ _ ti
        unfold Tint at ti
        have ft : ∀ x ∈ ds, Fit m x := fun x hx => tint_fit m x (ti.2 x hx)
        have ft1 : ∀ x ∈ ds, Fit (m + 1) x := fun x hx => fit_up m x (ft x hx)
        have l30 := ti.1
        have dt1 := DT.of hd1
        refine iteT ⟨fun v2 H2 => ∃ (L2 : Addr) (cs : List V), v2 = .ref L2 ∧ H2 L2 = some (.lst cs) ∧ cs.length = 7 ∧ (∀ x ∈ cs, GoodV K p H2 (m + 2) x) ∧ Same H1 H2, ?_, ?_⟩
        · obtain ⟨a, xs, rfl, sq, da⟩ := id dt1
          refine ⟨.ref a, rfl, a, xs, rfl, .inr (Nm.Same.seqT rm_sub sq), fun l nl => ?_⟩
          have sl := same_upd (o := .lst xs) nl
          have nlp : l ≠ p := fun z => by rw [z, hp1] at nl; cases nl
          have g1 : GoodV K p (upd H1 l (.lst xs)) (m + 2) (.ref l) := ⟨.list ds, .lst (SqL.of (rm_of nlp upd_same)) (dpSA (rm_kp (.of sl)) _ _ da), fitL (by omega) ft1⟩
          refine ⟨.ref a, rfl, 1, rfl, -1, rfl, dt_cut (sl _ _ hp1) (dt1.same sl) fun w2 Hb sb t2 => ?_⟩
          have s2 := sl.trans sb
          have g2 := t2.good (m := m + 1) (Nat.le_trans (cut_len _ _ _) (by omega)) fun x hx => ft1 x (cut_mem hx)
          refine ⟨.ref a, rfl, 1, rfl, ?_⟩
          dsimp only [tNoPart]
          refine dt_cut (s2 _ _ hp1) (dt1.same s2) fun w3 Hc sc t3 => ?_
          have s3 := s2.trans sc
          have g3 := t3.good (m := m + 1) (Nat.le_trans (cut_len _ _ _) (by omega)) fun x hx => ft1 x (cut_mem hx)
          refine ⟨.ref a, rfl, .ref a, rfl, 1, rfl, -1, rfl, ?_⟩
          dsimp only [tNoPart]
          refine dt_cut (s3 _ _ hp1) (dt1.same s3) fun w4 Hd sd t4 => ?_
          have s4 := s3.trans sd
          have l4 : ((ds.drop (HT.sIx ds.length 0 (some (-1)))).take (HT.sIx ds.length ds.length none - HT.sIx ds.length 0 (some (-1)))).length ≤ 1 := by
            show ((ds.drop ((-1 : Int) + (ds.length : Int)).toNat).take (ds.length - ((-1 : Int) + (ds.length : Int)).toNat)).length ≤ 1
            rw [List.length_take]
            omega
          refine dt_cat (s4 _ _ hp1) (dt1.same s4) t4 (by omega) fun w5 He se t5 => ?_
          have s5 := s4.trans se
          have g5 := t5.good (m := m + 1) (by rw [List.length_append]; omega) fun x hx => by
            rcases List.mem_append.mp hx with h | h
            · exact ft1 x h
            · exact ft1 x (cut_mem h)
          refine ⟨.ref a, rfl, a, xs, rfl, Nm.Same.seqT rm_sub (Nm.Same.seqT (rm_kp (.of s5)) sq), fun r nr => ?_⟩
          have sr := same_upd (o := .tup xs.reverse) nr
          have t6 := DT.new (s5 _ _ hp1) nr (DpAll.rev (dpSA (rm_kp (.of s5)) _ _ da))
          have g6 := t6.good (m := m + 1) (by rw [List.length_reverse]; omega) fun x hx => ft1 x (List.mem_reverse.mp hx)
          have s6 := s5.trans sr
          refine ⟨.ref a, rfl, by show 1 ≤ sizeLine; decide, fun u nu => ?_⟩
          have su := same_upd (o := .tup [.ref a]) nu
          have t7 := DT.new (s6 _ _ hp1) nu (DpAll.cons (dt1.same s6).dp .nil)
          have g7 := t7.good (m := m + 1) (by show 1 ≤ 40; decide) fun x hx => by
            rw [List.mem_singleton.mp hx]
            exact fd0
          have s7 := s6.trans su
          refine ⟨.ref a, rfl, by show 1 ≤ sizeLine; decide, fun y ny => ?_⟩
          have sy := same_upd (o := .tup [.int 0]) ny
          have t8 := DT.new (K := K) (s7 _ _ hp1) ny (DpAll.cons (.int 0) .nil)
          have s8 := s7.trans sy
          refine dt_cat (s8 _ _ hp1) (dt1.same s8) t8 (by simp; omega) fun w9 Hi si t9 => ?_
          have g9 := t9.good (m := m + 1) (by rw [List.length_append]; simp; omega) fun x hx => by
            rcases List.mem_append.mp hx with h | h
            · exact ft1 x h
            · rw [List.mem_singleton.mp h]
              unfold Fit
              decide
          have s9 := s8.trans si
          refine ⟨by show 7 ≤ sizeLine; decide, fun L2 nL2 => ?_⟩
          have sL := same_upd (o := .lst [.ref l, w2, w3, w5, .ref r, .ref u, w9]) nL2
          refine ⟨L2, _, rfl, upd_same, rfl, fun x hx => ?_, s9.trans sL⟩
          simp only [List.mem_cons, List.not_mem_nil, or_false] at hx
          have tail9 := si.trans sL
          have tail8 := sy.trans tail9
          have tail7 := su.trans tail8
          have tail6 := sr.trans tail7
          have tail5 := se.trans tail6
          have tail4 := sd.trans tail5
          have tail3 := sc.trans tail4
          have tail2 := sb.trans tail3
          rcases hx with rfl | rfl | rfl | rfl | rfl | rfl | rfl
          · exact g1.same tail2
          · exact g2.same tail3
          · exact g3.same tail4
          · exact g5.same tail6
          · exact g6.same tail7
          · exact g7.same tail8
          · exact g9.same sL
        rintro v2 H2 ⟨L2, cs, rfl, hL2, l7, gc, s2⟩
        refine ⟨.ref L, rfl, 6, rfl, L, _, rfl, SqL.of (s2 _ _ hL), fun a nA => ?_⟩
        rw [show cutV (nine ++ rest) none (some 6) = six from cutV_pre six ([.int 15, .int 16, .str ""] ++ rest)]
        have sA := same_upd (o := .lst six) nA
        refine ⟨.ref L2, rfl, L2, 2, cs, rfl, rfl, sA _ _ hL2, by decide, by decide, Nat.le_trans (by rw [l7]; decide) (by decide : (14 : Nat) ≤ sizeLine), fun b nB => ?_⟩
        have sB := same_upd (o := .lst (List.replicate (2 : Int).toNat cs).flatten) nB
        have e2 : (List.replicate (2 : Int).toNat cs).flatten = cs ++ cs := by
          show (List.replicate 2 cs).flatten = cs ++ cs
          simp [List.replicate]
        refine ⟨a, b, six, cs ++ cs, rfl, rfl, sB _ _ upd_same, by rw [← e2]; exact upd_same, Nat.le_trans (by have lc : (cs ++ cs).length = 14 := (by rw [List.length_append, l7]); show 6 + (cs ++ cs).length ≤ 20; omega) (by decide : (20 : Nat) ≤ sizeLine), fun c nC => ?_⟩
        have sC := same_upd (H := upd (upd H2 a (.lst six)) b (.lst (List.replicate (2 : Int).toNat cs).flatten)) (o := .lst (six ++ (cs ++ cs))) nC
        have sT := s2.trans (sA.trans (sB.trans sC))
        refine ⟨.ref p, rfl, .ref c, rfl, fin c _ _ sT upd_same (fun z => ?_) (by simp [six]) (by have lc : (cs ++ cs).length = 14 := (by rw [List.length_append, l7]); rw [List.length_append]; show 6 + (cs ++ cs).length < 1000; omega) (fun x hx => ?_)⟩
        · have y := sB _ _ (sA _ _ (s2 _ _ hp1))
          rw [← z, nC] at y
          cases y
        · rcases List.mem_append.mp hx with h | h
          · exact six_good x h
          · have hc : x ∈ cs := by
              rcases List.mem_append.mp h with h | h
              · exact h
              · exact h
            exact (gc x hc).same (sA.trans (sB.trans sC))
      | none => unfold Tint at ti; exact ti.elim
      | bool _ => unfold Tint at ti; exact ti.elim
      | str _ => unfold Tint at ti; exact ti.elim
      | list _ => unfold Tint at ti; exact ti.elim
      | int _ => unfold Tint at ti; exact ti.elim
      | dict _ => unfold Tint at ti; exact ti.elim
theorem DT.kp {p : Addr} {H H' : Hp} {v : V} {ds : List PyData} (g : DT K p H v ds) (s : Kp p H H') : DT K p H' v ds := by
  obtain ⟨a, xs, e, h1, h2⟩ := g
  exact ⟨a, xs, e, Nm.Same.seqT (rm_kp s) h1, dpSA (rm_kp s) _ _ h2⟩
def spBent (K : PySem.W.Frag) (j : Nat) : Sp := fun vs H Q _ => ∃ (p : Addr) (n : Nat) (v : V) (d : PyData), vs = [.ref p, v, .int j] ∧ Pot H p n ∧ n + 3 * j < 800000 ∧ Dp K (rm H p) v d ∧ Tint j d ∧
  ∀ (v' : V) (H' : Hp), Pot H' p (n + 3 * j + 3) → Kp p H H' → GoodV K p H' (j + 1) v' → Q v' H'
theorem shapedInt {j : Nat} {d : PyData} (h : Tint j d) (h2 : j ≤ 3) : SeqAt.shaped d = true := by
  have f := fit_fine j d (tint_fit j d h)
  have lay : ∀ (j : Nat) (d : PyData), Tint j d → PyData.canLay0 d = true := by
    intro j
    induction j with
    | zero =>
      intro d h
      cases d <;> first | rfl | (unfold Tint at h; exact h.elim)
    | succ j ih =>
      intro d h
      cases d with
      | tuple ds =>
        unfold Tint at h
        have all : ∀ ds : List PyData, (∀ x ∈ ds, Tint j x) → PyData.canLayAll0 ds = true := by
          intro ds
          induction ds with
          | nil => intro _; simp [PyData.canLayAll0]
          | cons x r ihr =>
            intro hx
            simp [PyData.canLayAll0, ih x (hx x List.mem_cons_self), ihr fun y hy => hx y (List.mem_cons_of_mem _ hy)]
        simp only [PyData.canLay0]
        exact all ds h.2
      | none => unfold Tint at h; exact h.elim
      | bool _ => unfold Tint at h; exact h.elim
      | int _ => unfold Tint at h; exact h.elim
      | str _ => unfold Tint at h; exact h.elim
      | list _ => unfold Tint at h; exact h.elim
      | dict _ => unfold Tint at h; exact h.elim
  have := f.dp
  simp only [SeqAt.shaped, lay j d h, Bool.true_and]
  exact decide_eq_true (by omega)
theorem eqv_empty (ds : List PyData) : PyData.eqv (.tuple ds) (.tuple []) = ds.isEmpty := by
  cases ds <;> rfl
set_option maxHeartbeats 4000000 in
theorem ok_bent {f fO fP fT : Addr} {fd dO dP dT : FuncData} {k : Nat} (F : Fun K "_law_bent" "_law_bent" sBent f fd) (bF : Binds K fd ["_law_pot_here", "_law_thing", "_law_depth"] []) (gF : mg "_law_bent" = some (.ref f))
    (FO : Fun K "_law_odd" "_law_odd" sOdd fO dO) (bO : Binds K dO ["_law_pot_here", "_law_part"] []) (gO : mg "_law_odd" = some (.ref fO)) (FP : Fun K "_law_pick" "_law_pick" sPick fP dP) (bP : Binds K dP ["_law_pot_here", "_law_some_here"] []) (gP : mg "_law_pick" = some (.ref fP))
    (FT : Fun K "_law_take" "_law_take" sTake fT dT) (bT : Binds K dT ["_law_pot_here", "_law_size"] []) (gT : mg "_law_take" = some (.ref fT)) (B : LibJ mg) (mlist : mg "list" = none) (mstr : mg "str" = none) :
    ∀ j : Nat, j ≤ 3 → FnOk P w K mg base CX0 (k + j + 4) f fd ["_law_pot_here", "_law_thing", "_law_depth"] (spBent K j) := by
  intro j
  induction j with
  | zero =>
    intro _
    have GO : FnOk P w K mg base CX0 (k + 3) fO dO ["_law_pot_here", "_law_part"] (spOdd K) := ok_odd FO FP bP gP FT bT gT B mlist mstr
    refine F.ok scBent (fun vs H Q E h => ?_) (fun cdv A outer s H vs Q E hr h => ?_)
    · obtain ⟨p, n, v, d, rfl, _⟩ := h
      rfl
    · obtain ⟨p, n, v, d, rfl, hp, hn, hd, ti, q⟩ := h
      refine ⟨_, pss_cons (ps_if (PW.pt (pw_or (pt_not (pt_val (pe_callB (isiK (K := K)) (by rfl) B.isi (by decide +kernel) (pa_cons (pv 1) (pa_cons (pe_bltn (v := .ty "tuple") (by rfl) B.tuple (by decide +kernel) rfl) pa_nil))))) (PW.no)))
          (pss_one (ps_ret (pe_call GO hr (by rfl) gO FO.kp bO .nil pass0 (pa_cons (pv 0) (pa_cons (pv 1) pa_nil))))) pss_nil) pss_no, ?_⟩
      refine ⟨v, rfl, _, _, _, _, isT d, rfl, .ty "tuple", tyD (dpS rm_sub _ _ hd), kit_ty (kitT d), _, rfl, ?_⟩
      cases d with
      | int i =>
        refine iteT ⟨.ref p, rfl, v, rfl, p, n, 0, v, _, rfl, hp, by omega, hd, ti, fun v' H' hp' kp' g => ?_⟩
        exact q v' H' (hp'.mono (by omega)) kp' g
      | tuple _ => unfold Tint at ti; exact ti.elim
      | none => unfold Tint at ti; exact ti.elim
      | bool _ => unfold Tint at ti; exact ti.elim
      | str _ => unfold Tint at ti; exact ti.elim
      | list _ => unfold Tint at ti; exact ti.elim
      | dict _ => unfold Tint at ti; exact ti.elim
  | succ j ih =>
    intro j3
    have GB : FnOk P w K mg base CX0 (k + j + 4) f fd ["_law_pot_here", "_law_thing", "_law_depth"] (spBent K j) := ih (by omega)
    have GO : FnOk P w K mg base CX0 (k + j + 4) fO dO ["_law_pot_here", "_law_part"] (spOdd K) := ok_odd (k := k + j + 1) FO FP bP gP FT bT gT B mlist mstr
    have GT : FnOk P w K mg base CX0 (k + j + 4) fT dT ["_law_pot_here", "_law_size"] (spTake K) := ok_take FT
    refine F.ok scBent (fun vs H Q E h => ?_) (fun cdv A outer s H vs Q E hr h => ?_)
    · obtain ⟨p, n, v, d, rfl, _⟩ := h
      rfl
    · obtain ⟨p, n, v, d, rfl, hp, hn, hd, ti, q⟩ := h
      refine ⟨_, pss_cons (ps_if (PW.pt (pw_or (pt_not (pt_val (pe_callB (isiK (K := K)) (by rfl) B.isi (by decide +kernel) (pa_cons (pv 1) (pa_cons (pe_bltn (v := .ty "tuple") (by rfl) B.tuple (by decide +kernel) rfl) pa_nil)))))
          (pw_or (pt_cmpR (op_eqD hr.units) (pv 1) (pe_tup pa_nil) (nomark _)) (pw_or (pt_cmpR op_eq (pv 2) pe_int (nomark _))
          (pw_or1 (pt_cmpR op_eq (pe_call GT hr (by rfl) gT FT.kp bT .nil pass0 (pa_cons (pv 0) (pa_cons pe_int pa_nil))) pe_int (nomark _)))))))
          (pss_one (ps_ret (pe_call GO hr (by rfl) gO FO.kp bO .nil pass0 (pa_cons (pv 0) (pa_cons (pv 1) pa_nil))))) pss_nil)
        (pss_cons (ps_set (i := 3) scBent.nd rfl (.inl rfl) (pe_call GT hr (by rfl) gT FT.kp bT .nil pass0 (pa_cons (pv 0) (pa_cons (pe_callB (lenK (K := K)) (by rfl) B.len PySem.boot_len (pa_cons (pv 1) pa_nil)) pa_nil))))
        (pss_one (ps_ret (pe_op op_catA (pe_op op_catA (pe_slice sl_tupA (pv 1) po_none (po_some (pv 3)))
            (pe_tup (pa_cons (pe_call GB hr (by rfl) gF F.kp bF .nil pass0 (pa_cons (pv 0) (pa_cons (pe_ix (ixTupK (K := K)) (pv 1) (pv 3) (fun _ _ => rfl)) (pa_cons (pe_op op_sub (pv 2) pe_int) pa_nil)))) pa_nil)))
          (pe_slice sl_tupA (pv 1) (po_some (pe_op op_add (pv 3) pe_int)) po_none))))), ?_⟩
      have od : ∀ (H' : Hp) (n' : Nat), Kp p H H' → Pot H' p n' → n' ≤ n + 3 * j + 5 → spOdd K [.ref p, v] H' Q E0 := fun H' n' k' hp' le => by
        refine ⟨p, n', j + 1, v, d, rfl, hp', by omega, dpS (rm_kp k') _ _ hd, ti, fun v' H2 hp2 kp2 g => ?_⟩
        exact q v' H2 (hp2.mono (by omega)) (k'.trans kp2) g
      refine ⟨v, rfl, _, _, _, _, isT d, rfl, .ty "tuple", tyD (dpS rm_sub _ _ hd), kit_ty (kitT d), _, rfl, ?_⟩
      cases d with
      | tuple ds =>
        have tiw := ti
        unfold Tint at ti
        refine iteF ?_
        have dt := DT.of hd
        refine ⟨v, rfl, Nat.zero_le _, fun e ne => ?_⟩
        have se := same_upd (o := .tup []) ne
        refine ⟨.tuple ds, .tuple [], dpS rm_sub _ _ (dt.same se).dp, .tup (SqT.of upd_same) .nil, shapedInt tiw j3, by decide, _, rfl, ?_⟩
        rw [eqv_empty]
        have hpe := hp.same se
        cases hE : ds.isEmpty with
        | true => exact iteT ⟨.ref p, rfl, v, rfl, od _ _ (.of se) hpe (by omega)⟩
        | false =>
          refine iteF ?_
          have lds : 1 ≤ ds.length := by
            rcases ds with _ | ⟨x, r⟩
            · cases hE
            · exact Nat.succ_le_succ (Nat.zero_le _)
          refine ⟨.int ((j + 1 : Nat) : Int), rfl, rfl, _, rfl, ?_⟩
          rw [decide_eq_false (show ¬ (V.int ((j + 1 : Nat) : Int) = V.int 0) from fun z => by have := V.int.inj z; omega)]
          refine iteF ?_
          refine ⟨.ref p, rfl, p, n, 6, rfl, hpe, by omega, by decide, by decide, fun r H2 r0 r6 hp2 kp2 => ⟨rfl, _, rfl, ?_⟩⟩
          have kp2' : Kp p H H2 := (Kp.of se).trans kp2
          refine ite2 (fun _ => ?_) (fun _ => ?_)
          · exact ⟨.ref p, rfl, v, rfl, od _ _ kp2' hp2 (by omega)⟩
          have dt2 := dt.kp kp2'
          obtain ⟨a, xs, rfl, sq, da⟩ := id dt2
          have lx := DpAll.len da
          refine ⟨.ref p, rfl, .ref a, rfl, a, xs, rfl, .inr (Nm.Same.seqT rm_sub sq), p, n + 1, (xs.length : Int), rfl, hp2, by omega, by omega, by omega, fun at0 H3 a0 a1 hp3 kp3 => ?_⟩
          obtain ⟨i, rfl⟩ := Int.eq_ofNat_of_zero_le a0
          have il : i < ds.length := by omega
          have dt3 := dt2.kp kp3
          obtain ⟨g3, t3, c3, hpl3, _⟩ := id hp3
          refine ⟨.ref a, rfl, .int i, rfl, i, rfl, ?_⟩
          refine dt_cut hpl3 dt3 fun w4 H4 s4 t4 => ?_
          rw [HT.sIx_none, HT.sIx_nat, List.drop_zero, Nat.sub_zero, Nat.min_eq_left (by omega)] at t4
          have dt4 := dt3.same s4
          obtain ⟨a', xs4, ea, sq4, da4⟩ := id dt4
          cases ea
          have lx4 := DpAll.len da4
          have hx : xs4[i]? = some (xs4[i]'(by omega)) := List.getElem?_eq_getElem (by omega)
          obtain ⟨e4, hei, de4⟩ := DpAll.at da4 hx
          have te := ti.2 e4 (List.mem_of_getElem? hei)
          refine ⟨.ref p, rfl, .ref a, rfl, .int i, rfl, a, xs4, i, _, rfl, rfl, Nm.Same.seqT rm_sub sq4, atI_nat hx, .int ((j + 1 : Nat) : Int), rfl, _, 1, rfl, rfl, ?_⟩
          refine ⟨p, n + 2, _, e4, ?_, hp3.same s4, by omega, de4, te, fun y H5 hp5 kp5 g5 => ?_⟩
          · show [V.ref p, xs4[i]'(by omega), V.int (((j + 1 : Nat) : Int) - 1)] = _
            rw [show (((j + 1 : Nat) : Int) - 1) = (j : Int) by omega]
          obtain ⟨dy, hdy, fy⟩ := g5
          refine ⟨by show 1 ≤ sizeLine; decide, fun u nu => ?_⟩
          obtain ⟨g5', t5', c5', hpl5, _⟩ := id hp5
          have su := same_upd (o := .tup [y]) nu
          have tu := DT.new hpl5 nu (DpAll.cons hdy .nil)
          have t4' := (t4.kp kp5).same su
          have hplu := su _ _ hpl5
          have lt4 : (ds.take i).length ≤ i := by rw [List.length_take]; omega
          refine dt_cat hplu t4' tu (by simp; omega) fun w6 H6 s6 t6 => ?_
          have dt6 := ((dt4.kp kp5).same su).same s6
          refine ⟨.ref a, rfl, .int i, rfl, i, 1, rfl, rfl, (i : Int) + 1, rfl, ?_⟩
          dsimp only [tNoPart]
          refine dt_cut (s6 _ _ hplu) dt6 fun w7 H7 s7 t7 => ?_
          rw [show ((i : Int) + 1) = ((i + 1 : Nat) : Int) by omega, HT.sIx_none, HT.sIx_nat, Nat.min_eq_left (by omega)] at t7
          have lt7 : ((ds.drop (i + 1)).take (ds.length - (i + 1))).length ≤ ds.length - (i + 1) := by rw [List.length_take]; omega
          refine dt_cat (s7 _ _ (s6 _ _ hplu)) (t6.same s7) t7 (by simp; omega) fun w8 H8 s8 t8 => ?_
          have kAll : Kp p H H8 := kp2'.trans (kp3.trans ((Kp.of s4).trans (kp5.trans ((Kp.of su).trans ((Kp.of s6).trans ((Kp.of s7).trans (.of s8)))))))
          refine q w8 H8 (((((hp5.same su).same s6).same s7).same s8).mono (by omega)) kAll (t8.good (m := j + 1) ?_ fun x hx => ?_)
          · rw [List.length_append, List.length_append]
            simp only [List.length_cons, List.length_nil]
            omega
          · have fj : ∀ x ∈ ds, Fit (j + 1) x := fun x hx => fit_up j x (tint_fit j x (ti.2 x hx))
            rcases List.mem_append.mp hx with h | h
            · rcases List.mem_append.mp h with h | h
              · exact fj x (List.mem_of_mem_take h)
              · rw [List.mem_singleton.mp h]
                exact fy
            · exact fj x (cut_mem h)
      | int _ => unfold Tint at ti; exact ti.elim
      | none => unfold Tint at ti; exact ti.elim
      | bool _ => unfold Tint at ti; exact ti.elim
      | str _ => unfold Tint at ti; exact ti.elim
      | list _ => unfold Tint at ti; exact ti.elim
      | dict _ => unfold Tint at ti; exact ti.elim
end
end Nm

/-! a def of one parameter, called by its keyword -/
namespace GL
open PySem PySem.Spec PyProof.Rows L2
def tCallKw (sp : Sp) (te : TE) : TE := fun σ H Q => te σ H fun v H1 => sp [v] H1 Q E0
theorem bindKw {K : PySem.W.Frag} {x qual kx : Str} {st : Stmt} {f : Addr} {fd : FuncData} (F : Fun K x qual st f fd)
    (h : ∀ (kV doc pm : Value) (an : Option Addr) (cdv ct u : Value), bindArgs (PySem.W.fnOf x qual (defArgs st) (defBody st) (defScope st) .none kV doc pm an cdv ct) ⟨[], [(kx, u)]⟩ = pure [(kx, u)]) :
    ∀ (s : Shared) (u : Value), BindsTo s fd ⟨[], [(kx, u)]⟩ [(kx, u)] := by
  obtain ⟨oc, od, kV, doc, pm, an, cdv, ct, osl, rfl, lk, hcd⟩ := F.ex
  exact fun s u => .of_eq (h kV doc pm an cdv ct u)
theorem callKw {X : Cx} {k : Nat} {f : Addr} {fd : FuncData} {kx x : Str} {sp : Sp} {p pos kpos : Pos} {e : Expr} {te : TE} (F : FnOk X.prog X.w X.K X.mg X.base CX0 k f fd [kx] sp) (hr : Room k X.A) (hg : Gl X x) (hm : X.mg x = some (.ref f))
    (hk : PySem.W.keepIn X.K (.ref f) = true) (hb : ∀ (s : Shared) (u : Value), BindsTo s fd ⟨[], [(kx, u)]⟩ [(kx, u)]) (he : PE X e te)
    (hall : (backToKw pos (keywordEach [⟨some kx, e, kpos⟩] X.env)).all (·.1.isSome) = true := by rfl) (hks : (backToKw pos (keywordEach [⟨some kx, e, kpos⟩] X.env)).filterMap (·.1) = [kx] := by rfl)
    (hdb : (x == ("__debug__" : Str)) = false := by decide) (hpl : ((backTo pos (starEach [] X.env)).any (·.1) || (backToKw pos (keywordEach [⟨some kx, e, kpos⟩] X.env)).any (·.1.isNone)) = false := by rfl) :
    PE X (.Call (.Name x p) [] [⟨some kx, e, kpos⟩] pos) (tCallKw sp te) := by
  constructor
  intro pins s σ H Q I h
  apply wpAny_Call_Name_kw
  refine ld_glob I hg hm ?_ hdb
  refine PySem.W.callWith_KW0 (h₀ := X.base) I.ok.mod.kin hk hall ?_ hpl
  refine thn ((pk_cons he pk_nil).run pos pins s σ H (fun zs H1 => ∃ v, zs = [v] ∧ sp [v] H1 Q E0) I ?_) ?_
  · show te σ H _
    have z : tCallKw sp te σ H Q := h
    refine cast (congrArg (te σ H) ?_) z
    funext v H1
    refine propext ⟨fun y => ⟨v, rfl, y⟩, fun ⟨v', e1, y⟩ => ?_⟩
    cases e1
    exact y
  · rintro ws s2 ⟨zs, H2, I2, rz, v, rfl, q2⟩
    refine ⟨I2.kIn, ?_⟩
    rw [hks]
    cases rz with
    | cons r rr =>
      cases rr
      apply wpAny_call
      refine codeAny_mono (F.run X.A X.stack s2 H2 ⟨[], [(kx, _)]⟩ [_] [v] Q E0 hr I2.env0 (hb s2 _) (.cons r .nil) q2) fun res s' hq => ?_
      rcases res with e | fl
      · exact False.elim hq
      · rcases fl with _ | _ | _ | u
        all_goals first | exact False.elim hq | exact I2.after hq
end GL

namespace Nm
open PySem PySem.Spec PyProof.Rows L2 GL
abbrev sByHand : Stmt := topS 20
abbrev sAsked : Stmt := topS 21
abbrev sRight : Stmt := topS 22
abbrev sLaw : Stmt := topS 23
abbrev nByHand : List Str := ["_law_whole", "_law_some_here"]
theorem scByHand : FnScope nByHand [] (defScope sByHand) := ⟨rfl, rfl, rfl, by decide +kernel, rfl, by decide +kernel, by decide +kernel⟩
abbrev nAsked : List Str := ["_law_thing", "_law_kept", "_law_due"]
theorem scAsked : FnScope nAsked ["_law_thing"] (defScope sAsked) := ⟨rfl, rfl, rfl, by decide +kernel, rfl, by decide +kernel, by decide +kernel⟩
abbrev nRight : List Str := ["_law_pot_here", "_law_turn", "_law_table_here", "_law_again"]
theorem scRight : FnScope nRight ["_law_pot_here"] (defScope sRight) := ⟨rfl, rfl, rfl, by decide +kernel, rfl, by decide +kernel, by decide +kernel⟩
abbrev nLaw : List Str := ["_law_script", "_law_thing", "_law_k"]
theorem scLaw : FnScope nLaw ["_law_script"] (defScope sLaw) := ⟨rfl, rfl, rfl, by decide +kernel, rfl, by decide +kernel, by decide +kernel⟩
def fitB : Nat → PyData → Bool
  | _, .none => true
  | _, .bool _ => true
  | _, .int i => decide (-100 < i) && decide (i < 100)
  | _, .str x => decide ((PyData.str x).shown.length ≤ 20)
  | n + 1, .tuple ds => decide (ds.length ≤ 40) && ds.all (fitB n)
  | n + 1, .list ds => decide (ds.length ≤ 40) && ds.all (fitB n)
  | _, _ => false
theorem fit_of : ∀ (n : Nat) (d : PyData), fitB n d = true → Fit n d
  | n, .none, _ => by unfold Fit; trivial
  | n, .bool _, _ => by unfold Fit; trivial
  | n, .int i, h => by
    unfold fitB at h
    unfold Fit
    simpa using h
  | n, .str x, h => by
    unfold fitB at h
    unfold Fit
    simpa using h
  | 0, .tuple ds, h => by unfold fitB at h; cases h
  | 0, .list ds, h => by unfold fitB at h; cases h
  | n + 1, .tuple ds, h => by
    unfold fitB at h
    rw [Bool.and_eq_true] at h
    exact fitT (of_decide_eq_true h.1) fun x hx => fit_of n x (List.all_eq_true.mp h.2 x hx)
  | n + 1, .list ds, h => by
    unfold fitB at h
    rw [Bool.and_eq_true] at h
    exact fitL (of_decide_eq_true h.1) fun x hx => fit_of n x (List.all_eq_true.mp h.2 x hx)
  | 0, .dict _, h => by unfold fitB at h; cases h
  | n + 1, .dict _, h => by unfold fitB at h; cases h
section
variable {P : Program} {w : World} {K : PySem.W.Frag} {mg : Str → Option Value} {base : Heap}
/-- a value that may be asked: what repr shows of it, whether it is a rule -/
def Ask (K : PySem.W.Frag) (H : Hp) (v : V) (s : Str) (b : Bool) : Prop := (∃ d, Dp K H v d ∧ Fit 3 d ∧ s = d.shown ∧ b = ruleD d) ∨ ∃ a, v = .ref a ∧ H a = some (.dK []) ∧ s = (PyData.dict []).shown ∧ b = false
theorem Ask.same {H H' : Hp} {v : V} {s : Str} {b : Bool} (h : Ask K H v s b) (sm : Same H H') : Ask K H' v s b := by
  rcases h with ⟨d, h1, h2⟩ | ⟨a, e, h1, h2⟩
  · exact .inl ⟨d, dpS sm _ _ h1, h2⟩
  · exact .inr ⟨a, e, sm _ _ h1, h2⟩
theorem Ask.rule {H : Hp} {v : V} {s : Str} {b : Bool} {Q : VK} {E : XK} (h : Ask K H v s b) (q : ∀ H', Same H H' → Q (.bl b) H') : spRuleA K [v] H Q E := by
  rcases h with ⟨d, h1, h2, rfl, rfl⟩ | ⟨a, rfl, h1, rfl, rfl⟩
  · exact ⟨v, rfl, .inl ⟨d, 2, h1, h2, q⟩⟩
  · exact ⟨.ref a, rfl, .inr ⟨a, rfl, h1, q H (Same.refl _)⟩⟩
theorem reprAsk {X : Cx} (gu : X.A.guards = some []) (hu : X.A.units + 64 < cLine) (hK : X.K = K := by rfl) :
    CallR X (.builtin "repr") (fun xs H Q => ∃ v s b, xs = [v] ∧ Ask K H v s b ∧ Q (.str s) H) := by
  intro pins s σ H xs us Q I r h
  obtain ⟨v, st, b, rfl, h, q⟩ := h
  rcases h with ⟨d, h1, h2, rfl, rfl⟩ | ⟨a, rfl, h1, rfl, rfl⟩
  · have z := shA h2
    exact reprA (K := K) gu hu hK pins s σ H [v] us Q I r ⟨v, d, rfl, h1, z.a, z.b, z.c, z.d, q⟩
  · exact reprD (K := K) gu hu hK pins s σ H [.ref a] us Q I r ⟨a, rfl, h1, q⟩
def AskV (K : PySem.W.Frag) (H : Hp) (v : V) : Prop := ∃ s b, Ask K H v s b
theorem AskV.same {H H' : Hp} {v : V} (h : AskV K H v) (sm : Same H H') : AskV K H' v := by
  obtain ⟨s, b, h⟩ := h
  exact ⟨s, b, h.same sm⟩
theorem AskV.of {H : Hp} {v : V} {d : PyData} (h : Dp K H v d) (f : Fit 3 d) : AskV K H v := ⟨_, _, .inl ⟨d, h, f, rfl, rfl⟩⟩
theorem ask_all {H : Hp} : ∀ {vs : List V} {ds : List PyData}, DpAll K H vs ds → ds.all (fitB 3) = true → ∀ z ∈ vs, AskV K H z
  | _, _, .nil, _, z, hz => by cases hz
  | _, _, .cons h t, f, z, hz => by
    rw [List.all_cons, Bool.and_eq_true] at f
    rcases List.mem_cons.mp hz with e | e
    · rw [e]
      exact AskV.of h (fit_of _ _ f.1)
    · exact ask_all t f.2 z e
theorem rep_lit {H : Hp} {v : V} {d : PyData} {n : Int} {Q : VK} (h : Dp K H v (.tuple [d])) (h2 : 2 ≤ n) (h3 : n ≤ 1000) (q : ∀ (w : V) (H' : Hp), Same H H' → Dp K H' w (.tuple (List.replicate n.toNat d)) → Q w H') : rRepT K v (.int n) H Q := by
  cases h with
  | @tup a xs _ hs ha =>
    cases ha with
    | @cons x _ _ _ hx ht =>
      cases ht
      refine ⟨a, n, [x], rfl, rfl, hs, by simp, h2, h3, by simp, fun t nt => q _ _ (same_upd nt) ?_⟩
      have e : ∀ m : Nat, (List.replicate m [x]).flatten = List.replicate m x := fun m => by
        induction m with
        | zero => rfl
        | succ m ih => rw [List.replicate_succ, List.flatten_cons, ih, List.replicate_succ]; rfl
      have all : ∀ m : Nat, DpAll K (upd H t (.tup (List.replicate n.toNat [x]).flatten)) (List.replicate m x) (List.replicate m d) := fun m => by
        induction m with
        | zero => exact .nil
        | succ m ih => rw [List.replicate_succ, List.replicate_succ]; exact .cons (dpS (same_upd nt) _ _ hx) ih
      exact .tup (SqT.of (by rw [upd_same, e])) (all n.toNat)
def spByHand (K : PySem.W.Frag) : Sp := fun vs H Q _ => vs = [] ∧ ∀ (L : Addr) (zs : List V) (H' : Hp), Same H H' → H' L = some (.lst zs) → zs.length ≤ 100 → (∀ z ∈ zs, AskV K H' z) → Q (.ref L) H'
set_option maxHeartbeats 4000000 in
theorem ok_byhand {f : Addr} {fd : FuncData} {k : Nat} (F : Fun K "_law_by_hand" "_law_by_hand" sByHand f fd) (B : LibJ mg) (mlist : mg "list" = none) : FnOk P w K mg base CX0 (k + 1) f fd [] (spByHand K) := by
  refine F.ok scByHand (fun vs H Q E h => ?_) (fun cdv A outer s H vs Q E hr h => ?_)
  · obtain ⟨rfl, _⟩ := h
    rfl
  · obtain ⟨rfl, q⟩ := h
    refine ⟨_, (pss_cons (ps_set (i := 0) scByHand.nd rfl (.inl rfl) (pe_callTy (tupOfK (K := K)) (by rfl) B.tuple (by decide +kernel) (pa_cons (pe_listRg (by rfl) (by rfl) mlist (prg_1 (by rfl) B.range pe_int)) pa_nil)))
      (pss_cons (ps_set (i := 1) scByHand.nd rfl (.inl rfl) (pe_lst (lts_cons (lt_tup (K := K) lts_nil) (lts_cons (lt_tup (K := K) (lts_cons (lt_tup (K := K) lts_nil) lts_nil)) (lts_cons (lt_tup (K := K) (lts_cons (lt_tup (K := K) (lts_cons lt_int lts_nil)) lts_nil)) (lts_cons (lt_tup (K := K) (lts_cons (lt_tup (K := K) (lts_cons lt_int lts_nil)) lts_nil)) (lts_cons (lt_tup (K := K) (lts_cons (lt_tup (K := K) (lts_cons lt_int (lts_cons lt_int lts_nil))) (lts_cons (lt_tup (K := K) (lts_cons lt_int (lts_cons lt_int lts_nil))) lts_nil))) (lts_cons (lt_tup (K := K) (lts_cons (lt_tup (K := K) (lts_cons lt_int (lts_cons lt_int lts_nil))) (lts_cons (lt_tup (K := K) lts_nil) lts_nil))) (lts_cons (lt_tup (K := K) (lts_cons (lt_tup (K := K) (lts_cons lt_int (lts_cons lt_int lts_nil))) (lts_cons (lt_tup (K := K) lts_nil) lts_nil))) (lts_cons (lt_tup (K := K) (lts_cons (lt_tup (K := K) (lts_cons lt_bl lts_nil)) (lts_cons (lt_tup (K := K) lts_nil) lts_nil))) (lts_nil (K := K))))))))))))
      (pss_cons (ps_set (i := 1) scByHand.nd rfl (.inl rfl) (pe_op op_cat (pv 1) (pe_lst (pa_cons (lt_tup (K := K) (lts_cons (lt_tup (K := K) (lts_cons lt_int lts_nil)) (lts_cons (lt_lst (K := K) (lts_cons lt_int lts_nil)) lts_nil))) (pa_cons (pe_op op_repT (pe_tup (pa_cons (pv 0) pa_nil)) pe_int) (pa_cons (pe_op op_repT (pe_tup (pa_cons (pv 0) pa_nil)) pe_int) (pa_cons (pe_op op_repT (lt_tup (K := K) (lts_cons (lt_tup (K := K) lts_nil) lts_nil)) pe_int) (pa_cons (pe_op op_repT (lt_tup (K := K) (lts_cons (lt_tup (K := K) lts_nil) lts_nil)) pe_int) (pa_cons (pe_op op_repT (lt_tup (K := K) (lts_cons (lt_tup (K := K) (lts_cons lt_int lts_nil)) lts_nil)) pe_int) pa_nil)))))))))
      (pss_cons (ps_set (i := 1) scByHand.nd rfl (.inl rfl) (pe_op op_cat (pv 1) (pe_lst (pa_cons (pe_op op_repT (lt_tup (K := K) (lts_cons (lt_tup (K := K) (lts_cons lt_int lts_nil)) lts_nil)) pe_int) (pa_cons (lt_tup (K := K) (lts_cons (lt_tup (K := K) (lts_cons lt_neg lts_nil)) (lts_cons (lt_tup (K := K) lts_nil) lts_nil))) pa_nil)))))
      (pss_one (ps_ret (pe_op op_cat (pv 1) (pe_lst (pa_cons (lt_non (K := K)) (pa_cons (lt_bl (K := K)) (pa_cons (lt_int (K := K)) (pa_cons (lt_str (K := K)) (pa_cons (lt_lst (K := K) lts_nil) (pa_cons pe_dnewK (pa_cons (lt_lst (K := K) (lts_cons (lt_tup (K := K) lts_nil) lts_nil)) (pa_cons (lt_tup (K := K) (lts_cons (lt_tup (K := K) (lts_cons lt_int lts_nil)) (lts_cons lt_non lts_nil))) (pa_cons (lt_str (K := K)) (pa_cons (lt_tup (K := K) (lts_cons lt_int (lts_cons lt_int lts_nil))) (pa_cons (lt_tup (K := K) (lts_cons (lt_tup (K := K) (lts_cons lt_int (lts_cons lt_str lts_nil))) (lts_cons (lt_tup (K := K) lts_nil) lts_nil))) pa_nil))))))))))))))))))), ?_⟩
    refine ⟨16, rfl, RgOk.of_le (by decide) (by omega) (by decide) (by omega), fun S nS => ⟨S, _, rfl, .inl ⟨SqL.of upd_same, fun t nt => ?_⟩⟩⟩
    rw [show rgV 0 16 = (rangeI 16).map V.int from rgV_range 16]
    have s1 := (same_upd (H := H) (o := .lst ((rangeI 16).map V.int)) (by exact nS)).trans (same_upd (H := upd H S (.lst ((rangeI 16).map V.int))) (o := .tup ((rangeI 16).map V.int)) (by rw [show rgV 0 16 = (rangeI 16).map V.int from rgV_range 16] at nt; exact nt))
    have ht := upd_same (H := upd H S (.lst ((rangeI 16).map V.int))) (a := t) (o := .tup ((rangeI 16).map V.int))
    generalize upd (upd H S (.lst ((rangeI 16).map V.int))) t (.tup ((rangeI 16).map V.int)) = H1 at s1 ht ⊢
    clear nt nS
    refine fun vs H2 s2 d2 => ?_
    have l2 : vs.length = 8 := DpAll.len d2
    have a2 : ∀ z ∈ vs, AskV K H2 z := ask_all (dpSA nw_sub _ _ d2) (by decide +kernel)
    refine ⟨Nat.le_trans (by omega : vs.length ≤ 8) (by decide), fun L1 nL1 => ?_⟩
    have sL1 := same_upd (o := .lst vs) nL1
    have hL1 := upd_same (H := H2) (a := L1) (o := .lst vs)
    have a3 : ∀ z ∈ vs, AskV K (upd H2 L1 (.lst vs)) z := fun z hz => (a2 z hz).same sL1
    have s3 := s1.trans (s2.trans sL1)
    have ht3 := sL1 _ _ (s2 _ _ ht)
    generalize upd H2 L1 (.lst vs) = H3 at sL1 hL1 a3 s3 ht3 ⊢
    clear a2 d2 s2 sL1 nL1
    -- six more
    refine ⟨.ref L1, rfl, fun w1 Ha sa da => ⟨.ref t, rfl, by show 1 ≤ sizeLine; decide, fun u1 nu1 => ?_⟩⟩
    have g1 : AskV K Ha w1 := AskV.of (dpS nw_sub _ _ da) (fit_of _ _ (by decide +kernel))
    have su1 := same_upd (o := .tup [.ref t]) nu1
    dsimp only [tC]
    refine rep_lit (n := 16) (d := rowD (rangeI 16)) (.tup (SqT.of upd_same) (.cons (dpRow (su1 _ _ (sa _ _ ht3))) .nil)) (by decide) (by decide) fun w2 Hb sb db => ?_
    have g2 : AskV K Hb w2 := AskV.of db (fit_of _ _ (by decide +kernel))
    have s4 := sa.trans (su1.trans sb)
    refine ⟨.ref t, rfl, by show 1 ≤ sizeLine; decide, fun u2 nu2 => ?_⟩
    have su2 := same_upd (o := .tup [.ref t]) nu2
    dsimp only [tC]
    refine rep_lit (n := 17) (d := rowD (rangeI 16)) (.tup (SqT.of upd_same) (.cons (dpRow (su2 _ _ (s4 _ _ ht3))) .nil)) (by decide) (by decide) fun w3 Hc sc dc => ?_
    have g3 : AskV K Hc w3 := AskV.of dc (fit_of _ _ (by decide +kernel))
    refine fun x4 Hd sd dd => ?_
    dsimp only [tC]
    refine rep_lit (n := 16) (dpS nw_sub _ _ dd) (by decide) (by decide) fun w4 He se de => ?_
    have g4 : AskV K He w4 := AskV.of de (fit_of _ _ (by decide +kernel))
    refine fun x5 Hf sf df => ?_
    dsimp only [tC]
    refine rep_lit (n := 17) (dpS nw_sub _ _ df) (by decide) (by decide) fun w5 Hg sg dg => ?_
    have g5 : AskV K Hg w5 := AskV.of dg (fit_of _ _ (by decide +kernel))
    refine fun x6 Hh sh dh => ?_
    dsimp only [tC]
    refine rep_lit (n := 16) (dpS nw_sub _ _ dh) (by decide) (by decide) fun w6 Hi si di => ?_
    have g6 : AskV K Hi w6 := AskV.of di (fit_of _ _ (by decide +kernel))
    refine ⟨by show 6 ≤ sizeLine; decide, fun L2 nL2 => ?_⟩
    have sL2 := same_upd (o := .lst [w1, w2, w3, w4, w5, w6]) nL2
    have t6 := sL2
    have t5 := sh.trans (si.trans t6)
    have t4 := sf.trans (sg.trans t5)
    have t3 := sd.trans (se.trans t4)
    have t2 := su2.trans (sc.trans t3)
    have t1 := su1.trans (sb.trans t2)
    have t0 := sa.trans t1
    have hL2 := upd_same (H := Hi) (a := L2) (o := .lst [w1, w2, w3, w4, w5, w6])
    have g : ∀ z ∈ [w1, w2, w3, w4, w5, w6], AskV K (upd Hi L2 (.lst [w1, w2, w3, w4, w5, w6])) z := fun z hz => by
      simp only [List.mem_cons, List.not_mem_nil, or_false] at hz
      rcases hz with rfl | rfl | rfl | rfl | rfl | rfl
      · exact g1.same t1
      · exact g2.same t2
      · exact g3.same t3
      · exact g4.same t4
      · exact g5.same t5
      · exact g6.same t6
    generalize upd Hi L2 (.lst [w1, w2, w3, w4, w5, w6]) = H4 at t0 hL2 g ⊢
    clear t1 t2 t3 t4 t5 t6 sL2 nL2 g1 g2 g3 g4 g5 g6
    refine ⟨L1, L2, vs, _, rfl, rfl, t0 _ _ hL1, hL2, Nat.le_trans (by rw [l2]; show 8 + 6 ≤ 14; decide) (by decide : (14 : Nat) ≤ sizeLine), fun L3 nL3 => ?_⟩
    obtain ⟨us, eus⟩ : ∃ us, us = vs ++ [w1, w2, w3, w4, w5, w6] := ⟨_, rfl⟩
    rw [← eus]
    have lus : us.length = 14 := by rw [eus, List.length_append, l2]; rfl
    have sL3 := same_upd (o := .lst us) nL3
    have hL3 := upd_same (H := H4) (a := L3) (o := .lst us)
    have a5 : ∀ z ∈ us, AskV K (upd H4 L3 (.lst us)) z := fun z hz => by
      rw [eus] at hz
      rcases List.mem_append.mp hz with h | h
      · exact ((a3 z h).same t0).same sL3
      · exact (g z h).same sL3
    have s5 := s3.trans (t0.trans sL3)
    generalize upd H4 L3 (.lst us) = H5 at sL3 hL3 a5 s5 ⊢
    clear a3 g sL3 nL3 eus t0
    -- two more
    refine ⟨.ref L3, rfl, fun x7 Ha sa da => ?_⟩
    dsimp only [tC]
    refine rep_lit (n := 16) (dpS nw_sub _ _ da) (by decide) (by decide) fun w7 Hb sb db => ?_
    have g7 : AskV K Hb w7 := AskV.of db (fit_of _ _ (by decide +kernel))
    refine fun w8 Hc sc dc => ⟨by show 2 ≤ sizeLine; decide, fun L4 nL4 => ?_⟩
    have g8 : AskV K Hc w8 := AskV.of (dpS nw_sub _ _ dc) (fit_of _ _ (by decide +kernel))
    have sL4 := same_upd (o := .lst [w7, w8]) nL4
    have hL4 := upd_same (H := Hc) (a := L4) (o := .lst [w7, w8])
    have s54 := sa.trans (sb.trans (sc.trans sL4))
    refine ⟨L3, L4, us, [w7, w8], rfl, rfl, s54 _ _ hL3, hL4, Nat.le_trans (by rw [lus]; show 14 + 2 ≤ 16; decide) (by decide : (16 : Nat) ≤ sizeLine), fun L5 nL5 => ?_⟩
    obtain ⟨ts, ets⟩ : ∃ ts, ts = us ++ [w7, w8] := ⟨_, rfl⟩
    rw [← ets]
    have lts : ts.length = 16 := by rw [ets, List.length_append, lus]; rfl
    have sL5 := same_upd (o := .lst ts) nL5
    have hL5 := upd_same (H := upd Hc L4 (.lst [w7, w8])) (a := L5) (o := .lst ts)
    have a6 : ∀ z ∈ ts, AskV K (upd (upd Hc L4 (.lst [w7, w8])) L5 (.lst ts)) z := fun z hz => by
      rw [ets] at hz
      rcases List.mem_append.mp hz with h | h
      · exact ((a5 z h).same s54).same sL5
      · simp only [List.mem_cons, List.not_mem_nil, or_false] at h
        rcases h with rfl | rfl
        · exact g7.same (sc.trans (sL4.trans sL5))
        · exact g8.same (sL4.trans sL5)
    have s6 := s5.trans (s54.trans sL5)
    generalize upd (upd Hc L4 (.lst [w7, w8])) L5 (.lst ts) = H6 at sL5 hL5 a6 s6 ⊢
    clear a5 sL5 nL5 ets s54 sL4 nL4
    -- eleven more
    refine ⟨.ref L5, rfl, fun y1 I1 p1 e1 => fun y2 I2 p2 e2 => fun y3 I3 p3 e3 => fun y4 I4 p4 e4 => fun y5 I5 p5 e5 => fun dd nd => fun y7 I7 p7 e7 => fun y8 I8 p8 e8 => fun y9 I9 p9 e9 => fun y10 I10 p10 e10 => fun y11 I11 p11 e11 => ?_⟩
    refine ⟨by show 11 ≤ sizeLine; decide, fun L6 nL6 => ?_⟩
    have sd := same_upd (o := .dK []) nd
    have sL6 := same_upd (o := .lst [y1, y2, y3, y4, y5, .ref dd, y7, y8, y9, y10, y11]) nL6
    have hL6 := upd_same (H := I11) (a := L6) (o := .lst [y1, y2, y3, y4, y5, .ref dd, y7, y8, y9, y10, y11])
    have v11 := sL6
    have v10 := p11.trans v11
    have v9 := p10.trans v10
    have v8 := p9.trans v9
    have v7 := p8.trans v8
    have v6 := p7.trans v7
    have v5 := sd.trans v6
    have v4 := p5.trans v5
    have v3 := p4.trans v4
    have v2 := p3.trans v3
    have v1 := p2.trans v2
    have v0 := p1.trans v1
    refine ⟨L5, L6, ts, _, rfl, rfl, v0 _ _ hL5, hL6, Nat.le_trans (by rw [lts]; show 16 + 11 ≤ 27; decide) (by decide : (27 : Nat) ≤ sizeLine), fun L7 nL7 => ?_⟩
    have sL7 := same_upd (H := upd I11 L6 (.lst [y1, y2, y3, y4, y5, .ref dd, y7, y8, y9, y10, y11])) (o := .lst (ts ++ [y1, y2, y3, y4, y5, .ref dd, y7, y8, y9, y10, y11])) nL7
    refine q L7 _ _ (s6.trans (v0.trans sL7)) upd_same (by rw [List.length_append, lts]; show 16 + 11 ≤ 100; decide) fun z hz => ?_
    refine AskV.same ?_ sL7
    rcases List.mem_append.mp hz with h | h
    · exact (a6 z h).same v0
    · simp only [List.mem_cons, List.not_mem_nil, or_false] at h
      rcases h with rfl | rfl | rfl | rfl | rfl | rfl | rfl | rfl | rfl | rfl | rfl
      · exact (AskV.of (dpS nw_sub _ _ e1) (fit_of _ _ (by decide +kernel))).same v1
      · exact (AskV.of (dpS nw_sub _ _ e2) (fit_of _ _ (by decide +kernel))).same v2
      · exact (AskV.of (dpS nw_sub _ _ e3) (fit_of _ _ (by decide +kernel))).same v3
      · exact (AskV.of (dpS nw_sub _ _ e4) (fit_of _ _ (by decide +kernel))).same v4
      · exact (AskV.of (dpS nw_sub _ _ e5) (fit_of _ _ (by decide +kernel))).same v5
      · exact ⟨_, _, .inr ⟨dd, rfl, v6 _ _ upd_same, rfl, rfl⟩⟩
      · exact (AskV.of (dpS nw_sub _ _ e7) (fit_of _ _ (by decide +kernel))).same v7
      · exact (AskV.of (dpS nw_sub _ _ e8) (fit_of _ _ (by decide +kernel))).same v8
      · exact (AskV.of (dpS nw_sub _ _ e9) (fit_of _ _ (by decide +kernel))).same v9
      · exact (AskV.of (dpS nw_sub _ _ e10) (fit_of _ _ (by decide +kernel))).same v10
      · exact (AskV.of (dpS nw_sub _ _ e11) (fit_of _ _ (by decide +kernel))).same v11
end
end Nm

namespace Nm
open PySem PySem.Spec PyProof.Rows L2 GL
section
variable {P : Program} {w : World} {K : PySem.W.Frag} {mg : Str → Option Value} {base : Heap}
structure Jd1 (K : PySem.W.Frag) (mg : Str → Option Value) (fB fA fR fN fL : Addr) (dB dA dR dN dL : FuncData) : Prop where
  B : Fun K "is_below" "is_below" sBelow fB dB
  A : Fun K "is_ascending" "is_ascending" sAsc fA dA
  R : Fun K "is_rule" "is_rule" sIsRule fR dR
  N : Fun K "_law_is_number" "_law_is_number" sIsNum fN dN
  L : Fun K "_law_is_rule" "_law_is_rule" sLisRule fL dL
  bB : Binds K dB ["value", "limit"] []
  bA : Binds K dA ["value", "limit"] []
  bR : Binds K dR ["value"] []
  bN : Binds K dN ["_law_thing", "_law_below"] []
  bL : Binds K dL ["_law_thing"] []
  gB : mg "is_below" = some (.ref fB)
  gA : mg "is_ascending" = some (.ref fA)
  gR : mg "is_rule" = some (.ref fR)
  gN : mg "_law_is_number" = some (.ref fN)
  gL : mg "_law_is_rule" = some (.ref fL)
def spAsked (K : PySem.W.Frag) : Sp := fun vs H Q _ => ∃ v, vs = [v] ∧ AskV K H v ∧ ∀ H', Same H H' → Q (.bl true) H'
set_option maxHeartbeats 4000000 in
theorem ok_asked {f fB fA fR fN fL : Addr} {fd dB dA dR dN dL : FuncData} {k : Nat} (F : Fun K "_law_asked" "_law_asked" sAsked f fd) (J : Jd1 K mg fB fA fR fN fL dB dA dR dN dL) (B : LibJ mg) (mlist : mg "list" = none) (mset : mg "set" = none) (msort : mg "sorted" = none) (mrepr : mg "repr" = none)
    {tm : Tok} (mm : mg "MOST_MARKS" = some (.int 16 tm)) : FnG P w K mg base (k + 4) f fd ["_law_thing"] (spAsked K) := by
  have GR : FnOk P w K mg base CX0 (k + 3) fR dR ["value"] (spRuleA K) := ok_ruleA J.R J.A J.B J.bA J.gA J.bB J.gB B mm
  have GL : FnOk P w K mg base CX0 (k + 3) fL dL ["_law_thing"] (spRuleA K) := ok_lisrule J.L J.N J.bN J.gN B mlist mset msort
  have kw := bindKw (kx := "value") J.R fun _ _ _ _ _ _ _ => rfl
  refine funG F scAsked (fun vs H Q E h => ?_) (fun cdv A outer s H vs Q E gu hr h => ?_)
  · obtain ⟨v, rfl, _⟩ := h
    rfl
  · obtain ⟨v, rfl, ⟨st, b, ask⟩, q⟩ := h
    refine ⟨_, pss_cons (ps_par (i := 1) (j := 2) rfl scAsked.nd rfl rfl (by decide) rfl rfl (pa_cons (pe_callB (reprAsk (K := K) gu hr.units) (by rfl) mrepr (by decide +kernel) (pa_cons (pv 0) pa_nil))
        (pa_cons (pe_callB reprBool (by rfl) mrepr (by decide +kernel) (pa_cons (pe_call GL hr (by rfl) J.gL J.L.kp J.bL .nil pass0 (pa_cons (pv 0) pa_nil)) pa_nil)) pa_nil)) rfl)
      (pss_one (ps_ret (pe_and (pe_cmpR op_eq (pe_callB reprBool (by rfl) mrepr (by decide +kernel) (pa_cons (pe_call GR hr (by rfl) J.gR J.R.kp J.bR .nil pass0 (pa_cons (pv 0) pa_nil)) pa_nil)) (pv 2) (nomark _))
        (pe_and (pe_cmpR op_eq (pe_callB reprBool (by rfl) mrepr (by decide +kernel) (pa_cons (callKw GR hr (by rfl) J.gR J.R.kp kw (pv 0)) pa_nil)) (pv 2) (nomark _))
        (pe_one (pe_cmpR op_eq (pe_callB (reprAsk (K := K) gu hr.units) (by rfl) mrepr (by decide +kernel) (pa_cons (pv 0) pa_nil)) (pv 1) (nomark _))))))), ?_⟩
    have ask0 := ask
    rcases ask with ⟨d, h1, h2, rfl, rfl⟩ | ⟨a, rfl, h1, rfl, rfl⟩
    · refine ⟨v, rfl, v, _, _, rfl, ask0, v, rfl, v, rfl, .inl ⟨d, 2, h1, h2, fun H1 s1 => ⟨ruleD d, rfl, _, _, rfl, v, rfl, v, rfl, .inl ⟨d, 2, dpS s1 _ _ h1, h2, fun H2 s2 => ⟨ruleD d, rfl, _, rfl, rfl, true, ?_⟩⟩⟩⟩⟩
      refine ⟨by rw [decide_eq_true rfl], iteT ?_⟩
      refine ⟨v, rfl, v, rfl, .inl ⟨d, 2, dpS s2 _ _ (dpS s1 _ _ h1), h2, fun H3 s3 => ⟨ruleD d, rfl, _, rfl, rfl, true, ?_⟩⟩⟩
      refine ⟨by rw [decide_eq_true rfl], iteT ?_⟩
      refine ⟨v, rfl, v, _, _, rfl, ((ask0.same s1).same s2).same s3, _, rfl, rfl, ?_⟩
      rw [decide_eq_true rfl]
      exact q H3 (s1.trans (s2.trans s3))
    · refine ⟨.ref a, rfl, .ref a, _, _, rfl, ask0, .ref a, rfl, .ref a, rfl, .inr ⟨a, rfl, h1, false, rfl, _, _, rfl, .ref a, rfl, .ref a, rfl, .inr ⟨a, rfl, h1, false, rfl, _, rfl, rfl, true, ?_⟩⟩⟩
      refine ⟨by rw [decide_eq_true rfl], iteT ?_⟩
      refine ⟨.ref a, rfl, .ref a, rfl, .inr ⟨a, rfl, h1, false, rfl, _, rfl, rfl, true, ?_⟩⟩
      refine ⟨by rw [decide_eq_true rfl], iteT ?_⟩
      refine ⟨.ref a, rfl, .ref a, _, _, rfl, ask0, _, rfl, rfl, ?_⟩
      rw [decide_eq_true rfl]
      exact q H (Same.refl _)
theorem tint_row {n : Nat} {row : List Int} (g : Good n row) (h : n ≤ 16) : Tint 1 (rowD row) := by
  have l := g.len
  unfold rowD Tint
  refine ⟨by rw [List.length_map]; omega, fun x hx => ?_⟩
  obtain ⟨i, hi, rfl⟩ := List.mem_map.mp hx
  have b := g.2 i hi
  unfold Tint
  omega
theorem tint_tbl {T : List (List Int)} (r : IsRule T) : Tint 2 (tblD T) := by
  have l := r.2.1
  unfold tblD Tint
  refine ⟨by rw [List.length_map]; omega, fun x hx => ?_⟩
  obtain ⟨row, hi, rfl⟩ := List.mem_map.mp hx
  exact tint_row (r.2.2 row hi) l
theorem tbl_rm {H : Hp} {p a : Addr} {n : Nat} {T : List (List Int)} (h : Tbl H a T) (hp : Pot H p n) : Tbl (rm H p) a T := by
  obtain ⟨g, t, c, e, _⟩ := hp
  have ne : ∀ (b : Addr) (xs : List V), H b = some (.tup xs) → rm H p b = some (.tup xs) := fun b xs hb => rm_of (fun z => by rw [z, e] at hb; cases hb) hb
  obtain ⟨rs, h1, h2⟩ := h
  exact ⟨rs, ne _ _ h1, Paired.mapP h2 fun b row hb => ne _ _ hb⟩
theorem Kp.new {p : Addr} {H H1 H' : Hp} (k : Kp p H1 H') (s : Same H H1) (n : H p = none) : Same H H' := fun b o h => k b o (ne_of_none h n) (s b o h)
def spRight (K : PySem.W.Frag) : Sp := fun vs H Q _ => ∃ (p : Addr), vs = [.ref p] ∧ Pot H p 0 ∧ ∀ H', Kp p H H' → Q (.bl true) H'
set_option maxHeartbeats 4000000 in
theorem ok_right {f fA fT fP fM fS fN fC fG fTb fBe fO : Addr} {fd dA dT dP dM dS dN dC dG dTb dBe dO : FuncData} {k : Nat} (F : Fun K "_law_right" "_law_right" sRight f fd) (D : Draw K mg fT fP fM fS fN fC fG dT dP dM dS dN dC dG) (B : Lib K mg) (BJ : LibJ mg)
    (FTb : Fun K "_law_table" "_law_table" sTab fTb dTb) (bTb : Binds K dTb ["_law_pot_here", "_law_most"] []) (gTb : mg "_law_table" = some (.ref fTb))
    (FA : Fun K "_law_asked" "_law_asked" sAsked fA dA) (bA : Binds K dA ["_law_thing"] []) (gA : mg "_law_asked" = some (.ref fA)) (GA : FnG P w K mg base (k + 6) fA dA ["_law_thing"] (spAsked K))
    (FBe : Fun K "_law_bent" "_law_bent" sBent fBe dBe) (bBe : Binds K dBe ["_law_pot_here", "_law_thing", "_law_depth"] []) (gBe : mg "_law_bent" = some (.ref fBe))
    (FO : Fun K "_law_odd" "_law_odd" sOdd fO dO) (bO : Binds K dO ["_law_pot_here", "_law_part"] []) (gO : mg "_law_odd" = some (.ref fO)) (mstr : mg "str" = none) :
    FnG P w K mg base (k + 7) f fd ["_law_pot_here"] (spRight K) := by
  have GTb : FnOk P w K mg base CX0 (k + 6) fTb dTb ["_law_pot_here", "_law_most"] (spTab K) := ok_tab FTb D B
  have GB : FnOk P w K mg base CX0 (k + 6) fBe dBe ["_law_pot_here", "_law_thing", "_law_depth"] (spBent K 2) := ok_bent (k := k) FBe bBe gBe FO bO gO D.P D.bP D.gP D.T D.bT D.gT BJ B.list mstr 2 (by decide)
  refine funG F scRight (fun vs H Q E h => ?_) (fun cdv A outer s H vs Q E gu hr h => ?_)
  · obtain ⟨p, rfl, _⟩ := h
    rfl
  · obtain ⟨p, rfl, hp, q⟩ := h
    refine ⟨_, pss_cons (ps_for PassesOwn.never rfl (pi_range1 (by rfl) B.range (pa_cons pe_int pa_nil)) (pg_name (i := 1) scRight.nd rfl (.inl rfl))
        (pss_cons (ps_set (i := 2) scRight.nd rfl (.inr rfl) (pe_call GTb hr (by rfl) gTb FTb.kp bTb .nil pass0 (pa_cons (pv 0) (pa_cons pe_int pa_nil))))
        (pss_one (ps_if (PW.pt (pw_or (pt_not (pt_val (callG (E := E0) GA gu hr (by rfl) gA FA.kp bA (pa_cons (pv 2) pa_nil))))
          (pw_or1 (pt_not (pt_val (pe_callB (allK (K := K) rfl) (by rfl) BJ.all (by decide +kernel) (pa_cons
            (pe_lc (own := [("_law_again", 3)]) (g := gName 3) (by rfl) scRight.nd (pi_range1 (by rfl) B.range (pa_cons pe_int pa_nil))
              (blkOk_by (own := [("_law_again", 3)]) (N := nRight) (sc := defScope sRight) (by decide +kernel))
              (fun _ _ _ _ _ => pg_name (i := 3) scRight.nd rfl (Or.inl rfl)) (fun _ _ _ _ _ => pts_nil)
              (fun _ _ _ _ _ => callG (E := E0) GA gu hr (by rfl) gA FA.kp bA (pa_cons (pe_call GB hr (by rfl) gBe FBe.kp bBe .nil pass0 (pa_cons (pv 0) (pa_cons (pv 2) (pa_cons pe_int pa_nil)))) pa_nil))) pa_nil)))))))
          (pss_one (ps_ret pe_bl)) pss_nil))))
      (pss_one (ps_ret pe_bl)), ?_⟩
    refine ⟨5, rfl, by decide, by decide, for_range (lo := 0) (n := 5) (fun i σ H' => ∃ (y1 y2 y3 : Option V), σ = [some (.ref p), y1, y2, y3] ∧ Pot H' p (2000 * i) ∧ Kp p H H')
      ⟨none, none, none, rfl, hp, Kp.refl _ _⟩ ?_ ?_⟩
    · rintro i σ H1 hi ⟨y1, y2, y3, rfl, hp1, kp1⟩
      refine ⟨.ref p, rfl, p, 2000 * i, rfl, hp1, by omega, fun a T H2 hp2 kp2 hT rule => ?_⟩
      have fitT2 : Fit 3 (tblD T) := fit_up _ _ (tint_fit _ _ (tint_tbl rule))
      refine ⟨.ref a, rfl, .ref a, rfl, AskV.of (dpTbl hT) fitT2, fun H3 s3 => ⟨_, rfl, iteF ?_⟩⟩
      have hp3 := hp2.same s3
      have hT3 := hT.same s3
      refine ⟨8, rfl, by decide, by decide, fun D nD => ?_⟩
      have sD := same_upd (o := .lst []) nD
      have nDp : D ≠ p := fun z => by
        obtain ⟨_, y⟩ := pot_lst hp3
        rw [z, y] at nD
        cases nD
      refine lc_range (lo := 0) (n := 8) (fun m H4 => H4 D = some (.lst ((List.replicate m true).map V.bl)) ∧ Pot H4 p (2000 * i + 1000 + 9 * m) ∧ Tbl H4 a T ∧ Kp p H3 H4 ∧ D ≠ p) ⟨upd_same, hp3.same sD, hT3.same sD, .of sD, nDp⟩ ?_ ?_
      · rintro m H4 hm ⟨hD, hp4, hT4, kp4, _⟩
        refine ⟨rfl, yesI ⟨.ref p, rfl, .ref a, rfl, p, _, .ref a, tblD T, rfl, hp4, by omega, dpTbl (tbl_rm hT4 hp4), tint_tbl rule, fun v' H5 hp5 kp5 g => ?_⟩⟩
        obtain ⟨d', hd', f'⟩ := g
        refine ⟨v', rfl, AskV.of (dpS rm_sub _ _ hd') f', fun H6 s6 => ⟨_, s6 _ _ (kp5 _ _ nDp hD), ?_, ?_, ?_, ?_, ?_, nDp⟩⟩
        · rw [List.length_map, List.length_replicate]
          exact lenLine (by omega)
        · rw [upd_same, List.replicate_succ', List.map_append]
          rfl
        · obtain ⟨g, t, c, e, r⟩ := (hp5.same s6).mono (show _ ≤ 2000 * i + 1000 + 9 * (m + 1) by omega)
          exact ⟨g, t, c, by rw [upd_ne (Ne.symm nDp)]; exact e, r⟩
        · obtain ⟨rs, h1, h2⟩ := (hT4.kp kp5 hp4).same s6
          have kt : ∀ (b : Addr) (xs : List V), H6 b = some (.tup xs) → upd H6 D (.lst ((List.replicate m true).map V.bl ++ [.bl true])) b = some (.tup xs) := fun b xs hb => by
            rw [upd_ne (ne_of hb (s6 _ _ (kp5 _ _ nDp hD)) (by intro z; cases z))]
            exact hb
          exact ⟨rs, kt _ _ h1, Paired.mapP h2 fun b row hb => kt _ _ hb⟩
        · intro b o nb hb
          rw [upd_ne (ne_of_none hb nD)]
          exact s6 _ _ (kp5 _ _ nb (kp4 _ _ nb hb))
      · rintro H4 ⟨hD, hp4, hT4, kp4, _⟩
        refine ⟨D, _, rfl, SqL.of hD, _, rfl, ?_⟩
        rw [show (List.replicate 8 true).all id = true by rfl]
        exact iteF ⟨_, _, _, rfl, hp4.mono (by omega), kp1.trans (kp2.trans ((Kp.of s3).trans kp4))⟩
    · rintro σ H1 ⟨y1, y2, y3, rfl, hp1, kp1⟩
      exact q H1 kp1
def spLaw (K : PySem.W.Frag) : Sp := fun vs H Q _ => ∃ (a : Addr) (ns : List Int), vs = [.ref a] ∧ SqL K H a (ns.map V.int) ∧ ns.length ≤ 63 ∧ ∀ H', Q (.bl true) H'
set_option maxHeartbeats 4000000 in
theorem ok_law {f fRt fPo fA fH : Addr} {fd dRt dPo dA dH : FuncData} {k : Nat} (F : Fun K "law" "law" sLaw f fd)
    (FRt : Fun K "_law_right" "_law_right" sRight fRt dRt) (bRt : Binds K dRt ["_law_pot_here"] []) (gRt : mg "_law_right" = some (.ref fRt)) (GRt : FnG P w K mg base (k + 7) fRt dRt ["_law_pot_here"] (spRight K))
    (FPo : Fun K "_law_pot" "_law_pot" sPot fPo dPo) (bPo : Binds K dPo ["_law_script", "_law_k"] []) (gPo : mg "_law_pot" = some (.ref fPo))
    (FA : Fun K "_law_asked" "_law_asked" sAsked fA dA) (bA : Binds K dA ["_law_thing"] []) (gA : mg "_law_asked" = some (.ref fA)) (GA : FnG P w K mg base (k + 7) fA dA ["_law_thing"] (spAsked K))
    (FH : Fun K "_law_by_hand" "_law_by_hand" sByHand fH dH) (bH : Binds K dH [] []) (gH : mg "_law_by_hand" = some (.ref fH)) (B : LibJ mg) (mlist : mg "list" = none) (mabs : mg "abs" = none) (mmax : mg "max" = none) (mmin : mg "min" = none) :
    FnG P w K mg base (k + 8) f fd ["_law_script"] (spLaw K) := by
  have GPo : FnOk P w K mg base CX0 (k + 7) fPo dPo ["_law_script", "_law_k"] (spPot K) := ok_pot FPo B.len mabs
  have GH : FnOk P w K mg base CX0 (k + 7) fH dH [] (spByHand K) := ok_byhand FH B mlist
  refine funG F scLaw (fun vs H Q E h => ?_) (fun cdv A outer s H vs Q E gu hr h => ?_)
  · obtain ⟨a, ns, rfl, _⟩ := h
    rfl
  · obtain ⟨a, ns, rfl, hS, hlen, q⟩ := h
    refine ⟨_, pss_cons (ps_if (pt_not (pt_val (pe_callB (allK (K := K) rfl) (by rfl) B.all (by decide +kernel) (pa_cons
        (pe_lc (own := [("_law_thing", 1)]) (g := gName 1) (by rfl) scLaw.nd (piLstK (K := K) (pe_call0 GH hr (by rfl) gH FH.kp bH .nil pass0))
          (blkOk_by (own := [("_law_thing", 1)]) (N := nLaw) (sc := defScope sLaw) (by decide +kernel))
          (fun _ _ _ _ _ => pg_name (i := 1) scLaw.nd rfl (Or.inl rfl)) (fun _ _ _ _ _ => pts_nil)
          (fun _ _ _ _ _ => callG (E := E0) GA gu hr (by rfl) gA FA.kp bA (pa_cons (pv 1) pa_nil))) pa_nil)))) (pss_one (ps_ret pe_bl)) pss_nil)
      (pss_one (ps_ret (pe_callB (allK (K := K) rfl) (by rfl) B.all (by decide +kernel) (pa_cons
        (pe_lc (own := [("_law_k", 2)]) (g := gName 2) (by rfl) scLaw.nd (pi_range1 (by rfl) B.range (pa_cons
            (pe_callB (call_max2 rfl) (by rfl) mmax (by decide +kernel) (pa_cons pe_int (pa_cons
              (pe_callB (call_min2 rfl) (by rfl) mmin (by decide +kernel) (pa_cons pe_int (pa_cons (pe_callB (lenK (K := K)) (by rfl) B.len PySem.boot_len (pa_cons (pv 0) pa_nil)) pa_nil))) pa_nil))) pa_nil))
          (blkOk_by (own := [("_law_k", 2)]) (N := nLaw) (sc := defScope sLaw) (by decide +kernel))
          (fun _ _ _ _ _ => pg_name (i := 2) scLaw.nd rfl (Or.inl rfl)) (fun _ _ _ _ _ => pts_nil)
          (fun _ _ _ _ _ => callG (E := E0) GRt gu hr (by rfl) gRt FRt.kp bRt (pa_cons (pe_call GPo hr (by rfl) gPo FPo.kp bPo .nil pass0 (pa_cons (pv 0) (pa_cons (pv 2) pa_nil))) pa_nil))) pa_nil)))), ?_⟩
    refine ⟨rfl, fun L zs H1 s1 hL lz az => ⟨L, rfl, ⟨_, SqL.of hL⟩, fun D nD => ?_⟩⟩
    have sD := same_upd (o := .lst []) nD
    refine lc_list (K := K) (a := L) (xs := zs) (fun m H2 => H2 D = some (.lst ((List.replicate m true).map V.bl)) ∧ Same H1 H2) ⟨upd_same, sD⟩ (fun m H2 _ h => SqL.of (h.2 _ _ hL)) ?_ ?_
    · rintro m x H2 hx ⟨hD, s2⟩
      have ml := (List.getElem?_eq_some_iff.mp hx).1
      refine ⟨rfl, yesI ⟨x, rfl, x, rfl, (az x (List.mem_of_getElem? hx)).same s2, fun H3 s3 => ⟨_, s3 _ _ hD, ?_, ?_, ?_⟩⟩⟩
      · rw [List.length_map, List.length_replicate]
        exact lenLine (by omega)
      · rw [upd_same, List.replicate_succ', List.map_append]
        rfl
      · intro b o hb
        rw [upd_ne (ne_of_none hb nD)]
        exact s3 _ _ (s2 _ _ hb)
    rintro H2 ⟨hD, s2⟩
    refine ⟨D, _, rfl, SqL.of hD, ?_⟩
    rw [show (List.replicate zs.length true).all id = true by simp]
    refine ⟨_, rfl, iteF ?_⟩
    have hS2 := (s1.trans s2).seq hS
    clear hD nD sD
    refine ⟨.ref a, rfl, a, _, rfl, .inl hS2, 3, _, rfl, 1, _, rfl, _, rfl, ?_, ?_, fun D nD => ?_⟩
    · split <;> split <;> omega
    · split <;> split <;> omega
    obtain ⟨N', eN, hN⟩ : ∃ N : Nat, (if (if (((ns.map V.int).length : Nat) : Int) < 3 then (((ns.map V.int).length : Nat) : Int) else 3) > 1 then (if (((ns.map V.int).length : Nat) : Int) < 3 then (((ns.map V.int).length : Nat) : Int) else 3) else 1).toNat = N ∧ N ≤ 3 := by
      refine ⟨_, rfl, ?_⟩
      split <;> split <;> omega
    rw [eN]
    have sD := same_upd (o := .lst []) nD
    refine lc_range (lo := 0) (n := N') (fun i H3 => H3 D = some (.lst ((List.replicate i true).map V.bl)) ∧ Same H2 H3) ⟨upd_same, sD⟩ ?_ ?_
    · rintro i H3 hi ⟨hD, s3⟩
      refine ⟨rfl, yesI ⟨.ref a, rfl, .int (0 + i), rfl, a, ns, 0 + (i : Int), rfl, s3.seq hS2, by omega, by omega, fun p H4 np s4 hp => ⟨p, rfl, hp, fun H5 k5 => ?_⟩⟩⟩
      have s5 := Kp.new k5 s4 np
      refine ⟨_, s5 _ _ hD, ?_, ?_, ?_⟩
      · rw [List.length_map, List.length_replicate]
        exact lenLine (by omega)
      · rw [upd_same, List.replicate_succ', List.map_append]
        rfl
      · intro b o hb
        rw [upd_ne (ne_of_none hb nD)]
        exact s5 _ _ (s3 _ _ hb)
    · rintro H3 ⟨hD, hS3⟩
      refine ⟨D, _, rfl, SqL.of hD, ?_⟩
      rw [show (List.replicate N' true).all id = true by simp]
      exact q H3
end
end Nm

namespace Nm
open PySem PySem.Spec PyProof.Rows L2 GL
/-! ### what the top has written -/
theorem all_mk {l : PySem.W.OpenLaw} {w : World} {K : PySem.W.Frag} {h : Heap} {mg : Str → Option Value} {fa f1 f2 f3 f4 f5 f6 f7 f8 f9 f10 f11 f12 f13 f14 f15 f16 f17 f18 f19 f20 : Addr} (X : K.In h) (G : h.Ns mainGlobals mg) (hfa : mg "law" = some (.ref fa))
    {od1 an1 od2 an2 od3 an3 od4 an4 od5 an5 od6 an6 od7 an7 od8 an8 od9 an9 od10 an10 od11 an11 od12 an12 od13 an13 od14 an14 od15 an15 od16 an16 od17 an17 od18 an18 od19 an19 od20 an20 : Option Addr}
    {sl1 sl2 sl3 sl4 sl5 sl6 sl7 sl8 sl9 sl10 sl11 sl12 sl13 sl14 sl15 sl16 sl17 sl18 sl19 sl20 : Array (Option Value)}
    {oc1 kV1 dc1 pm1 cd1 ct1 oc2 kV2 dc2 pm2 cd2 ct2 oc3 kV3 dc3 pm3 cd3 ct3 oc4 kV4 dc4 pm4 cd4 ct4 oc5 kV5 dc5 pm5 cd5 ct5 oc6 kV6 dc6 pm6 cd6 ct6 oc7 kV7 dc7 pm7 cd7 ct7 oc8 kV8 dc8 pm8 cd8 ct8 oc9 kV9 dc9 pm9 cd9 ct9 oc10 kV10 dc10 pm10 cd10 ct10 oc11 kV11 dc11 pm11 cd11 ct11 oc12 kV12 dc12 pm12 cd12 ct12 oc13 kV13 dc13 pm13 cd13 ct13 oc14 kV14 dc14 pm14 cd14 ct14 oc15 kV15 dc15 pm15 cd15 ct15 oc16 kV16 dc16 pm16 cd16 ct16 oc17 kV17 dc17 pm17 cd17 ct17 oc18 kV18 dc18 pm18 cd18 ct18 oc19 kV19 dc19 pm19 cd19 ct19 oc20 kV20 dc20 pm20 cd20 ct20 : Value} {tm : Tok}
    (a1 : PySem.W.nsIn K mainGlobals "is_below" = some (some (.ref f1))) (l1 : K.lookup f1 = some ⟨oc1, od1, .func (PySem.W.fnOf "is_below" "is_below" (defArgs sBelow) (defBody sBelow) (defScope sBelow) .none kV1 dc1 pm1 an1 cd1 ct1), sl1⟩) (c1 : PySem.W.codeIn K cd1 "is_below" = true) (k1 : PySem.W.keepIn K (.ref f1) = true)
    (a2 : PySem.W.nsIn K mainGlobals "is_ascending" = some (some (.ref f2))) (l2 : K.lookup f2 = some ⟨oc2, od2, .func (PySem.W.fnOf "is_ascending" "is_ascending" (defArgs sAsc) (defBody sAsc) (defScope sAsc) .none kV2 dc2 pm2 an2 cd2 ct2), sl2⟩) (c2 : PySem.W.codeIn K cd2 "is_ascending" = true) (k2 : PySem.W.keepIn K (.ref f2) = true)
    (a3 : PySem.W.nsIn K mainGlobals "is_rule" = some (some (.ref f3))) (l3 : K.lookup f3 = some ⟨oc3, od3, .func (PySem.W.fnOf "is_rule" "is_rule" (defArgs sIsRule) (defBody sIsRule) (defScope sIsRule) .none kV3 dc3 pm3 an3 cd3 ct3), sl3⟩) (c3 : PySem.W.codeIn K cd3 "is_rule" = true) (k3 : PySem.W.keepIn K (.ref f3) = true)
    (a4 : PySem.W.nsIn K mainGlobals "_law_pot" = some (some (.ref f4))) (l4 : K.lookup f4 = some ⟨oc4, od4, .func (PySem.W.fnOf "_law_pot" "_law_pot" (defArgs sPot) (defBody sPot) (defScope sPot) .none kV4 dc4 pm4 an4 cd4 ct4), sl4⟩) (c4 : PySem.W.codeIn K cd4 "_law_pot" = true) (k4 : PySem.W.keepIn K (.ref f4) = true)
    (a5 : PySem.W.nsIn K mainGlobals "_law_take" = some (some (.ref f5))) (l5 : K.lookup f5 = some ⟨oc5, od5, .func (PySem.W.fnOf "_law_take" "_law_take" (defArgs sTake) (defBody sTake) (defScope sTake) .none kV5 dc5 pm5 an5 cd5 ct5), sl5⟩) (c5 : PySem.W.codeIn K cd5 "_law_take" = true) (k5 : PySem.W.keepIn K (.ref f5) = true)
    (a6 : PySem.W.nsIn K mainGlobals "_law_pick" = some (some (.ref f6))) (l6 : K.lookup f6 = some ⟨oc6, od6, .func (PySem.W.fnOf "_law_pick" "_law_pick" (defArgs sPick) (defBody sPick) (defScope sPick) .none kV6 dc6 pm6 an6 cd6 ct6), sl6⟩) (c6 : PySem.W.codeIn K cd6 "_law_pick" = true) (k6 : PySem.W.keepIn K (.ref f6) = true)
    (a7 : PySem.W.nsIn K mainGlobals "_law_mixed" = some (some (.ref f7))) (l7 : K.lookup f7 = some ⟨oc7, od7, .func (PySem.W.fnOf "_law_mixed" "_law_mixed" (defArgs sMixed) (defBody sMixed) (defScope sMixed) .none kV7 dc7 pm7 an7 cd7 ct7), sl7⟩) (c7 : PySem.W.codeIn K cd7 "_law_mixed" = true) (k7 : PySem.W.keepIn K (.ref f7) = true)
    (a8 : PySem.W.nsIn K mainGlobals "_law_some" = some (some (.ref f8))) (l8 : K.lookup f8 = some ⟨oc8, od8, .func (PySem.W.fnOf "_law_some" "_law_some" (defArgs sSome) (defBody sSome) (defScope sSome) .none kV8 dc8 pm8 an8 cd8 ct8), sl8⟩) (c8 : PySem.W.codeIn K cd8 "_law_some" = true) (k8 : PySem.W.keepIn K (.ref f8) = true)
    (a9 : PySem.W.nsIn K mainGlobals "_law_named" = some (some (.ref f9))) (l9 : K.lookup f9 = some ⟨oc9, od9, .func (PySem.W.fnOf "_law_named" "_law_named" (defArgs sNamed) (defBody sNamed) (defScope sNamed) .none kV9 dc9 pm9 an9 cd9 ct9), sl9⟩) (c9 : PySem.W.codeIn K cd9 "_law_named" = true) (k9 : PySem.W.keepIn K (.ref f9) = true)
    (a10 : PySem.W.nsIn K mainGlobals "_law_called_so" = some (some (.ref f10))) (l10 : K.lookup f10 = some ⟨oc10, od10, .func (PySem.W.fnOf "_law_called_so" "_law_called_so" (defArgs sCso) (defBody sCso) (defScope sCso) .none kV10 dc10 pm10 an10 cd10 ct10), sl10⟩) (c10 : PySem.W.codeIn K cd10 "_law_called_so" = true) (k10 : PySem.W.keepIn K (.ref f10) = true)
    (a11 : PySem.W.nsIn K mainGlobals "_law_changed" = some (some (.ref f11))) (l11 : K.lookup f11 = some ⟨oc11, od11, .func (PySem.W.fnOf "_law_changed" "_law_changed" (defArgs sChg) (defBody sChg) (defScope sChg) .none kV11 dc11 pm11 an11 cd11 ct11), sl11⟩) (c11 : PySem.W.codeIn K cd11 "_law_changed" = true) (k11 : PySem.W.keepIn K (.ref f11) = true)
    (a12 : PySem.W.nsIn K mainGlobals "_law_table" = some (some (.ref f12))) (l12 : K.lookup f12 = some ⟨oc12, od12, .func (PySem.W.fnOf "_law_table" "_law_table" (defArgs sTab) (defBody sTab) (defScope sTab) .none kV12 dc12 pm12 an12 cd12 ct12), sl12⟩) (c12 : PySem.W.codeIn K cd12 "_law_table" = true) (k12 : PySem.W.keepIn K (.ref f12) = true)
    (a13 : PySem.W.nsIn K mainGlobals "_law_odd" = some (some (.ref f13))) (l13 : K.lookup f13 = some ⟨oc13, od13, .func (PySem.W.fnOf "_law_odd" "_law_odd" (defArgs sOdd) (defBody sOdd) (defScope sOdd) .none kV13 dc13 pm13 an13 cd13 ct13), sl13⟩) (c13 : PySem.W.codeIn K cd13 "_law_odd" = true) (k13 : PySem.W.keepIn K (.ref f13) = true)
    (a14 : PySem.W.nsIn K mainGlobals "_law_bent" = some (some (.ref f14))) (l14 : K.lookup f14 = some ⟨oc14, od14, .func (PySem.W.fnOf "_law_bent" "_law_bent" (defArgs sBent) (defBody sBent) (defScope sBent) .none kV14 dc14 pm14 an14 cd14 ct14), sl14⟩) (c14 : PySem.W.codeIn K cd14 "_law_bent" = true) (k14 : PySem.W.keepIn K (.ref f14) = true)
    (a15 : PySem.W.nsIn K mainGlobals "_law_is_number" = some (some (.ref f15))) (l15 : K.lookup f15 = some ⟨oc15, od15, .func (PySem.W.fnOf "_law_is_number" "_law_is_number" (defArgs sIsNum) (defBody sIsNum) (defScope sIsNum) .none kV15 dc15 pm15 an15 cd15 ct15), sl15⟩) (c15 : PySem.W.codeIn K cd15 "_law_is_number" = true) (k15 : PySem.W.keepIn K (.ref f15) = true)
    (a16 : PySem.W.nsIn K mainGlobals "_law_is_rule" = some (some (.ref f16))) (l16 : K.lookup f16 = some ⟨oc16, od16, .func (PySem.W.fnOf "_law_is_rule" "_law_is_rule" (defArgs sLisRule) (defBody sLisRule) (defScope sLisRule) .none kV16 dc16 pm16 an16 cd16 ct16), sl16⟩) (c16 : PySem.W.codeIn K cd16 "_law_is_rule" = true) (k16 : PySem.W.keepIn K (.ref f16) = true)
    (a17 : PySem.W.nsIn K mainGlobals "_law_by_hand" = some (some (.ref f17))) (l17 : K.lookup f17 = some ⟨oc17, od17, .func (PySem.W.fnOf "_law_by_hand" "_law_by_hand" (defArgs sByHand) (defBody sByHand) (defScope sByHand) .none kV17 dc17 pm17 an17 cd17 ct17), sl17⟩) (c17 : PySem.W.codeIn K cd17 "_law_by_hand" = true) (k17 : PySem.W.keepIn K (.ref f17) = true)
    (a18 : PySem.W.nsIn K mainGlobals "_law_asked" = some (some (.ref f18))) (l18 : K.lookup f18 = some ⟨oc18, od18, .func (PySem.W.fnOf "_law_asked" "_law_asked" (defArgs sAsked) (defBody sAsked) (defScope sAsked) .none kV18 dc18 pm18 an18 cd18 ct18), sl18⟩) (c18 : PySem.W.codeIn K cd18 "_law_asked" = true) (k18 : PySem.W.keepIn K (.ref f18) = true)
    (a19 : PySem.W.nsIn K mainGlobals "_law_right" = some (some (.ref f19))) (l19 : K.lookup f19 = some ⟨oc19, od19, .func (PySem.W.fnOf "_law_right" "_law_right" (defArgs sRight) (defBody sRight) (defScope sRight) .none kV19 dc19 pm19 an19 cd19 ct19), sl19⟩) (c19 : PySem.W.codeIn K cd19 "_law_right" = true) (k19 : PySem.W.keepIn K (.ref f19) = true)
    (a20 : PySem.W.nsIn K mainGlobals "law" = some (some (.ref f20))) (l20 : K.lookup f20 = some ⟨oc20, od20, .func (PySem.W.fnOf "law" "law" (defArgs sLaw) (defBody sLaw) (defScope sLaw) .none kV20 dc20 pm20 an20 cd20 ct20), sl20⟩) (c20 : PySem.W.codeIn K cd20 "law" = true) (k20 : PySem.W.keepIn K (.ref f20) = true)
    (z1 : PySem.W.nsIn K mainGlobals "len" = some none)
    (z2 : PySem.W.nsIn K mainGlobals "isinstance" = some none)
    (z3 : PySem.W.nsIn K mainGlobals "bool" = some none)
    (z4 : PySem.W.nsIn K mainGlobals "int" = some none)
    (z5 : PySem.W.nsIn K mainGlobals "tuple" = some none)
    (z6 : PySem.W.nsIn K mainGlobals "range" = some none)
    (z7 : PySem.W.nsIn K mainGlobals "all" = some none)
    (z8 : PySem.W.nsIn K mainGlobals "abs" = some none)
    (z9 : PySem.W.nsIn K mainGlobals "list" = some none)
    (z10 : PySem.W.nsIn K mainGlobals "enumerate" = some none)
    (z11 : PySem.W.nsIn K mainGlobals "sorted" = some none)
    (z12 : PySem.W.nsIn K mainGlobals "set" = some none)
    (z13 : PySem.W.nsIn K mainGlobals "repr" = some none)
    (z14 : PySem.W.nsIn K mainGlobals "str" = some none)
    (z15 : PySem.W.nsIn K mainGlobals "max" = some none)
    (z16 : PySem.W.nsIn K mainGlobals "min" = some none)
    (zm : PySem.W.nsIn K mainGlobals "MOST_MARKS" = some (some (.int 16 tm)))
    : ∃ fd : FuncData, (∀ (s : Shared) (v : Value), BindsTo s fd ⟨[v], []⟩ [("_law_script", v)]) ∧ ∀ base : Heap, K.In base → base.Ns mainGlobals mg → FnG l.prog w K mg base 8 fa fd ["_law_script"] (spLaw K) := by
  have e := hfa.symm.trans (PySem.W.mg_of X G a20)
  cases e
  have F1 := fun_mk (st := sBelow) l1 c1 k1
  have b1 := F1.binds (ps := ["value", "limit"]) fun _ _ _ _ _ _ us hl => match us, hl with | [_, _], _ => rfl
  have g1 := PySem.W.mg_of X G a1
  have F2 := fun_mk (st := sAsc) l2 c2 k2
  have b2 := F2.binds (ps := ["value", "limit"]) fun _ _ _ _ _ _ us hl => match us, hl with | [_, _], _ => rfl
  have g2 := PySem.W.mg_of X G a2
  have F3 := fun_mk (st := sIsRule) l3 c3 k3
  have b3 := F3.binds (ps := ["value"]) fun _ _ _ _ _ _ us hl => match us, hl with | [_], _ => rfl
  have g3 := PySem.W.mg_of X G a3
  have F4 := fun_mk (st := sPot) l4 c4 k4
  have b4 := F4.binds (ps := ["_law_script", "_law_k"]) fun _ _ _ _ _ _ us hl => match us, hl with | [_, _], _ => rfl
  have g4 := PySem.W.mg_of X G a4
  have F5 := fun_mk (st := sTake) l5 c5 k5
  have b5 := F5.binds (ps := ["_law_pot_here", "_law_size"]) fun _ _ _ _ _ _ us hl => match us, hl with | [_, _], _ => rfl
  have g5 := PySem.W.mg_of X G a5
  have F6 := fun_mk (st := sPick) l6 c6 k6
  have b6 := F6.binds (ps := ["_law_pot_here", "_law_some_here"]) fun _ _ _ _ _ _ us hl => match us, hl with | [_, _], _ => rfl
  have g6 := PySem.W.mg_of X G a6
  have F7 := fun_mk (st := sMixed) l7 c7 k7
  have b7 := F7.binds (ps := ["_law_pot_here", "_law_some_here"]) fun _ _ _ _ _ _ us hl => match us, hl with | [_, _], _ => rfl
  have g7 := PySem.W.mg_of X G a7
  have F8 := fun_mk (st := sSome) l8 c8 k8
  have b8 := F8.binds (ps := ["_law_pot_here", "_law_some_here", "_law_share"]) fun _ _ _ _ _ _ us hl => match us, hl with | [_, _, _], _ => rfl
  have g8 := PySem.W.mg_of X G a8
  have F9 := fun_mk (st := sNamed) l9 c9 k9
  have b9 := F9.binds (ps := ["_law_wide"]) fun _ _ _ _ _ _ us hl => match us, hl with | [_], _ => rfl
  have g9 := PySem.W.mg_of X G a9
  have F10 := fun_mk (st := sCso) l10 c10 k10
  have b10 := F10.binds (ps := ["_law_table_here", "_law_led"]) fun _ _ _ _ _ _ us hl => match us, hl with | [_, _], _ => rfl
  have g10 := PySem.W.mg_of X G a10
  have F11 := fun_mk (st := sChg) l11 c11 k11
  have b11 := F11.binds (ps := ["_law_pot_here", "_law_table_here"]) fun _ _ _ _ _ _ us hl => match us, hl with | [_, _], _ => rfl
  have g11 := PySem.W.mg_of X G a11
  have F12 := fun_mk (st := sTab) l12 c12 k12
  have b12 := F12.binds (ps := ["_law_pot_here", "_law_most"]) fun _ _ _ _ _ _ us hl => match us, hl with | [_, _], _ => rfl
  have g12 := PySem.W.mg_of X G a12
  have F13 := fun_mk (st := sOdd) l13 c13 k13
  have b13 := F13.binds (ps := ["_law_pot_here", "_law_part"]) fun _ _ _ _ _ _ us hl => match us, hl with | [_, _], _ => rfl
  have g13 := PySem.W.mg_of X G a13
  have F14 := fun_mk (st := sBent) l14 c14 k14
  have b14 := F14.binds (ps := ["_law_pot_here", "_law_thing", "_law_depth"]) fun _ _ _ _ _ _ us hl => match us, hl with | [_, _, _], _ => rfl
  have g14 := PySem.W.mg_of X G a14
  have F15 := fun_mk (st := sIsNum) l15 c15 k15
  have b15 := F15.binds (ps := ["_law_thing", "_law_below"]) fun _ _ _ _ _ _ us hl => match us, hl with | [_, _], _ => rfl
  have g15 := PySem.W.mg_of X G a15
  have F16 := fun_mk (st := sLisRule) l16 c16 k16
  have b16 := F16.binds (ps := ["_law_thing"]) fun _ _ _ _ _ _ us hl => match us, hl with | [_], _ => rfl
  have g16 := PySem.W.mg_of X G a16
  have F17 := fun_mk (st := sByHand) l17 c17 k17
  have b17 := F17.binds (ps := []) fun _ _ _ _ _ _ us hl => match us, hl with | [], _ => rfl
  have g17 := PySem.W.mg_of X G a17
  have F18 := fun_mk (st := sAsked) l18 c18 k18
  have b18 := F18.binds (ps := ["_law_thing"]) fun _ _ _ _ _ _ us hl => match us, hl with | [_], _ => rfl
  have g18 := PySem.W.mg_of X G a18
  have F19 := fun_mk (st := sRight) l19 c19 k19
  have b19 := F19.binds (ps := ["_law_pot_here"]) fun _ _ _ _ _ _ us hl => match us, hl with | [_], _ => rfl
  have g19 := PySem.W.mg_of X G a19
  have F20 := fun_mk (st := sLaw) l20 c20 k20
  have g20 := PySem.W.mg_of X G a20
  have m1 := PySem.W.mg_none_of X G z1
  have m2 := PySem.W.mg_none_of X G z2
  have m3 := PySem.W.mg_none_of X G z3
  have m4 := PySem.W.mg_none_of X G z4
  have m5 := PySem.W.mg_none_of X G z5
  have m6 := PySem.W.mg_none_of X G z6
  have m7 := PySem.W.mg_none_of X G z7
  have m8 := PySem.W.mg_none_of X G z8
  have m9 := PySem.W.mg_none_of X G z9
  have m10 := PySem.W.mg_none_of X G z10
  have m11 := PySem.W.mg_none_of X G z11
  have m12 := PySem.W.mg_none_of X G z12
  have m13 := PySem.W.mg_none_of X G z13
  have m14 := PySem.W.mg_none_of X G z14
  have m15 := PySem.W.mg_none_of X G z15
  have m16 := PySem.W.mg_none_of X G z16
  have mm := PySem.W.mg_of X G zm
  have BJ : LibJ mg := ⟨m1, m2, m3, m4, m5, m6, m7⟩
  have B : Lib K mg := ⟨m1, m8, m9, m5, m6, m10, m11⟩
  have DR : Draw K mg _ _ _ _ _ _ _ _ _ _ _ _ _ _ := ⟨F5, F6, F7, F8, F9, F10, F11, b5, b6, b7, b8, b9, b10, b11, g5, g6, g7, g8, g9, g10, g11⟩
  have J : Jd1 K mg _ _ _ _ _ _ _ _ _ _ := ⟨F1, F2, F3, F15, F16, b1, b2, b3, b15, b16, g1, g2, g3, g15, g16⟩
  refine ⟨PySem.W.fnOf "law" "law" (defArgs sLaw) (defBody sLaw) (defScope sLaw) .none kV20 dc20 pm20 an20 cd20 ct20, fun s v => .of_eq rfl, fun base _ _ => ?_⟩
  exact ok_law (k := 0) F20 F19 b19 g19 (ok_right (k := 0) F19 DR B BJ F12 b12 g12 F18 b18 g18 (ok_asked (k := 2) F18 J BJ m9 m12 m11 m13 mm) F14 b14 g14 F13 b13 g13 m14) F4 b4 g4 F18 b18 g18 (ok_asked (k := 3) F18 J BJ m9 m12 m11 m13 mm) F17 b17 g17 BJ m9 m8 m15 m16
end Nm
open PySem PySem.W PyProof.Rows
set_option maxHeartbeats 0 in
theorem PySem.Challenge.cw_nextmarks_k01_rules_of_any_value_holds : PySem.Challenge.rw_nextmarks_k01_rules_of_any_value.Holds := by
  w_on; o_law; k_head; (case hw => w_witness2)
  k_fill
  refine GL.walkG (l := PySem.Challenge.rw_nextmarks_k01_rules_of_any_value) (n := 63) (k := 8) (x := "_law_script") (sp := fun w => Nm.spLaw _) rfl (by decide) rfl ⟨rfl, by decide, by decide⟩ (fun w h Y => PySem.W.kIn_of Y) ?F (fun _ _ a ns hl hS => ⟨a, ns, rfl, hS, hl, fun _ => rfl⟩)
  case F =>
    intro w mg fa h KX G hmg
    refine' Nm.all_mk KX G hmg ?a1 ?l1 ?c1 ?k1 ?a2 ?l2 ?c2 ?k2 ?a3 ?l3 ?c3 ?k3 ?a4 ?l4 ?c4 ?k4 ?a5 ?l5 ?c5 ?k5 ?a6 ?l6 ?c6 ?k6 ?a7 ?l7 ?c7 ?k7 ?a8 ?l8 ?c8 ?k8 ?a9 ?l9 ?c9 ?k9 ?a10 ?l10 ?c10 ?k10 ?a11 ?l11 ?c11 ?k11 ?a12 ?l12 ?c12 ?k12 ?a13 ?l13 ?c13 ?k13 ?a14 ?l14 ?c14 ?k14 ?a15 ?l15 ?c15 ?k15 ?a16 ?l16 ?c16 ?k16 ?a17 ?l17 ?c17 ?k17 ?a18 ?l18 ?c18 ?k18 ?a19 ?l19 ?c19 ?k19 ?a20 ?l20 ?c20 ?k20 ?z1 ?z2 ?z3 ?z4 ?z5 ?z6 ?z7 ?z8 ?z9 ?z10 ?z11 ?z12 ?z13 ?z14 ?z15 ?z16 ?zm
    (case a1 => k_is); (case l1 => k_is); (case c1 => k_is); (case k1 => k_is); (case a2 => k_is); (case l2 => k_is); (case c2 => k_is); (case k2 => k_is); (case a3 => k_is); (case l3 => k_is); (case c3 => k_is); (case k3 => k_is); (case a4 => k_is); (case l4 => k_is); (case c4 => k_is); (case k4 => k_is); (case a5 => k_is); (case l5 => k_is); (case c5 => k_is); (case k5 => k_is); (case a6 => k_is); (case l6 => k_is); (case c6 => k_is); (case k6 => k_is); (case a7 => k_is); (case l7 => k_is); (case c7 => k_is); (case k7 => k_is); (case a8 => k_is); (case l8 => k_is); (case c8 => k_is); (case k8 => k_is); (case a9 => k_is); (case l9 => k_is); (case c9 => k_is); (case k9 => k_is); (case a10 => k_is); (case l10 => k_is); (case c10 => k_is); (case k10 => k_is); (case a11 => k_is); (case l11 => k_is); (case c11 => k_is); (case k11 => k_is); (case a12 => k_is); (case l12 => k_is); (case c12 => k_is); (case k12 => k_is); (case a13 => k_is); (case l13 => k_is); (case c13 => k_is); (case k13 => k_is); (case a14 => k_is); (case l14 => k_is); (case c14 => k_is); (case k14 => k_is); (case a15 => k_is); (case l15 => k_is); (case c15 => k_is); (case k15 => k_is); (case a16 => k_is); (case l16 => k_is); (case c16 => k_is); (case k16 => k_is); (case a17 => k_is); (case l17 => k_is); (case c17 => k_is); (case k17 => k_is); (case a18 => k_is); (case l18 => k_is); (case c18 => k_is); (case k18 => k_is); (case a19 => k_is); (case l19 => k_is); (case c19 => k_is); (case k19 => k_is); (case a20 => k_is); (case l20 => k_is); (case c20 => k_is); (case k20 => k_is); (case z1 => k_is); (case z2 => k_is); (case z3 => k_is); (case z4 => k_is); (case z5 => k_is); (case z6 => k_is); (case z7 => k_is); (case z8 => k_is); (case z9 => k_is); (case z10 => k_is); (case z11 => k_is); (case z12 => k_is); (case z13 => k_is); (case z14 => k_is); (case z15 => k_is); (case z16 => k_is); (case zm => k_is)
