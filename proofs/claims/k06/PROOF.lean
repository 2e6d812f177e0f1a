import PyProof.Rows.All
import Wide.All
import OpenK.AllK
import Wide.FinOn
import HandS.Base
import HandS.Call
import HandS.List
import HandS.Ends
import HandS.Words
import HandS.Comp
import HandS.Iter
import HandS.Dict
import HandS.ForMost
import HandS.Walk
import KE.GoesEnum
import HandS.SetFor
import HandS.Conv
import HandS.IsInst
import HandS.FStrTup
import HandS.TupSets
import HandS.TupMul
import HandS.Deep
import PyProof.SeqIndex
import KE.KIndexOf
import HandS.TupAny
import HandS.Style
import HandS.Strs
import KE.KRevSl
import HandS.TupLe
import PyProof.Rows.SumAny
import HandS.SortInts
import PySem.Challenge.RW_nextmarks_k06_names_found
set_option Elab.async false
set_option linter.all false
set_option maxRecDepth 100000
/-! The hand layer with one thing more that is known: no repr is under way. -/
namespace GL
open PySem PySem.Spec PyProof.Rows L2

/-- a def's promise, kept wherever no repr is under way -/
structure FnG (P : Program) (w : World) (K : PySem.W.Frag) (mg : Str → Option Value) (base : Heap)
    (k : Nat) (f : Addr) (fd : FuncData) (ps : List Str) (sp : Sp) : Prop where
  many : ∀ vs H Q E, sp vs H Q E → vs.length = ps.length
  does : ∀ (A : Around) (out : List Env) (s : Shared) (H : Hp) (ar : Args) (us : List Value) (vs : List V) (Q : VK) (E : XK),
    A.guards = some [] → Room k A → Env0 P w K mg base A out s H → BindsTo s fd ar (ps.zip us) → Vals vs us → sp vs H Q E →
    codeAny (model P w) A (.call (.ref f) ar) (CR CX0 out P w H s Q E) s

section
variable {P : Program} {w : World} {K : PySem.W.Frag} {mg : Str → Option Value} {base : Heap}

theorem FnG.of {k : Nat} {f : Addr} {fd : FuncData} {ps : List Str} {sp : Sp} (F : FnOk P w K mg base CX0 k f fd ps sp) :
    FnG P w K mg base k f fd ps sp :=
  ⟨F.len, fun A out s H ar us vs Q E _ => F.run A out s H ar us vs Q E⟩

/-- a def by its body, no repr under way -/
theorem funG {x qual : Str} {st : Stmt} {f : Addr} {fd : FuncData} {N ps : List Str} {k : Nat} {sp : Sp}
    (F : Fun K x qual st f fd) (S : FnScope N ps (defScope st)) (many : ∀ vs H Q E, sp vs H Q E → vs.length = ps.length)
    (body : ∀ (cdv : Value) (A : Around) (out : List Env) (s : Shared) (H : Hp) (vs : List V) (Q : VK) (E : XK),
      A.guards = some [] → Room k (A.deeper (envOfC qual (defScope st) s.heap.objs.size f cdv)) → sp vs H Q E →
      ∃ t, PSs (cxOf CX0 P w K mg base N qual (defScope st) f cdv A out s H E).nox (defBody st) t ∧
        t { nx := fun _ H' => Q .non H', rt := Q } (start N vs) H) :
    FnG P w K mg base (k + 1) f fd ps sp := by
  obtain ⟨oc, od, kV, doc, pm, an, cdv, ct, osl, rfl, lk, hcd⟩ := F.ex
  refine ⟨many, fun A out s H ar us vs Q E gu room e0 bi rel wish => ?_⟩
  have n0 := many _ _ _ _ wish
  have kin : K.In s.heap := e0.mod.kin.keeps fun b o e => (e0.bs b o e).1
  have nol : s.heap.NoLimit := e0.mod.nolimit.keeps fun b o e => (e0.bs b o e).1
  have kinds : ∀ y ∈ ps.zip us, (defScope st).names.lookup y.1 = some .local ∨ ((defScope st).names.lookup y.1 = some .cell ∧
      ((cellsFrom (s.heap.objs.size + 1) (defScope st).names []).lookup y.1).isSome = true) := by
    rintro ⟨n, v⟩ hy
    rcases S.par n (List.of_mem_zip hy).1 with q | q
    · exact Or.inl q
    · exact Or.inr ⟨q, PySem.W.cellsFrom_some _ _ _ (Or.inl q)⟩
  apply codeAny_call_function room.depth (kin _ _ lk) rfl S.co S.gen rfl (PySem.W.codeRec_of kin hcd)
  refine bi _ _ _ _ ?_
  refine wpAny_newFunctionEnv_cells S.kind kinds fun env he s1 ic => ?_
  subst he
  refine And.intro (nol.keeps ic.toInCall.keep) (codeAny_func ?_)
  obtain ⟨t, ht, hq⟩ := body cdv A out s H vs Q E gu (room.deeper _) wish
  have ht' := ht.nox
  have J0 : Inv (cxOf CX0 P w K mg base N qual (defScope st) f cdv A out s H E) [] (start N vs) H s1 :=
    inv_start S room.hd e0 n0 rel ic
  refine wpAny_mono (ht'.run [] s1 (start N vs) H _ J0 hq) (fun fl s' hs => ?_) (fun e s' hs => hs)
  cases fl with
  | ret u =>
    obtain ⟨v, σ', H', J, rv, q⟩ := hs
    exact ⟨v, H', J.os, J.bare, J.base, J.hok, rv, q⟩
  | next =>
    obtain ⟨σ', H', J, q⟩ := hs
    exact ⟨V.non, H', J.os, J.bare, J.base, J.hok, rfl, q⟩
  | brk =>
    obtain ⟨_, _, _, q⟩ := hs
    cases q
  | cont =>
    obtain ⟨_, _, _, q⟩ := hs
    cases q
end

section
variable {X : Cx} {k : Nat} {f : Addr} {fd : FuncData} {ps : List Str} {sp : Sp} {x : Str} {p pos : Pos} {e : Expr} {es : List Expr} {t : TA} {E : XK}

theorem runG {pins : List (Addr × Obj)} {σ : L2.St} {H : Hp} {s : Shared} {Q : VK} {us : List Value} {vs : List V}
    (F : FnG X.prog X.w X.K X.mg X.base k f fd ps sp) (gu : X.A.guards = some []) (room : Room k X.A) (hb : Binds X.K fd ps [])
    (I : Inv X pins σ H s) (r : Vals vs us) (h : sp vs H Q E) :
    wpAny (model X.prog X.w) X.A (call (.ref f) us) (EP X pins σ Q) X.xe s := by
  have nl : (us ++ []).length = ps.length := by
    rw [List.append_nil, ← r.length]
    exact F.many _ _ _ _ h
  have bi := hb s us I.kIn nl
  rw [List.append_nil] at bi
  apply wpAny_call
  refine codeAny_mono (F.does X.A X.stack s H ⟨us, []⟩ us vs Q E gu room I.env0 bi r h) fun res s' hq => ?_
  rcases res with e | fl
  · exact False.elim hq
  · rcases fl with _ | _ | _ | u
    all_goals first | exact False.elim hq | exact I.after hq

def tCallG (sp : Sp) (E : XK) (t : TA) : TE := fun σ H Q => t σ H fun vs H1 => sp vs H1 Q E
theorem callG (F : FnG X.prog X.w X.K X.mg X.base k f fd ps sp) (gu : X.A.guards = some []) (room : Room k X.A) (hg : Gl X x)
    (hm : X.mg x = some (.ref f)) (hk : PySem.W.keepIn X.K (.ref f) = true) (hb : Binds X.K fd ps [])
    (ha : PA X (e :: es) t) (hdb : (x == ("__debug__" : Str)) = false := by decide)
    (he : starEach (e :: es) X.env = (false, eval e X.env) :: starEach es X.env := by rfl)
    (hpl : (backTo pos (starEach es X.env)).any (·.1) = false := by rfl) :
    PE X (.Call (.Name x p) (e :: es) [] pos) (tCallG sp E t) := by
  constructor
  intro pins s σ H Q I h
  apply wpAny_Call_Name_kw
  refine ld_glob I hg hm ?_ hdb
  refine PySem.W.callWith_K (h₀ := X.base) I.ok.mod.kin hk ?_ he hpl
  refine thn (ha.run pos pins s σ H _ I h) ?_
  rintro us s1 ⟨vs, H1, I1, r, q⟩
  exact ⟨I1.kIn, runG F gu room hb I1 r q⟩

/-- repr of data, where no repr is under way -/
theorem reprG (gu : X.A.guards = some []) (hu : X.A.units + 64 < cLine) :
    CallR X (.builtin "repr") (fun xs H Q => ∃ a d, xs = [.ref a] ∧ Dp X.K H (.ref a) d ∧ d.showable = true ∧ d.hasDict = false ∧
      d.depth ≤ 20 ∧ d.shown.length ≤ sizeLine ∧ Q (.str d.shown) H) := by
  intro pins s σ H xs us Q I r h
  obtain ⟨a, d, rfl, dp, sh, nd, de, sz, q⟩ := h
  obtain ⟨u, rfl, rfl⟩ := vals1 r
  obtain ⟨as, rd⟩ := Dp.reads I d (.ref a) (.ref a) dp rfl
  refine repr_of_reads' (h₀ := s.heap) rd sh (PyData.noDict_hsm nd) gu (by omega) (fun _ _ z => z) ?_ sz
  intro h' u tk kp
  exact ⟨.str _, H, I.kept kp, ⟨_, rfl⟩, q⟩
/-- an expression, with a word of what it gives -/
def tCutE (te : TE) : TE := fun σ H Q => ∃ P : VK, te σ H P ∧ ∀ v H', P v H' → Q v H'
theorem pe_cut {te : TE} (h : PE X e te) : PE X e (tCutE te) := by
  constructor
  intro pins s σ H Q I h1
  obtain ⟨P, h2, h3⟩ := h1
  refine thn (h.run pins s σ H P I h2) ?_
  rintro u s1 ⟨v, H1, I1, r, q⟩
  exact ⟨v, H1, I1, r, h3 v H1 q⟩
/-- a statement, then the others, with a word between -/
def tMid (t u : TS) : TS := fun D σ H => ∃ M : L2.St → Hp → Prop, t { D with nx := M } σ H ∧ ∀ σ' H', M σ' H' → u D σ' H'
theorem pss_mid {st : Stmt} {more : List Stmt} {t u : TS} (a : PS X st t) (b : PSs X more u) : PSs X (st :: more) (tMid t u) := by
  constructor
  intro pins s σ H D I h
  obtain ⟨M, hm, hu⟩ := h
  apply wpAny_execs_cons
  refine thn (a.run pins s σ H { D with nx := M } I hm) ?_
  rintro (_ | _ | _ | u) s1 q
  · obtain ⟨σ', H', I', q⟩ := q
    exact b.run pins s1 σ' H' D I' (hu σ' H' q)
  all_goals exact q
theorem reprBool : CallR X (.builtin "repr") (fun xs H Q => ∃ b, xs = [.bl b] ∧ Q (.str (if b then "True" else "False")) H) := by
  intro pins s σ H xs us Q I r h
  obtain ⟨b, rfl, q⟩ := h
  obtain ⟨u, rfl, rfl⟩ := vals1 r
  exact PySem.P.repr_of_bool ⟨.str _, H, I.tok _, ⟨_, rfl⟩, q⟩
/-! the rules that speak of the written part, with that part by name (within comprehensions) -/
def rTupOf (K : PySem.W.Frag) : List V → Hp → VK → Prop := fun xs H Q => ∃ p ys, xs = [.ref p] ∧ ((SqL K H p ys ∧ ∀ l, H l = none → Q (.ref l) (upd H l (.tup ys))) ∨ (SqT K H p ys ∧ Q (.ref p) H))
theorem tupOfK {K : PySem.W.Frag} (hK : X.K = K := by rfl) : CallR X (.type "tuple") (rTupOf K) := by
  subst hK
  exact call_tuple_of
def rLstOf (K : PySem.W.Frag) : List V → Hp → VK → Prop := fun xs H Q => ∃ p ys, xs = [.ref p] ∧ (SqL K H p ys ∨ SqT K H p ys) ∧ ∀ l, H l = none → Q (.ref l) (upd H l (.lst ys))
theorem lstOfK {K : PySem.W.Frag} (hK : X.K = K := by rfl) : CallR X (.type "list") (rLstOf K) := by
  subst hK
  exact call_list_of
def rLen (K : PySem.W.Frag) : List V → Hp → VK → Prop := fun xs H Q => ∃ p ys, xs = [.ref p] ∧ (SqL K H p ys ∨ SqT K H p ys) ∧ Q (.int ys.length) H
theorem lenK {K : PySem.W.Frag} (hK : X.K = K := by rfl) : CallR X (.builtin "len") (rLen K) := by
  subst hK
  exact call_len_seq
theorem ixTupK {K : PySem.W.Frag} (hK : X.K = K := by rfl) : IxR X (rIxT K) := by
  subst hK
  exact ix_tup
theorem ixLstK {K : PySem.W.Frag} (hK : X.K = K := by rfl) : IxR X (rIxL K) := by
  subst hK
  exact ix_list
theorem inK {K : PySem.W.Frag} (hK : X.K = K := by rfl) : OpR X (compareOp .In) (rIn K false) := by
  subst hK
  exact op_in_seq
theorem piLstK {K : PySem.W.Frag} {tg l : Expr} {tl : TE} (h : PE X l tl) (hK : X.K = K := by rfl) : PI X tg l (iList K tl) := by
  subst hK
  exact pi_list h
theorem piTupK {K : PySem.W.Frag} {tg l : Expr} {tl : TE} (h : PE X l tl) (hK : X.K = K := by rfl) : PI X tg l (iTup K tl) := by
  subst hK
  exact pi_tup h
theorem piEnumK {K : PySem.W.Frag} {e : Expr} {ta : TA} {p pos tpos : Pos} {elts : List Expr} {kk : Nat} (hg : Gl X "enumerate") (hm : X.mg "enumerate" = none) (ha : PA X [e] ta)
    (hs : starEach [e] X.env = [(false, eval e X.env)] := by rfl) (hK : X.K = K := by rfl) : PI X (.Tuple elts kk tpos) (.Call (.Name "enumerate" p) [e] [] pos) (iEnum K ta) := by
  subst hK
  exact pi_enum hg hm ha hs
theorem pgTupK {K : PySem.W.Frag} {es : List Expr} {k : Nat} {pos : Pos} {t : TGs} {n : Nat} (hc : X.calm = true) (h : PGs X es t)
    (hn : (assignEach es X.env).length = n := by rfl) (hst : (assignEach es X.env).findIdx? (·.1) = none := by rfl) (hK : X.K = K := by rfl) : PG X (.Tuple es k pos) (gTup K n t) := by
  subst hK
  exact pg_tup hc h hn hst
end
/-- the scope of a comprehension -/
def lcSc : Expr → Scope
  | .ListComp _ _ sc _ => sc
  | _ => { kind := .function, names := [], isGenerator := false, isCoroutine := false }
/-- e of «return f(e)» -/
def retArg : Stmt → Expr
  | .Return (some (.Call _ (e :: _) _ _)) _ => e
  | _ => .Constant .none 0 ⟨0, 0, 0, 0⟩
end GL

namespace Nm
open PySem PySem.Spec PyProof.Rows L2 GL
/-! ### the text -/
def topS (i : Nat) : Stmt := PySem.Challenge.pw_nextmarks_k06_names_found.main.body.getD i (.Pass ⟨0, 0, 0, 0⟩)
abbrev sPot : Stmt := topS 10
abbrev sTake : Stmt := topS 11
theorem scPot : FnScope ["_law_script", "_law_k", "_law_cell", "_law_great"] ["_law_script", "_law_k"] (defScope sPot) := ⟨rfl, rfl, rfl, by decide +kernel, rfl, by decide +kernel, by decide +kernel⟩
theorem scTake : FnScope ["_law_pot_here", "_law_size", "_law_digit", "_law_prime", "_law_mixed_here"] ["_law_pot_here", "_law_size"] (defScope sTake) := ⟨rfl, rfl, rfl, by decide +kernel, rfl, by decide +kernel, by decide +kernel⟩
/-! ### heaps -/
theorem same_upd {H : Hp} {p : Addr} {o : HO} (h : H p = none) : Same H (upd H p o) := fun b x e => by
  rw [upd_ne (ne_of_none e h)]
  exact e
/-- a pot: digits, a seed, a count of at most n -/
def Pot (H : Hp) (p : Addr) (n : Nat) : Prop := ∃ g s c : Int, H p = some (.lst [.int g, .int s, .int c]) ∧ 0 ≤ g ∧ 0 ≤ s ∧ s < 2305843009213693921 ∧ 0 ≤ c ∧ c ≤ n
/-- all but the pot is as it was -/
def Kp (p : Addr) (H H' : Hp) : Prop := ∀ b o, b ≠ p → H b = some o → H' b = some o
theorem Kp.refl (p : Addr) (H : Hp) : Kp p H H := fun _ _ _ h => h
theorem Kp.trans {p : Addr} {H H1 H2 : Hp} (a : Kp p H H1) (b : Kp p H1 H2) : Kp p H H2 := fun c o n h => b c o n (a c o n h)
theorem Kp.of {p : Addr} {H H' : Hp} (a : Same H H') : Kp p H H' := fun c o _ h => a c o h
theorem Kp.upd {p : Addr} {H : Hp} {o : HO} : Kp p H (upd H p o) := fun b x n e => by
  rw [upd_ne n]
  exact e
theorem Pot.same {H H' : Hp} {p : Addr} {n : Nat} (h : Pot H p n) (s : Same H H') : Pot H' p n := by
  obtain ⟨g, t, c, e, r⟩ := h
  exact ⟨g, t, c, s _ _ e, r⟩
theorem Pot.mono {H : Hp} {p : Addr} {m n : Nat} (h : Pot H p m) (l : m ≤ n) : Pot H p n := by
  obtain ⟨g, t, c, e, r1, r2, r3, r4, r5⟩ := h
  exact ⟨g, t, c, e, r1, r2, r3, r4, by omega⟩
theorem Kp.tup {p a : Addr} {H H' : Hp} {n : Nat} {xs : List V} (k : Kp p H H') (h : Pot H p n) (e : H a = some (.tup xs)) : H' a = some (.tup xs) := by
  obtain ⟨g, t, c, q, _⟩ := h
  exact k a _ (ne_of e q (by intro z; cases z)) e
theorem Kp.seq {K : PySem.W.Frag} {p a : Addr} {H H' : Hp} {xs : List V} (k : Kp p H H') (n : a ≠ p) (h : SqL K H a xs) : SqL K H' a xs := by
  rcases h with (h | ⟨o, h⟩) | h
  · exact .inl (.inl (k _ _ n h))
  · exact .inl (.inr ⟨o, k _ _ n h⟩)
  · exact .inr h
theorem Same.seqT {K : PySem.W.Frag} {H H' : Hp} {a : Addr} {xs : List V} (e : Same H H') (h : SqT K H a xs) : SqT K H' a xs := by
  rcases h with (h | ⟨o, h⟩) | h
  · exact .inl (.inl (e _ _ h))
  · exact .inl (.inr ⟨o, e _ _ h⟩)
  · exact .inr h
section
variable {X : Cx}
theorem op_powW : OpR X (binaryOp .Pow) (rI (fun i j => 0 ≤ j ∧ (Builtin.Int.intBits i : Int) * j ≤ 2 ^ 27) fun i j => .int (i ^ j.toNat)) :=
  opI fun _ _ _ _ _ _ _ hc q => pow_int hc.1 hc.2 q
end
section
variable {P : Program} {w : World} {K : PySem.W.Frag} {mg : Str → Option Value} {base : Heap}
/-! ### pot -/
def spPot (K : PySem.W.Frag) : Sp := fun vs H Q _ => ∃ (a : Addr) (ns : List Int) (k : Int), vs = [.ref a, .int k] ∧ SqL K H a (ns.map V.int) ∧ 0 ≤ k ∧ k < 1000 ∧
  ∀ p H', H p = none → Same H H' → Pot H' p 0 → Q (.ref p) H'
theorem ok_pot {f : Addr} {fd : FuncData} {k : Nat} (F : Fun K "_law_pot" "_law_pot" sPot f fd) (ml : mg "len" = none) (ma : mg "abs" = none) :
    FnOk P w K mg base CX0 (k + 1) f fd ["_law_script", "_law_k"] (spPot K) := by
  refine F.ok scPot (fun vs H Q E h => ?_) (fun cdv A outer s H vs Q E hr h => ?_)
  · obtain ⟨a, ns, k, rfl, _⟩ := h
    rfl
  · obtain ⟨a, ns, k, rfl, hS, k0, k3, q⟩ := h
    refine ⟨_, pss_cons (ps_set (i := 2) scPot.nd rfl (.inl rfl) (pe_cut (pe_ifExp (pt_cmpR op_lt (pv 1) (pe_callB call_len_seq (by rfl) ml PySem.boot_len (pa_cons (pv 0) pa_nil)) (nomark _))
          (pe_ix ix_list (pv 0) (pv 1) (fun _ _ => rfl)) (pe_op op_add (pe_op op_mul pe_int (pv 1)) pe_int))))
      (pss_cons (ps_set (i := 3) scPot.nd rfl (.inl rfl) (pe_cut (pe_ifExp (pt_cmpR op_ge (pe_callB call_abs (by rfl) ma (by decide +kernel) (pa_cons (pv 2) pa_nil)) (pe_op op_pow pe_int pe_int) (nomark _))
          (pe_op op_mod (pe_callB call_abs (by rfl) ma (by decide +kernel) (pa_cons (pv 2) pa_nil)) (pe_op op_powW (pe_op op_pow pe_int pe_int) pe_int)) pe_int)))
      (pss_one (ps_ret (pe_lst (pa_cons (pv 3) (pa_cons (pe_op op_mod (pe_op op_add (pe_op op_add (pe_op op_mul (pe_op op_mod (pv 2) pe_int) pe_int) (pe_op op_mul (pe_op op_mul pe_int (pv 1)) (pv 1))) pe_int) pe_int)
          (pa_cons pe_int pa_nil))))))), ?_⟩
    have hl : (ns.map V.int).length = ns.length := List.length_map _
    refine ⟨fun v H' => (∃ c, v = .int c) ∧ H' = H, ?_, ?_⟩
    · refine ⟨.int k, rfl, .ref a, rfl, a, _, rfl, .inl hS, _, _, rfl, rfl, _, rfl, ?_⟩
      refine ite2 (fun e => ?_) (fun e => ?_)
      · have hk : k < (ns.length : Int) := by
          have := of_decide_eq_true e
          rw [hl] at this
          exact this
        have hi : k.toNat < ns.length := by omega
        have ek : k = (k.toNat : Int) := by omega
        refine ⟨.ref a, rfl, .int k, rfl, a, _, k, .int ns[k.toNat], rfl, rfl, hS, ?_, ⟨_, rfl⟩, rfl⟩
        have z := atI_nat (xs := ns.map V.int) (j := k.toNat) (v := .int ns[k.toNat]) (by rw [List.getElem?_map, List.getElem?_eq_getElem hi]; rfl)
        rw [← ek] at z
        exact z
      · exact ⟨.int k, rfl, 17, k, rfl, rfl, .inl ⟨by decide, by decide⟩, _, _, rfl, rfl, ⟨_, rfl⟩, rfl⟩
    rintro v H' ⟨⟨c, rfl⟩, rfl⟩
    refine ⟨fun v H'' => (∃ c, v = .int c ∧ 0 ≤ c) ∧ H'' = H', ?_, ?_⟩
    · refine ⟨.int c, rfl, c, rfl, 10, 18, rfl, rfl, ⟨by decide, by decide, by decide⟩, _, _, rfl, rfl, _, rfl, ?_⟩
      refine ite2 (fun e => ?_) (fun e => ?_)
      · exact ⟨.int c, rfl, c, rfl, 10, 60, rfl, rfl, ⟨by decide, by decide, by decide⟩, _, _, rfl, rfl, ⟨by decide, by decide +kernel⟩, _, _, rfl, rfl, (by show (0 : Int) < (10 ^ Int.toNat 60) ^ Int.toNat 3; decide +kernel), ⟨_, rfl, Int.emod_nonneg _ (by decide +kernel)⟩, rfl⟩
      · exact ⟨⟨0, rfl, Int.le_refl _⟩, rfl⟩
    rintro v H'' ⟨⟨g, rfl, g0⟩, rfl⟩
    have hM := Int.emod_nonneg (c % 2305843009213693951 * 69621 + 104729 * k * k + 71) (show (2305843009213693921 : Int) ≠ 0 by decide)
    have hM2 := Int.emod_lt_of_pos (c % 2305843009213693951 * 69621 + 104729 * k * k + 71) (show (0 : Int) < 2305843009213693921 by decide)
    refine ⟨.int g, rfl, .int c, rfl, c, 2305843009213693951, rfl, rfl, (by show (0 : Int) < 2305843009213693951; decide), _, 69621, rfl, rfl, .inr ⟨by decide, by decide⟩, .int k, rfl, 104729, k, rfl, rfl, .inl ⟨by decide, by decide⟩, .int k, rfl, _, k, rfl, rfl, .inr ⟨by omega, by omega⟩, _, _, rfl, rfl, _, _, rfl, rfl, _, _, rfl, rfl, (by show (0 : Int) < 2305843009213693921; decide), by show 3 ≤ sizeLine; decide, fun p np => ?_⟩
    exact q p _ np (same_upd np) ⟨_, _, _, upd_same, g0, hM, hM2, by decide, by decide⟩
/-! ### take -/
def spTake (K : PySem.W.Frag) : Sp := fun vs H Q _ => ∃ (p : Addr) (n : Nat) (z : Int), vs = [.ref p, .int z] ∧ Pot H p n ∧ n < 1000000 ∧ 1 ≤ z ∧ z < 1000000 ∧
  ∀ r H', 0 ≤ r → r < z → Pot H' p (n + 1) → Kp p H H' → Q (.int r) H'
theorem take_lt {m z : Int} (h : 1 ≤ z) : 0 ≤ m % z ∧ m % z < z := ⟨Int.emod_nonneg _ (by omega), Int.emod_lt_of_pos _ (by omega)⟩
theorem bnd64 {x m : Int} (h0 : 0 ≤ x) (h1 : x < m) (h2 : m ≤ 2147483647) : -(2 ^ 64) < x ∧ x < 2 ^ 64 := ⟨by omega, by omega⟩
theorem prime_at {r : Int} (h0 : 0 ≤ r) (h1 : r < 5) :
    ∃ m : Int, atI [V.int 2147483647, .int 2147483629, .int 2147483587, .int 2147483579, .int 2147483563] r = some (.int m) ∧ 2147483563 ≤ m ∧ m ≤ 2147483647 := by
  obtain rfl | rfl | rfl | rfl | rfl : r = 0 ∨ r = 1 ∨ r = 2 ∨ r = 3 ∨ r = 4 := by omega
  all_goals exact ⟨_, rfl, by decide, by decide⟩
theorem ok_take {f : Addr} {fd : FuncData} {k : Nat} (F : Fun K "_law_take" "_law_take" sTake f fd) :
    FnOk P w K mg base CX0 (k + 1) f fd ["_law_pot_here", "_law_size"] (spTake K) := by
  refine F.ok scTake (fun vs H Q E h => ?_) (fun cdv A outer s H vs Q E hr h => ?_)
  · obtain ⟨p, n, z, rfl, _⟩ := h
    rfl
  · obtain ⟨p, n, z, rfl, ⟨g, t, c, hp, g0, t0, t1, c0, c1⟩, hn, z1, z2, q⟩ := h
    have i0 : ∀ {a b d : V}, atI [a, b, d] 0 = some a := fun {a b d} => rfl
    have i1 : ∀ {a b d : V}, atI [a, b, d] 1 = some b := fun {a b d} => rfl
    have i2 : ∀ {a b d : V}, atI [a, b, d] 2 = some d := fun {a b d} => rfl
    refine ⟨_, pss_cons (ps_if (pt_cmpR op_gt (pe_ix ix_list (pv 0) pe_int (fun _ _ => rfl)) pe_int (nomark _))
          (pss_cons (ps_set (i := 2) scTake.nd rfl (.inl rfl) (pe_op op_mod (pe_ix ix_list (pv 0) pe_int (fun _ _ => rfl)) (pv 1)))
          (pss_cons (ps_asg (pe_op op_fdivN (pe_ix ix_list (pv 0) pe_int (fun _ _ => rfl)) (pv 1)) (pg_sub (pv 0) pe_int set_list))
          (pss_one (ps_ret (pv 2))))) pss_nil)
      (pss_cons (ps_asg (pe_op op_add (pe_ix ix_list (pv 0) pe_int (fun _ _ => rfl)) pe_int) (pg_sub (pv 0) pe_int set_list))
      (pss_cons (ps_set (i := 3) scTake.nd rfl (.inl rfl) (pe_cut (pe_ix ix_list (pe_lst (pa_cons pe_int (pa_cons pe_int (pa_cons pe_int (pa_cons pe_int (pa_cons pe_int pa_nil))))))
          (pe_op op_mod (pe_ix ix_list (pv 0) pe_int (fun _ _ => rfl)) pe_int) (fun _ _ => rfl))))
      (pss_cons (ps_set (i := 4) scTake.nd rfl (.inl rfl) (pe_op op_mod (pe_op op_pow (pe_op op_add (pe_op op_add (pe_ix ix_list (pv 0) pe_int (fun _ _ => rfl))
            (pe_op op_mul (pe_op op_mul pe_int (pe_ix ix_list (pv 0) pe_int (fun _ _ => rfl))) (pe_ix ix_list (pv 0) pe_int (fun _ _ => rfl)))) pe_int) pe_int) (pv 3)))
      (pss_one (ps_ret (pe_op op_mod (pe_op op_fdivN (pe_op op_mod (pe_op op_mul (pv 4) (pe_op op_add (pe_op op_mod (pv 4) pe_int) (pe_op op_mul pe_int (pe_ix ix_list (pv 0) pe_int (fun _ _ => rfl))))) pe_int) pe_int) (pv 1))))))), ?_⟩
    refine ⟨.ref p, rfl, p, _, 0, _, rfl, rfl, SqL.of hp, i0, g, 0, rfl, rfl, _, rfl, ite2 (fun e => ?_) (fun e => ?_)⟩
    · -- a digit
      have hd := take_lt (m := g) z1
      refine ⟨.ref p, rfl, p, _, 0, _, rfl, rfl, SqL.of hp, i0, .int z, rfl, g, z, rfl, rfl, (by show (0 : Int) < z; omega), ?_⟩
      refine ⟨.ref p, rfl, p, _, 0, _, rfl, rfl, SqL.of hp, i0, .int z, rfl, g, z, rfl, rfl, ⟨by omega, by omega⟩, .ref p, rfl, p, _, 0, 0, rfl, rfl, hp, rfl, ?_⟩
      refine ⟨_, rfl, q _ _ hd.1 hd.2 ⟨_, t, c, upd_same, ?_, t0, t1, c0, by omega⟩ Kp.upd⟩
      exact Int.fdiv_nonneg g0 (by omega)
    · refine ⟨.ref p, rfl, p, _, 2, _, rfl, rfl, SqL.of hp, i2, c, 1, rfl, rfl, .ref p, rfl, p, _, 2, 2, rfl, rfl, hp, rfl, ?_⟩
      have hp1 : upd H p (.lst ([V.int g, .int t, .int c].set 2 (.int (c + 1)))) p = some (.lst [.int g, .int t, .int (c + 1)]) := upd_same
      generalize eH : upd H p (.lst ([V.int g, .int t, .int c].set 2 (.int (c + 1)))) = H1 at hp1 ⊢
      have k1 : Kp p H H1 := by
        rw [← eH]
        exact Kp.upd
      generalize ed : c + 1 = d at hp1
      have d0 : 0 ≤ d := by omega
      have d1 : d ≤ 1000000 := by omega
      refine ⟨fun v H' => (∃ m : Int, v = .int m ∧ 2147483563 ≤ m ∧ m ≤ 2147483647) ∧ Same H1 H', ?_, ?_⟩
      · refine ⟨by show 5 ≤ sizeLine; decide, fun l nl => ?_⟩
        have s2 := same_upd (o := .lst [V.int 2147483647, .int 2147483629, .int 2147483587, .int 2147483579, .int 2147483563]) nl
        have h5 := take_lt (m := d) (z := 5) (by decide)
        obtain ⟨m, em, m1, m2⟩ := prime_at h5.1 h5.2
        exact ⟨.ref p, rfl, p, _, 2, _, rfl, rfl, SqL.of (s2 _ _ hp1), i2, d, 5, rfl, rfl, (by show (0 : Int) < 5; decide), l, _, _, _, rfl, rfl, SqL.of upd_same, em, ⟨m, rfl, m1, m2⟩, s2⟩
      rintro v H2 ⟨⟨m, rfl, m1, m2⟩, s2⟩
      have hp2 := s2 _ _ hp1
      have b1 : 0 ≤ 40009 * d * d ∧ 40009 * d * d ≤ 40009 * 1000000 * 1000000 := by
        refine ⟨Int.mul_nonneg (by omega) d0, Int.mul_le_mul (by omega) d1 d0 (by omega)⟩
      have hm := take_lt (m := (t + 40009 * d * d + 31) ^ Int.toNat 3) (z := m) (by omega)
      refine ⟨.ref p, rfl, p, _, 1, _, rfl, rfl, SqL.of hp2, i1, .ref p, rfl, p, _, 2, _, rfl, rfl, SqL.of hp2, i2, 40009, d, rfl, rfl, .inl ⟨by decide, by decide⟩,
        .ref p, rfl, p, _, 2, _, rfl, rfl, SqL.of hp2, i2, _, d, rfl, rfl, .inr ⟨by omega, by omega⟩, t, _, rfl, rfl, _, 31, rfl, rfl, _, 3, rfl, rfl, ⟨by decide, by decide, by omega⟩, .int m, rfl, _, m, rfl, rfl, (by show (0 : Int) < m; omega), ?_⟩
      refine ⟨_, rfl, _, rfl, _, 10009, rfl, rfl, (by show (0 : Int) < 10009; decide), .ref p, rfl, p, _, 2, _, rfl, rfl, SqL.of hp2, i2, 89, d, rfl, rfl, .inl ⟨by decide, by decide⟩, _, _, rfl, rfl, _, _, rfl, rfl, .inl (bnd64 hm.1 hm.2 m2),
        _, 2305843009213693907, rfl, rfl, (by show (0 : Int) < 2305843009213693907; decide), _, 89, rfl, rfl, ⟨by decide, by decide⟩, .int z, rfl, _, z, rfl, rfl, (by show (0 : Int) < z; omega), ?_⟩
      refine q _ _ (take_lt z1).1 (take_lt z1).2 ⟨g, t, d, hp2, g0, t0, t1, d0, by omega⟩ (k1.trans (.of s2))
end
end Nm

namespace Nm
open PySem PySem.Spec PyProof.Rows L2 GL
abbrev sPick : Stmt := topS 12
abbrev sMixed : Stmt := topS 13
abbrev sSome : Stmt := topS 14
theorem scPick : FnScope ["_law_pot_here", "_law_some_here"] ["_law_pot_here", "_law_some_here"] (defScope sPick) := ⟨rfl, rfl, rfl, by decide +kernel, rfl, by decide +kernel, by decide +kernel⟩
theorem scMixed : FnScope ["_law_pot_here", "_law_some_here", "_law_left", "_law_found"] ["_law_pot_here", "_law_some_here"] (defScope sMixed) := ⟨rfl, rfl, rfl, by decide +kernel, rfl, by decide +kernel, by decide +kernel⟩
theorem scSome : FnScope ["_law_pot_here", "_law_some_here", "_law_share", "_law_one"] ["_law_pot_here", "_law_some_here", "_law_share"] (defScope sSome) := ⟨rfl, rfl, rfl, by decide +kernel, rfl, by decide +kernel, by decide +kernel⟩
/-! ### data -/
theorem dpInts {K : PySem.W.Frag} {H : Hp} : ∀ ns : List Int, DpAll K H (ns.map V.int) (ns.map PyData.int)
  | [] => .nil
  | n :: ns => .cons (.int n) (dpInts ns)
theorem layInts : ∀ ns : List Int, PyData.canLayAll0 (ns.map PyData.int) = true
  | [] => by simp [PyData.canLayAll0]
  | n :: ns => by simp [PyData.canLayAll0, PyData.canLay0, layInts ns]
theorem deepInts : ∀ ns : List Int, PyData.depthAll (ns.map PyData.int) = 0
  | [] => by simp [PyData.depthAll]
  | n :: ns => by simp [PyData.depthAll, PyData.depth, deepInts ns]
theorem shapedL (ns : List Int) : SeqAt.shaped (.list (ns.map PyData.int)) = true := by
  simp [SeqAt.shaped, PyData.canLay0, layInts, PyData.depth, deepInts]
theorem shapedT (ns : List Int) : SeqAt.shaped (.tuple (ns.map PyData.int)) = true := by
  simp [SeqAt.shaped, PyData.canLay0, layInts, PyData.depth, deepInts]
theorem eqv_nil (ns : List Int) : PyData.eqv (.list (ns.map PyData.int)) (.list []) = ns.isEmpty := by
  cases ns <;> simp [PyData.eqv, PyData.eqvAll]
theorem pot_lst {H : Hp} {p : Addr} {n : Nat} (h : Pot H p n) : ∃ xs, H p = some (.lst xs) := by
  obtain ⟨g, t, c, e, _⟩ := h
  exact ⟨_, e⟩
theorem atI_of {α : Type} {xs : List α} {r : Int} (h0 : 0 ≤ r) (h1 : r < (xs.length : Int)) : atI xs r = some (xs[r.toNat]'(by omega)) := by
  have hi : r.toNat < xs.length := by omega
  have z := atI_nat (xs := xs) (j := r.toNat) (v := xs[r.toNat]) (List.getElem?_eq_getElem hi)
  have e : ((r.toNat : Nat) : Int) = r := by omega
  rw [e] at z
  exact z
section
variable {P : Program} {w : World} {K : PySem.W.Frag} {mg : Str → Option Value} {base : Heap}
/-! ### pick -/
def spPick (K : PySem.W.Frag) : Sp := fun vs H Q _ => ∃ (p a : Addr) (n : Nat) (xs : List V), vs = [.ref p, .ref a] ∧ Pot H p n ∧ n < 1000000 ∧ SqL K H a xs ∧ a ≠ p ∧ xs ≠ [] ∧ xs.length < 1000000 ∧
  ∀ (i : Nat) (v : V) (H' : Hp), xs[i]? = some v → Pot H' p (n + 1) → Kp p H H' → Q v H'
theorem ok_pick {f fT : Addr} {fd fdT : FuncData} {k : Nat} (F : Fun K "_law_pick" "_law_pick" sPick f fd) (FT : Fun K "_law_take" "_law_take" sTake fT fdT) (bT : Binds K fdT ["_law_pot_here", "_law_size"] []) (gT : mg "_law_take" = some (.ref fT)) (ml : mg "len" = none) :
    FnOk P w K mg base CX0 (k + 2) f fd ["_law_pot_here", "_law_some_here"] (spPick K) := by
  have GT : FnOk P w K mg base CX0 (k + 1) fT fdT ["_law_pot_here", "_law_size"] (spTake K) := ok_take FT
  refine F.ok scPick (fun vs H Q E h => ?_) (fun cdv A outer s H vs Q E hr h => ?_)
  · obtain ⟨p, a, n, xs, rfl, _⟩ := h
    rfl
  · obtain ⟨p, a, n, xs, rfl, hp, hn, hS, hne, h0, hl, q⟩ := h
    refine ⟨_, pss_one (ps_ret (pe_ix ix_list (pv 1) (pe_call GT hr (by rfl) gT FT.kp bT .nil pass0 (pa_cons (pv 0) (pa_cons (pe_callB call_len_seq (by rfl) ml PySem.boot_len (pa_cons (pv 1) pa_nil)) pa_nil))) (fun _ _ => rfl))), ?_⟩
    have l0 : 0 < xs.length := List.length_pos_iff.mpr h0
    refine ⟨.ref a, rfl, .ref p, rfl, .ref a, rfl, a, xs, rfl, .inl hS, p, n, _, rfl, hp, hn, by omega, by omega, fun r H' r0 r1 hp' kp => ?_⟩
    exact ⟨a, xs, r, _, rfl, rfl, kp.seq hne hS, atI_of r0 r1, q r.toNat _ H' (List.getElem?_eq_getElem (by omega)) hp' kp⟩
/-! ### mixed -/
def spMixed (K : PySem.W.Frag) : Sp := fun vs H Q _ => ∃ (p a : Addr) (n : Nat) (ns : List Int), vs = [.ref p, .ref a] ∧ Pot H p n ∧ n + ns.length < 1000000 ∧ SqL K H a (ns.map V.int) ∧
  ∀ (o : Addr) (ms : List Int) (H' : Hp), H o = none → ms.Perm ns → H' o = some (.lst (ms.map V.int)) → Pot H' p (n + ns.length) → Kp p H H' → Q (.ref o) H'
theorem erase_perm {α : Type} : ∀ {l : List α} {i : Nat} {x : α}, l[i]? = some x → (x :: l.eraseIdx i).Perm l
  | [], i, x, h => by simp at h
  | y :: l, 0, x, h => by
    have e : y = x := by simpa using h
    subst e
    exact List.Perm.refl _
  | y :: l, i + 1, x, h => by
    have ih := erase_perm (l := l) (i := i) (x := x) (by simpa using h)
    rw [List.eraseIdx_cons_succ]
    exact (List.Perm.swap y x _).trans (ih.cons y)
theorem map_eraseIdx {α β : Type} (f : α → β) : ∀ (l : List α) (i : Nat), (l.map f).eraseIdx i = (l.eraseIdx i).map f
  | [], i => by simp
  | x :: l, 0 => by simp
  | x :: l, i + 1 => by simp [map_eraseIdx f l i]
theorem lenLine {n : Nat} (h : n < 1000001) : n < sizeLine := Nat.lt_of_lt_of_le h (by decide)
theorem ok_mixed {f fT : Addr} {fd fdT : FuncData} {k : Nat} (F : Fun K "_law_mixed" "_law_mixed" sMixed f fd) (FT : Fun K "_law_take" "_law_take" sTake fT fdT) (bT : Binds K fdT ["_law_pot_here", "_law_size"] []) (gT : mg "_law_take" = some (.ref fT)) (ml : mg "len" = none) (mlist : mg "list" = none) :
    FnOk P w K mg base CX0 (k + 2) f fd ["_law_pot_here", "_law_some_here"] (spMixed K) := by
  have GT : FnOk P w K mg base CX0 (k + 1) fT fdT ["_law_pot_here", "_law_size"] (spTake K) := ok_take FT
  refine F.ok scMixed (fun vs H Q E h => ?_) (fun cdv A outer s H vs Q E hr h => ?_)
  · obtain ⟨p, a, n, ns, rfl, _⟩ := h
    rfl
  · obtain ⟨p, a, n, ns, rfl, hp, hn, hS, q⟩ := h
    refine ⟨_, pss_cons (ps_par (i := 2) (j := 3) (by rfl) scMixed.nd rfl rfl (by decide) rfl rfl (pa_cons (pe_callTy call_list_of (by rfl) mlist (by decide +kernel) (pa_cons (pv 1) pa_nil)) (pa_cons (pe_lst pa_nil) pa_nil)) (by rfl))
      (pss_cons (ps_while PassesOwn.never (pt_cmpR (op_neD hr.units) (pv 2) (pe_lst pa_nil) (nomark _))
        (pss_one (ps_expr (pe_bm PySem.F.plainAttrs_list PySem.F.slot_list_append PySem.F.type_list_append mt_append (pv 3)
          (pa_cons (pe_bm PySem.F.plainAttrs_list PySem.F.slot_list_pop PySem.F.type_list_pop mt_popAt (pv 2)
            (pa_cons (pe_call GT hr (by rfl) gT FT.kp bT .nil pass0 (pa_cons (pv 0) (pa_cons (pe_callB call_len_seq (by rfl) ml PySem.boot_len (pa_cons (pv 2) pa_nil)) pa_nil))) pa_nil)) pa_nil)))))
      (pss_one (ps_ret (pv 3)))), ?_⟩
    refine ⟨.ref a, rfl, a, _, rfl, .inl hS, fun l nl => ⟨Nat.zero_le _, fun o no => ?_⟩⟩
    have s1 := same_upd (o := .lst (ns.map V.int)) nl
    have s2 := same_upd (o := .lst []) no
    have nlo : l ≠ o := ne_of_none upd_same no
    refine ⟨_, _, rfl, fun m σ H' => ∃ (ls fs : List Int), σ = [some (.ref p), some (.ref a), some (.ref l), some (.ref o)] ∧ m = ls.length ∧ H' l = some (.lst (ls.map V.int)) ∧ H' o = some (.lst (fs.map V.int)) ∧
      (fs ++ ls).Perm ns ∧ Pot H' p (n + fs.length) ∧ Kp p H H', ⟨ns.length, ns, [], rfl, rfl, s2 _ _ upd_same, upd_same, List.Perm.refl _, (hp.same s1).same s2, .of (s1.trans s2)⟩, fun m σ H1 hW => ?_⟩
    obtain ⟨ls, fs, rfl, rfl, hL, hO, pm, hp1, kp1⟩ := hW
    have lenP : fs.length + ls.length = ns.length := by
      have := pm.length_eq
      rw [List.length_append] at this
      exact this
    refine ⟨.ref l, rfl, Nat.zero_le _, fun e ne => ?_⟩
    have s3 := same_upd (o := .lst []) ne
    refine ⟨.list (ls.map PyData.int), .list [], .lst (SqL.of (s3 _ _ hL)) (dpInts ls), .lst (SqL.of upd_same) .nil, shapedL ls, shapedL [], _, rfl, ?_⟩
    rw [eqv_nil]
    have hL3 := s3 _ _ hL
    have hO3 := s3 _ _ hO
    have hp3 := hp1.same s3
    have kp3 := kp1.trans (.of s3)
    generalize upd H1 e (.lst []) = H3 at hL3 hO3 hp3 kp3 ⊢
    cases ls with
    | nil =>
      refine iteF ⟨.ref o, rfl, q o fs H3 ?_ ?_ hO3 (hp3.mono (by simp at lenP; omega)) kp3⟩
      · exact s1.free no
      · rw [List.append_nil] at pm
        exact pm
    | cons x ls =>
      refine iteT ⟨fun σ H' => ∃ (ls' fs' : List Int), σ = [some (.ref p), some (.ref a), some (.ref l), some (.ref o)] ∧ ls'.length = ls.length ∧ H' l = some (.lst (ls'.map V.int)) ∧ H' o = some (.lst (fs'.map V.int)) ∧
        (fs' ++ ls').Perm ns ∧ Pot H' p (n + fs'.length) ∧ Kp p H H', fun σ' H' hN => ?_, ?_⟩
      · obtain ⟨ls', fs', e1, e2, e3⟩ := hN
        exact ⟨ls.length, by simp, ls', fs', e1, e2.symm, e3⟩
      · obtain ⟨xs0, hp0⟩ := pot_lst hp
        have npl : l ≠ p := fun z => by
          subst z
          rw [hp0] at nl
          cases nl
        have npo : o ≠ p := fun z => by
          subst z
          rw [s1 _ _ hp0] at no
          cases no
        have lx : ((x :: ls).map V.int).length = ls.length + 1 := by rw [List.length_map, List.length_cons]
        refine ⟨.ref o, rfl, .inl ⟨rfl, _, SqL.of hO3⟩, .ref l, rfl, .inl ⟨rfl, _, SqL.of hL3⟩, .ref p, rfl, .ref l, rfl, l, _, rfl, .inl (SqL.of hL3), p, n + fs.length, _, rfl, hp3, ?_, ?_, ?_, fun r H4 r0 r1 hp4 kp4 => ?_⟩
        · simp at lenP
          omega
        · rw [lx]
          omega
        · rw [lx]
          simp at lenP
          omega
        · have hL4 := kp4 _ _ npl hL3
          have hO4 := kp4 _ _ npo hO3
          have hi : r.toNat < (x :: ls).length := by
            rw [lx] at r1
            rw [List.length_cons]
            omega
          have hg : (x :: ls)[r.toNat]? = some (x :: ls)[r.toNat] := List.getElem?_eq_getElem hi
          have pm2 := erase_perm hg
          generalize (x :: ls)[r.toNat] = y at hg pm2
          have hO5 : upd H4 l (.lst (((x :: ls).map V.int).eraseIdx r.toNat)) o = some (.lst (fs.map V.int)) := by
            rw [upd_ne nlo.symm]
            exact hO4
          refine ⟨l, _, r, r.toNat, .int y, rfl, rfl, hL4, by omega, by omega, seqIndex_of r0 r1, ?_, o, _, .int y, rfl, rfl, hO5, ?_, ?_⟩
          · rw [List.getElem?_map, hg]
            rfl
          · rw [List.length_map]
            simp at lenP
            exact lenLine (by omega)
          · refine ⟨(x :: ls).eraseIdx r.toNat, fs ++ [y], rfl, ?_, ?_, ?_, ?_, ?_, ?_⟩
            · have := pm2.length_eq
              simp at this
              omega
            · rw [upd_ne nlo, upd_same, map_eraseIdx]
            · rw [upd_same, List.map_append]
              rfl
            · refine List.Perm.trans ?_ pm
              rw [List.append_assoc]
              exact (List.Perm.refl fs).append pm2
            · obtain ⟨g, t, c, hq, rr⟩ := hp4
              refine ⟨g, t, c, ?_, ?_⟩
              · rw [upd_ne npo.symm, upd_ne npl.symm]
                exact hq
              · rw [List.length_append, List.length_singleton, ← Nat.add_assoc]
                exact rr
            · intro b ob nb hb
              have n1 : b ≠ l := ne_of_none hb nl
              have n2 : b ≠ o := ne_of_none hb (s1.free no)
              rw [upd_ne n2, upd_ne n1]
              exact kp4 _ _ nb (kp3 _ _ nb hb)
/-! ### some -/
def spSome (K : PySem.W.Frag) : Sp := fun vs H Q _ => ∃ (p a : Addr) (n : Nat) (ns : List Int) (z : Int), vs = [.ref p, .ref a, .int z] ∧ Pot H p n ∧ n + ns.length < 1000000 ∧ SqL K H a (ns.map V.int) ∧ a ≠ p ∧ 1 ≤ z ∧ z < 1000000 ∧
  ∀ (o : Addr) (ms : List Int) (H' : Hp), H o = none → ms.Sublist ns → H' o = some (.tup (ms.map V.int)) → Pot H' p (n + ns.length) → Kp p H H' → Q (.ref o) H'
theorem ok_some {f fT : Addr} {fd fdT : FuncData} {k : Nat} (F : Fun K "_law_some" "_law_some" sSome f fd) (FT : Fun K "_law_take" "_law_take" sTake fT fdT) (bT : Binds K fdT ["_law_pot_here", "_law_size"] []) (gT : mg "_law_take" = some (.ref fT)) (mtup : mg "tuple" = none) :
    FnOk P w K mg base CX0 (k + 2) f fd ["_law_pot_here", "_law_some_here", "_law_share"] (spSome K) := by
  have GT : FnOk P w K mg base CX0 (k + 1) fT fdT ["_law_pot_here", "_law_size"] (spTake K) := ok_take FT
  refine F.ok scSome (fun vs H Q E h => ?_) (fun cdv A outer s H vs Q E hr h => ?_)
  · obtain ⟨p, a, n, ns, z, rfl, _⟩ := h
    rfl
  · obtain ⟨p, a, n, ns, z, rfl, hp, hn, hS, nap, z1, z2, q⟩ := h
    refine ⟨_, pss_one (ps_ret (pe_callTy call_tuple_of (by rfl) mtup (by decide +kernel) (pa_cons
      (pe_lc (own := [("_law_one", 3)]) (g := gName 3) (by rfl) scSome.nd (pi_list (pv 1))
        (blkOk_by (own := [("_law_one", 3)]) (N := ["_law_pot_here", "_law_some_here", "_law_share", "_law_one"]) (sc := defScope sSome) (by decide +kernel))
        (fun _ _ _ _ _ => pg_name (i := 3) scSome.nd rfl (Or.inl rfl))
        (fun _ _ _ _ _ => pts_one (pt_cmpR op_eq (pe_call GT hr (by rfl) gT FT.kp bT .nil pass0 (pa_cons (pv 0) (pa_cons (pv 2) pa_nil))) pe_int (nomark _)))
        (fun _ _ _ _ _ => pv 3)) pa_nil))), ?_⟩
    refine ⟨.ref a, rfl, a, rfl, ⟨_, hS⟩, fun D nD => ?_⟩
    obtain ⟨xs0, hp0⟩ := pot_lst hp
    have nDp : D ≠ p := fun z => by
      subst z
      rw [hp0] at nD
      cases nD
    have naD : a ≠ D ∨ ∀ H', SqL K H a (ns.map V.int) → SqL K H' a (ns.map V.int) := by
      rcases hS with (h | ⟨o, h⟩) | h
      · exact .inl (ne_of_none h nD)
      · exact .inl (ne_of_none h nD)
      · exact .inr fun _ _ => .inr h
    refine lc_list (K := K) (a := a) (xs := ns.map V.int) (fun i H' => ∃ ms : List Int, ms.Sublist (ns.take i) ∧ H' D = some (.lst (ms.map V.int)) ∧ Pot H' p (n + i) ∧ Kp p H H') ⟨[], List.nil_sublist _, upd_same, hp.same (same_upd nD), .of (same_upd nD)⟩ ?_ ?_ ?_
    · rintro i H' _ ⟨ms, _, _, _, kp⟩
      exact kp.seq nap hS
    · rintro i x H' hx ⟨ms, sub, hD, hp', kp⟩
      have hi : i < ns.length := by
        have := (List.getElem?_eq_some_iff.mp hx).1
        rw [List.length_map] at this
        exact this
      obtain ⟨y, hy, rfl⟩ : ∃ y, ns[i]? = some y ∧ x = .int y := by
        rw [List.getElem?_map, List.getElem?_eq_getElem hi] at hx
        exact ⟨ns[i], List.getElem?_eq_getElem hi, (Option.some.inj hx).symm⟩
      have ht : ns.take (i + 1) = ns.take i ++ [y] := by
        rw [List.take_add_one, hy]
        rfl
      have lm := sub.length_le
      rw [List.length_take] at lm
      refine ⟨rfl, .ref p, rfl, .int z, rfl, p, n + i, z, rfl, hp', by omega, z1, z2, fun r H2 r0 r1 hp2 kp2 => ?_⟩
      have hD2 := kp2 _ _ nDp hD
      refine ⟨rfl, _, rfl, ite2 (fun e => ?_) (fun e => ?_)⟩
      · refine ⟨.int y, rfl, _, hD2, ?_, ms ++ [y], ?_, ?_, ?_, ?_⟩
        · rw [List.length_map]
          exact lenLine (by omega)
        · rw [ht]
          exact sub.append (List.Sublist.refl _)
        · rw [upd_same, List.map_append]
          rfl
        · obtain ⟨g, t, c, hq, rr⟩ := hp2
          refine ⟨g, t, c, ?_, rr⟩
          rw [upd_ne nDp.symm]
          exact hq
        · intro b ob nb hb
          rw [upd_ne (ne_of_none hb nD)]
          exact kp2 _ _ nb (kp _ _ nb hb)
      · refine ⟨ms, ?_, hD2, hp2, kp.trans kp2⟩
        rw [ht]
        exact sub.trans (List.sublist_append_left _ _)
    · rintro H' ⟨ms, sub, hD, hp', kp⟩
      rw [List.length_map] at sub hp'
      rw [List.take_length] at sub
      refine ⟨D, _, rfl, .inl ⟨SqL.of hD, fun o no => ?_⟩⟩
      have s2 := same_upd (o := .tup (ms.map V.int)) no
      have no' : H o = none := by
        cases hz : H o with
        | none => rfl
        | some u =>
          by_cases e : o = p
          · subst e
            obtain ⟨_, e⟩ := pot_lst hp'
            rw [e] at no
            cases no
          · rw [kp _ _ e hz] at no
            cases no
      exact q o ms _ no' sub upd_same (hp'.same s2) (kp.trans (.of s2))
end
end Nm

namespace Nm
open PySem PySem.Spec PyProof.Rows L2 GL
abbrev sNamed : Stmt := topS 15
abbrev nNamed : List Str := ["_law_wide", "_law_signs", "_law_own", "_law_named_here", "_law_at", "_law_pair"]
theorem scNamed : FnScope nNamed ["_law_wide"] (defScope sNamed) := ⟨rfl, rfl, rfl, by decide +kernel, rfl, by decide +kernel, by decide +kernel⟩
/-! ### pairs and tables -/
section
variable {α β : Type} {F : α → β → Prop}
theorem paired_get : ∀ {l₁ : List α} {l₂ : List β} {i : Nat} {a : α}, Paired F l₁ l₂ → l₁[i]? = some a → ∃ b, l₂[i]? = some b ∧ F a b
  | _, _, _, _, .nil, e => by simp at e
  | _, _, 0, _, .cons r _, e => by
    simp at e
    subst e
    exact ⟨_, rfl, r⟩
  | _, _, i + 1, a, .cons _ t, e => by
    obtain ⟨u, h1, h2⟩ := paired_get (i := i) (a := a) t (by simpa using e)
    exact ⟨u, by simpa using h1, h2⟩
theorem paired_append : ∀ {l₁ m₁ : List α} {l₂ m₂ : List β}, Paired F l₁ l₂ → Paired F m₁ m₂ → Paired F (l₁ ++ m₁) (l₂ ++ m₂)
  | _, _, _, _, .nil, s => s
  | _, _, _, _, .cons r t, s => .cons r (paired_append t s)
end
/-- pairs of ints at these addresses -/
def PR (H : Hp) (rs : List Addr) (ps : List (Int × Int)) : Prop := Paired (fun a q => H a = some (.tup [.int q.1, .int q.2])) rs ps
/-- rows of ints at these addresses -/
def Rows (H : Hp) (rs : List Addr) (T : List (List Int)) : Prop := Paired (fun a row => H a = some (.tup (row.map V.int))) rs T
/-- a table: a tuple of rows -/
def Tbl (H : Hp) (p : Addr) (T : List (List Int)) : Prop := ∃ rs : List Addr, H p = some (.tup (rs.map V.ref)) ∧ Rows H rs T
theorem PR.same {H H' : Hp} {rs : List Addr} {ps : List (Int × Int)} (h : PR H rs ps) (s : Same H H') : PR H' rs ps := Paired.mapP h fun a b e => s _ _ e
theorem Rows.same {H H' : Hp} {rs : List Addr} {T : List (List Int)} (h : Rows H rs T) (s : Same H H') : Rows H' rs T := Paired.mapP h fun a b e => s _ _ e
theorem Tbl.same {H H' : Hp} {p : Addr} {T : List (List Int)} (h : Tbl H p T) (s : Same H H') : Tbl H' p T := by
  obtain ⟨rs, e, r⟩ := h
  exact ⟨rs, s _ _ e, r.same s⟩
theorem Rows.kp {p : Addr} {n : Nat} {H H' : Hp} {rs : List Addr} {T : List (List Int)} (h : Rows H rs T) (k : Kp p H H') (hp : Pot H p n) : Rows H' rs T := Paired.mapP h fun a b e => k.tup hp e
theorem Tbl.kp {q : Addr} {n : Nat} {H H' : Hp} {p : Addr} {T : List (List Int)} (h : Tbl H p T) (k : Kp q H H') (hp : Pot H q n) : Tbl H' p T := by
  obtain ⟨rs, e, r⟩ := h
  exact ⟨rs, k.tup hp e, r.kp k hp⟩
/-- a table is stays where only lists are changed -/
def KT (H H' : Hp) : Prop := ∀ a xs, H a = some (.tup xs) → H' a = some (.tup xs)
theorem Rows.kt {H H' : Hp} {rs : List Addr} {T : List (List Int)} (h : Rows H rs T) (k : KT H H') : Rows H' rs T := Paired.mapP h fun a b e => k _ _ e
theorem PR.kt {H H' : Hp} {rs : List Addr} {T : List (Int × Int)} (h : PR H rs T) (k : KT H H') : PR H' rs T := Paired.mapP h fun a b e => k _ _ e
theorem KT.of {H H' : Hp} (s : Same H H') : KT H H' := fun _ _ e => s _ _ e
theorem KT.trans {H H1 H2 : Hp} (a : KT H H1) (b : KT H1 H2) : KT H H2 := fun _ _ e => b _ _ (a _ _ e)
theorem KT.lst {H : Hp} {l : Addr} {xs : List V} {o : HO} (h : H l = some (.lst xs)) : KT H (upd H l o) := fun a ys e => by
  rw [upd_ne (ne_of e h (by intro z; cases z))]
  exact e
theorem KT.new {H : Hp} {l : Addr} {o : HO} (h : H l = none) : KT H (upd H l o) := .of (same_upd h)
theorem ref_at {rs : List Addr} {i : Nat} {x : V} (h : (rs.map V.ref)[i]? = some x) : ∃ a, rs[i]? = some a ∧ x = .ref a := by
  rw [List.getElem?_map] at h
  cases e : rs[i]? with
  | none => rw [e] at h; cases h
  | some a => rw [e] at h; exact ⟨a, rfl, (Option.some.inj h).symm⟩
theorem int_at {ns : List Int} {i : Nat} {x : V} (h : (ns.map V.int)[i]? = some x) : ∃ a, ns[i]? = some a ∧ x = .int a := by
  rw [List.getElem?_map] at h
  cases e : ns[i]? with
  | none => rw [e] at h; cases h
  | some a => rw [e] at h; exact ⟨a, rfl, (Option.some.inj h).symm⟩
theorem yesI {σ : L2.St} {H : Hp} {A B : Hp → Prop} (h : A H) : tYes σ H (fun b H3 => if b = true then A H3 else B H3) := by
  show if true = true then A H else B H
  exact iteT h
def prsTo (w i : Nat) : List (Int × Int) := (List.range i).flatMap fun (o : Nat) => (List.range w).map fun (m : Nat) => ((o : Int), (m : Int))
theorem prsTo_succ (w i : Nat) : prsTo w (i + 1) = prsTo w i ++ (List.range w).map fun (m : Nat) => ((i : Int), (m : Int)) := by
  unfold prsTo
  rw [List.range_succ, List.flatMap_append, List.flatMap_singleton]
theorem prsTo_length (w : Nat) : ∀ i, (prsTo w i).length = i * w
  | 0 => by simp [prsTo]
  | i + 1 => by rw [prsTo_succ, List.length_append, prsTo_length w i, List.length_map, List.length_range, Nat.add_mul, Nat.one_mul]
def rowTo (ps : List (Int × Int)) (m : Int) (j : Nat) : List Int := ((List.range j).filter fun (i : Nat) => decide (ps[i]?.map (·.1) = some m)).map fun (i : Nat) => (i : Int)
theorem rowTo_yes {ps : List (Int × Int)} {m : Int} {j : Nat} (h : ps[j]?.map (·.1) = some m) : rowTo ps m (j + 1) = rowTo ps m j ++ [(j : Int)] := by
  unfold rowTo
  rw [List.range_succ, List.filter_append, List.map_append]
  simp [h]
theorem rowTo_no {ps : List (Int × Int)} {m : Int} {j : Nat} (h : ps[j]?.map (·.1) ≠ some m) : rowTo ps m (j + 1) = rowTo ps m j := by
  unfold rowTo
  rw [List.range_succ, List.filter_append, List.map_append]
  simp [h]
theorem rowTo_length (ps : List (Int × Int)) (m : Int) (j : Nat) : (rowTo ps m j).length ≤ j := by
  unfold rowTo
  rw [List.length_map]
  exact Nat.le_trans (List.length_filter_le _ _) (by simp)
def ofPrs (ps : List (Int × Int)) : List (List Int) := ps.map fun q => rowTo ps q.2 ps.length
section
variable {P : Program} {w : World} {K : PySem.W.Frag} {mg : Str → Option Value} {base : Heap}
/-! ### named -/
def spNamed (K : PySem.W.Frag) : Sp := fun vs H Q _ => ∃ n : Nat, vs = [.int n] ∧ n ≤ 4 ∧
  ∀ (p : Addr) (H' : Hp), H p = none → Same H H' → Tbl H' p (ofPrs (prsTo n n)) → Q (.ref p) H'
theorem ok_named {f : Addr} {fd : FuncData} {k : Nat} (F : Fun K "_law_named" "_law_named" sNamed f fd) (mr : mg "range" = none) (mtup : mg "tuple" = none) (me : mg "enumerate" = none) :
    FnOk P w K mg base CX0 (k + 1) f fd ["_law_wide"] (spNamed K) := by
  refine F.ok scNamed (fun vs H Q E h => ?_) (fun cdv A outer s H vs Q E hr h => ?_)
  · obtain ⟨n, rfl, _⟩ := h
    rfl
  · obtain ⟨n, rfl, hn, q⟩ := h
    refine ⟨_, pss_cons (ps_set (i := 1) scNamed.nd rfl (.inr rfl) (pe_lst pa_nil))
      (pss_cons (ps_for PassesOwn.never rfl (pi_range1 (by rfl) mr (pa_cons (pv 0) pa_nil)) (pg_name (i := 2) scNamed.nd rfl (.inr rfl))
        (pss_one (ps_expr (pe_bm PySem.F.plainAttrs_list PySem.F.slot_list_extend PySem.F.type_list_extend mt_extend (pv 1) (pa_cons
          (pe_lc (own := [("_law_named_here", 3)]) (g := gName 3) (by rfl) scNamed.nd (pi_range1 (by rfl) mr (pa_cons (pv 0) pa_nil))
            (blkOk_by (own := [("_law_named_here", 3)]) (N := nNamed) (sc := defScope sNamed) (by decide +kernel))
            (fun _ _ _ _ _ => pg_name (i := 3) scNamed.nd rfl (Or.inl rfl)) (fun _ _ _ _ _ => pts_nil)
            (fun _ _ _ _ _ => pe_tup (pa_cons (pv 2) (pa_cons (pv 3) pa_nil)))) pa_nil)))))
      (pss_one (ps_ret (pe_callTy call_tuple_of (by rfl) mtup (by decide +kernel) (pa_cons
        (pe_lc (own := [("_law_own", 2), ("_law_named_here", 3)]) (g := gTup K 2 (gCons (gName 2) (gCons (gName 3) gNil))) (by rfl) scNamed.nd (pi_list (pv 1))
          (blkOk_by (own := [("_law_own", 2), ("_law_named_here", 3)]) (N := nNamed) (sc := defScope sNamed) (by decide +kernel))
          (fun _ _ _ _ _ => pg_tup rfl (pgs_cons (pg_name (i := 2) scNamed.nd rfl (.inl rfl)) (pgs_cons (pg_name (i := 3) scNamed.nd rfl (.inr rfl)) pgs_nil)))
          (fun _ _ _ _ _ => pts_nil)
          (fun _ _ _ _ _ => pe_callTy (T := "tuple") (r := rTupOf K) tupOfK (by rfl) mtup (by decide +kernel) (pa_cons
            (pe_lc (own := [("_law_at", 4), ("_law_pair", 5)]) (g := gTup K 2 (gCons (gName 4) (gCons (gName 5) gNil))) (by rfl) scNamed.nd (piEnumK (K := K) (by rfl) me (pa_cons (pv 1) pa_nil))
              (blkOk_by (own := [("_law_at", 4), ("_law_pair", 5)]) (N := nNamed) (sc := relS (lcSc (retArg ((defBody sNamed).getD 2 (.Pass ⟨0, 0, 0, 0⟩)))) (defScope sNamed)) (by decide +kernel))
              (fun _ _ _ _ _ => pgTupK rfl (pgs_cons (pg_name (i := 4) scNamed.nd rfl (.inl rfl)) (pgs_cons (pg_name (i := 5) scNamed.nd rfl (.inl rfl)) pgs_nil)))
              (fun _ _ _ _ _ => pts_one (pt_cmpR op_eq (pe_ix (ixTupK (K := K)) (pv 5) pe_int (fun _ _ => rfl)) (pv 3) (nomark _)))
              (fun _ _ _ _ _ => pv 4)) pa_nil))) pa_nil))))), ?_⟩
    refine ⟨Nat.zero_le _, fun S nS => ?_⟩
    have s1 := same_upd (o := .lst []) nS
    refine ⟨.int n, rfl, (n : Int), rfl, by omega, by omega, for_range (lo := 0) (n := n) (fun i σ H' => ∃ (y2 y3 y4 y5 : Option V) (rs : List Addr), σ = [some (.int n), some (.ref S), y2, y3, y4, y5] ∧ H' S = some (.lst (rs.map V.ref)) ∧ PR H' rs (prsTo n i) ∧ Same H H')
      ⟨none, none, none, none, [], rfl, upd_same, .nil, s1⟩ ?_ ?_⟩
    · rintro i σ H1 hi ⟨y2, y3, y4, y5, rs, rfl, hS, hP, sm⟩
      refine ⟨.ref S, rfl, .inl ⟨rfl, _, SqL.of hS⟩, .int n, rfl, (n : Int), rfl, by omega, by omega, fun D nD => ?_⟩
      have sD := same_upd (o := .lst []) nD
      refine lc_range (lo := 0) (n := n) (fun j H2 => ∃ rs2 : List Addr, H2 D = some (.lst (rs2.map V.ref)) ∧ PR H2 rs2 ((List.range j).map fun (m : Nat) => ((i : Int), (m : Int))) ∧ Same H1 H2)
        ⟨[], upd_same, .nil, sD⟩ ?_ ?_
      · rintro j H2 hj ⟨rs2, hD, hP2, sm2⟩
        have l2 : rs2.length = j := by
          have := Paired.length hP2
          rw [List.length_map, List.length_range] at this
          exact this
        refine ⟨rfl, yesI ⟨_, rfl, _, rfl, by show 2 ≤ sizeLine; decide, fun T nT => ⟨_, (same_upd nT) _ _ hD, by rw [List.length_map]; exact lenLine (by omega), rs2 ++ [T], ?_, ?_, ?_⟩⟩⟩
        · rw [upd_same, List.map_append]
          rfl
        · have kt : KT H2 (upd (upd H2 T (.tup [.int (0 + i), .int (0 + j)])) D (.lst (rs2.map V.ref ++ [V.ref T]))) := (KT.new nT).trans (KT.lst ((same_upd nT) _ _ hD))
          rw [List.range_succ, List.map_append]
          refine paired_append (hP2.kt kt) (.cons ?_ .nil)
          have nTD : T ≠ D := fun z => by
            subst z
            rw [hD] at nT
            cases nT
          rw [upd_ne nTD, upd_same, Int.zero_add, Int.zero_add]
        · intro b o hb
          rw [upd_ne (ne_of_none hb nD)]
          exact same_upd nT _ _ (sm2 _ _ hb)
      · rintro H2 ⟨rs2, hD, hP2, sm2⟩
        have l1 : rs.length = i * n := by
          have := Paired.length hP
          rw [prsTo_length] at this
          exact this
        have l2 : rs2.length = n := by
          have := Paired.length hP2
          rw [List.length_map, List.length_range] at this
          exact this
        have l3 : i * n ≤ 4 * 4 := Nat.mul_le_mul (by omega) hn
        have hS2 := sm2 _ _ hS
        refine ⟨S, D, _, _, rfl, rfl, hS2, hD, ?_, _, _, _, _, rs ++ rs2, rfl, ?_, ?_, ?_⟩
        · rw [List.length_map, List.length_map]
          exact Nat.le_of_lt (lenLine (by omega))
        · rw [upd_same, List.map_append]
        · rw [prsTo_succ]
          exact PR.kt (paired_append (hP.same sm2) hP2) (KT.lst hS2)
        · intro b o hb
          rw [upd_ne (ne_of_none hb nS)]
          exact sm2 _ _ (sm _ _ hb)
    · rintro σ H1 ⟨y2, y3, y4, y5, rs, rfl, hS, hP, sm⟩
      generalize hps : prsTo n n = ps at hP q
      have lp : ps.length ≤ 16 := by
        rw [← hps, prsTo_length]
        exact Nat.mul_le_mul hn hn
      have lr : rs.length = ps.length := Paired.length hP
      refine ⟨.ref S, rfl, S, rfl, ⟨_, SqL.of hS⟩, fun D nD => ?_⟩
      have sD := same_upd (o := .lst []) nD
      refine lc_list (K := K) (a := S) (xs := rs.map V.ref) (fun i H2 => ∃ ts : List Addr, H2 D = some (.lst (ts.map V.ref)) ∧ Rows H2 ts ((ofPrs ps).take i) ∧ Same H1 H2)
        ⟨[], upd_same, .nil, sD⟩ (fun i H2 _ h => SqL.of (h.elim fun ts h => h.2.2 _ _ hS)) ?_ ?_
      · rintro i x H2 hx ⟨ts, hD, hR, sm2⟩
        obtain ⟨a, ha, rfl⟩ := ref_at hx
        obtain ⟨m, hm, hq⟩ := paired_get hP ha
        have hi : i < ps.length := (List.getElem?_eq_some_iff.mp hm).1
        have lt : ts.length ≤ 16 := by
          have := Paired.length hR
          rw [List.length_take] at this
          omega
        refine ⟨a, _, rfl, SqT.of (sm2 _ _ hq), rfl, _, _, rfl, _, _, rfl, rfl, rfl, yesI ?_⟩
        refine ⟨.ref S, rfl, S, _, rfl, SqL.of (sm2 _ _ hS), fun D2 nD2 => ?_⟩
        have sD2 := same_upd (o := .lst []) nD2
        refine lc_it (walk_enum (K := K) (a := S) (xs := rs.map V.ref)) (fun j H3 => H3 D2 = some (.lst ((rowTo ps m.2 j).map V.int)) ∧ Same H2 H3)
          ⟨upd_same, sD2⟩ (fun j H3 _ h => SqL.of (h.2 _ _ (sm2 _ _ hS))) ?_ ?_
        · rintro j v H3 H4 hj ⟨hD2, sm3⟩ ⟨T, x, y, rfl, nT, rfl, ex, ey⟩
          obtain rfl : V.int (j : Nat) = x := Option.some.inj ex
          obtain ⟨b, hb, rfl⟩ := ref_at ey
          obtain ⟨m', hm', hq'⟩ := paired_get hP hb
          have sT := same_upd (o := .tup [.int (j : Nat), .ref b]) nT
          have lj := rowTo_length ps m.2 j
          have hj' : j < ps.length := (List.getElem?_eq_some_iff.mp hm').1
          refine ⟨T, _, rfl, SqT.of upd_same, rfl, _, _, rfl, _, _, rfl, rfl, rfl, .ref b, rfl, b, _, 0, _, rfl, rfl, SqT.of (sT _ _ (sm3 _ _ (sm2 _ _ hq'))), rfl, _, rfl, rfl, _, rfl, ite2 (fun e => ?_) (fun e => ?_)⟩
          · have e' : m'.1 = m.2 := V.int.inj (of_decide_eq_true e)
            refine ⟨_, rfl, _, sT _ _ hD2, ?_, ?_, ?_⟩
            · rw [List.length_map]
              exact lenLine (by omega)
            · rw [upd_same, rowTo_yes (by rw [hm', ← e']; rfl), List.map_append]
              rfl
            · intro c o hc
              rw [upd_ne (ne_of_none hc nD2)]
              exact sT _ _ (sm3 _ _ hc)
          · have e' : m'.1 ≠ m.2 := fun z => e (decide_eq_true (congrArg V.int z))
            refine ⟨?_, sm3.trans sT⟩
            rw [rowTo_no (by rw [hm']; exact fun z => e' (Option.some.inj z))]
            exact sT _ _ hD2
        · rintro H3 ⟨hD2, sm3⟩
          rw [List.length_map, lr] at hD2
          refine ⟨D2, _, rfl, .inl ⟨SqL.of hD2, fun t nt => ?_⟩⟩
          have st := same_upd (o := .tup ((rowTo ps m.2 ps.length).map V.int)) nt
          have hD3 := st _ _ (sm3 _ _ hD)
          refine ⟨_, hD3, by rw [List.length_map]; exact lenLine (by omega), ts ++ [t], ?_, ?_, ?_⟩
          · rw [upd_same, List.map_append]
            rfl
          · have e : (ofPrs ps).take (i + 1) = (ofPrs ps).take i ++ [rowTo ps m.2 ps.length] := by
              rw [List.take_add_one]
              unfold ofPrs
              rw [List.getElem?_map, hm]
              rfl
            rw [e]
            refine paired_append ((hR.same (sm3.trans st)).kt (KT.lst hD3)) (.cons ?_ .nil)
            have ntD : t ≠ D := fun z => by
              subst z
              rw [sm3 _ _ hD] at nt
              cases nt
            rw [upd_ne ntD, upd_same]
          · intro c o hc
            rw [upd_ne (ne_of_none hc nD)]
            exact st _ _ (sm3 _ _ (sm2 _ _ hc))
      · rintro H2 ⟨ts, hD, hR, sm2⟩
        rw [List.length_map, lr, show ps.length = (ofPrs ps).length by unfold ofPrs; rw [List.length_map], List.take_length] at hR
        refine ⟨D, _, rfl, .inl ⟨SqL.of hD, fun p np => ?_⟩⟩
        have sp := same_upd (o := .tup (ts.map V.ref)) np
        exact q p _ ((sm.trans sm2).free np) ((sm.trans sm2).trans sp) ⟨ts, upd_same, hR.same sp⟩
end
end Nm

/-! enumerate over a tuple -/
namespace PySem
open PyProof.Rows
set_option maxHeartbeats 1000000 in
theorem enumNew1 {v : Value} {o : Obj} {H : Heap → Prop} (B : Begins v o H) :
    Meets (Builtin.«enumerate.__new__» ⟨[.type "enumerate", v], []⟩) (fun _ R s => H s.heap ∧
      R (.ok (.ret (.ref (s.heap.push o).objs.size)))
        { s with heap := (s.heap.push o).push { cls := .type "enumerate", data := .fields #[.none, .bool false, .ref s.heap.objs.size, rawInt 0, .none, .none] } }) :=
  .of_wp fun prog w A R s h => by
    obtain ⟨hp, g, d, tk, os⟩ := s
    obtain ⟨h1, h2⟩ := h
    have sub := sub_enumerate
    have go : ∀ {A' : Around} {E : Value → Shared → Prop} {Q : Value → Shared → Prop}, Q (.ref hp.objs.size) ⟨hp.push o, g, d, tk, os⟩ →
        wpAny (model prog w) A' (pyIter v) Q E ⟨hp, g, d, tk, os⟩ := fun q => B.iter prog w _ _ ⟨hp, g, d, tk, os⟩ _ h1 q
    wp_walk using go
    refine wpAny_stack_any fun st => wpAny_pure ?_
    split
    · rename_i c _ _ _ _ _
      by_cases e : (c == Value.type "enumerate") = true
      · rw [e]
        wp_walk using go
        exact ⟨_, rfl, h2⟩
      · rw [Bool.eq_false_iff.mpr e]
        wp_walk using go
        exact ⟨_, rfl, h2⟩
    · wp_walk using go
      exact ⟨_, rfl, h2⟩
section
variable {prog : Program} {w : World} {A : Around} {E : Value → Shared → Prop} {s : Shared}
theorem enumCall1 {v : Value} {o : Obj} {H : Heap → Prop} {Q : Value → Shared → Prop} (B : Begins v o H) (h1 : H s.heap)
    (h : ∀ h', IsEnum h' (s.heap.objs.size + 1) s.heap.objs.size 0 .none → h'.get? s.heap.objs.size = some o → h'.objs.size = s.heap.objs.size + 2 →
      (∀ b o, s.heap.get? b = some o → h'.get? b = some o) → Q (.ref (s.heap.objs.size + 1)) { s with heap := h' }) :
    wpAny (model prog w) A (call (.type "enumerate") [v]) Q E s := by
  refine callType_new F.called_enumerate (by decide) (F.typeCall_enumerate_1 _) (F.newCall_enumerate_1 _) (fun obj => F.args_object_init_2 obj _)
    F.entry_enumerate_new (enumNew1 B) (And.intro h1 ?_)
  have size1 : (s.heap.push o).objs.size = s.heap.objs.size + 1 := Heap.size_push ..
  show _ ∧ _
  rw [size1]
  have en : IsEnum ((s.heap.push o).push { cls := .type "enumerate", data := .fields #[.none, .bool false, .ref s.heap.objs.size, rawInt 0, .none, .none] })
      (s.heap.objs.size + 1) s.heap.objs.size 0 .none := by
    have z := Heap.get?_push_size (s.heap.push o) (o := { cls := .type "enumerate", data := .fields #[.none, .bool false, .ref s.heap.objs.size, rawInt 0, .none, .none] }) rfl
    rw [size1] at z
    exact z
  have h0 := Heap.get?_push_size s.heap (o := o) B.free
  refine And.intro ⟨_, en, rfl⟩ (h _ en (Heap.get?_push_of_some _ h0) ?_ ?_)
  · rw [Heap.size_push, size1]
  · intro b ob q
    exact Heap.get?_push_of_some _ (Heap.get?_push_of_some _ q)
end
end PySem
namespace GL
open PySem PySem.Spec PyProof.Rows L2
/-- the tuple at a, each item in a new pair -/
def IteT (K : PySem.W.Frag) (a : Addr) : It where
  go i H := ∃ (xs : List V) (x : V), SqT K H a xs ∧ xs[i]? = some x
  yld i H v H' := ∃ T x, v = .ref T ∧ H T = none ∧ H' = upd H T (.tup [.int (i : Nat), x]) ∧ ∀ xs, SqT K H a xs → xs[i]? = some x
  stop i H := ∃ xs : List V, SqT K H a xs ∧ xs.length = i
theorem turnET {P : Program} {w : World} {K : PySem.W.Frag} {elts : List Expr} {kk : Nat} {tpos : Pos} (a e it : Addr) :
    Turn P w K (.Tuple elts kk tpos) (IteT K a) [e, it] e
      (fun i h => (∃ old, IsEnum h e it ((i : Nat) : Int) old) ∧ h.IsTupleIter it a i ∧ e ≠ it ∧ a ≠ it ∧ e ≠ a) where
  mem := List.mem_cons_self
  obj := by
    rintro i h ⟨⟨old, he⟩, ⟨o, ho, hc, hd⟩, _⟩ b hb
    rcases List.mem_cons.mp hb with rfl | hb
    · exact ⟨_, he, fun v q => nomatch q⟩
    · rcases List.mem_cons.mp hb with rfl | hb
      · exact ⟨o, ho, fun v q => by rw [hd] at q; cases q⟩
      · cases hb
  keep := by
    rintro i h h' ⟨⟨old, he⟩, hi, r⟩ k
    exact ⟨⟨old, k e (by simp) _ he⟩, hi.at fun o q => k it (by simp) o q, r⟩
  item := by
    intro X hP hw hK hc i pins s σ H E I hf st hg
    subst hP hw hK
    obtain ⟨⟨old, he⟩, hit, n1, n2, n3⟩ := st
    obtain ⟨xs, x, hq, hx⟩ := hg
    obtain ⟨its, rv, tp, hz⟩ := I.tuple hq
    obtain ⟨u, hu, ru⟩ := rv.get hx
    have el : e < s.heap.objs.size := Heap.lt_size he
    have il : it < s.heap.objs.size := by
      obtain ⟨_, q, _⟩ := hit
      exact Heap.lt_size q
    have dr := Draws.tuple (prog := X.prog) (w := X.w) (A := X.A.in1) (I.ok.hd hc) it a n2 its.toArray
    have hlt : i < its.toArray.size := by
      have := (List.getElem?_eq_some_iff.mp hu).1
      simpa using this
    have nef : e ∉ [it, a] := by
      simp [n1, n3]
    refine wpAny_pyNext_enum_itemD dr he ⟨hit, tp⟩ hlt n1 nef fun y h' tk hy ho st' hT hsz hk => ?_
    have ey : y = u := by
      have hy' : its.toArray[i]? = some y := hy
      rw [List.getElem?_toArray, hu] at hy'
      exact (Option.some.inj hy').symm
    subst ey
    refine ⟨_, rfl, wpAny_letOwnedTupleGo_enum (s := { s with heap := h', toks := tk + 1 }) ho fun h'' he' sb => ?_⟩
    have hT2 : h''.get? s.heap.objs.size = some { cls := .type "tuple", data := .seq #[.int i tk, y] } := (sb.2 _ (Nat.ne_of_gt el)).trans hT
    have neu : ObjOk X.prog X.w (upd H s.heap.objs.size (.tup [.int (i : Nat), x])) h'' s.heap.objs.size (.tup [.int (i : Nat), x]) := by
      refine ⟨?_, [.int i tk, y], .cons ⟨_, rfl⟩ (.cons ru .nil), ⟨_, hT2, rfl, _, rfl⟩⟩
      show 2 ≤ sizeLine
      decide
    have J : Inv X pins σ (upd H s.heap.objs.size (.tup [.int (i : Nat), x])) { s with heap := h'', toks := tk + 1 } := by
      refine I.turnedNew (ch := [e, it]) (fun b ob hb q => ?_) hf (Nat.le_refl _) neu
      have b1 : b ≠ e := fun z => hb (by simp [z])
      have b2 : b ≠ it := fun z => hb (by simp [z])
      exact (sb.2 b b1).trans (hk b ob b1 b2 q)
    refine ⟨.ref s.heap.objs.size, _, J, rfl, ⟨_, x, rfl, I.hok.fresh (Nat.le_refl _), rfl, fun ys hy' => ?_⟩, ⟨⟨y, ?_⟩, ?_, n1, n2, n3⟩, fun b hb => ?_⟩
    · rw [I.tuple_inj hy' hq]
      exact hx
    · have e1 : ((i + 1 : Nat) : Int) = (i : Int) + 1 := by omega
      rw [e1]
      exact he'
    · exact st'.1.at fun o q => (sb.2 it (Ne.symm n1)).trans q
    · have lb : b < s.heap.objs.size := by
        rcases List.mem_cons.mp hb with rfl | hb
        · exact el
        · rcases List.mem_cons.mp hb with rfl | hb
          · exact il
          · cases hb
      rw [upd_ne (Nat.ne_of_lt lb)]
      exact (hf b hb).1
  done := by
    intro X hP hw hK hc i pins s σ H E I hf st hg
    subst hP hw hK
    obtain ⟨⟨old, he⟩, hit, n1, n2, n3⟩ := st
    obtain ⟨xs, hq, hx⟩ := hg
    obtain ⟨its, rv, tp, hz⟩ := I.tuple hq
    obtain ⟨f0, f1, f2, f3, f4, f5⟩ := hf it (by simp)
    have hl := rv.length
    have dr := Draws.tuple (prog := X.prog) (w := X.w) (A := X.A.in1) (I.ok.hd hc) it a n2 its.toArray
    have ei : its.toArray.size = i := by
      simp
      omega
    rw [← ei] at hit
    exact wpAny_pyNext_enum_endD dr he ⟨hit, tp⟩ fun h' eb => ⟨rfl, I.turned (t' := s.toks) (fun b o hb q => eb b o hb q) f0 f1 f3 f4 f5⟩
  self := by
    rintro A i s Q E ⟨⟨_, he⟩, _⟩ h
    exact wpAny_pyIter_enum he h
def iEnumT (K : PySem.W.Frag) (ta : TA) : TI := fun σ H R => ta σ H fun vs H1 => ∃ a xs, vs = [.ref a] ∧ SqT K H1 a xs ∧ R (IteT K a) H1
theorem pi_enumT {X : Cx} {K : PySem.W.Frag} {e : Expr} {ta : TA} {p pos tpos : Pos} {elts : List Expr} {kk : Nat} (hg : Gl X "enumerate") (hm : X.mg "enumerate" = none) (ha : PA X [e] ta)
    (hs : starEach [e] X.env = [(false, eval e X.env)] := by rfl) (hK : X.K = K := by rfl) : PI X (.Tuple elts kk tpos) (.Call (.Name "enumerate" p) [e] [] pos) (iEnumT K ta) := by
  subst hK
  constructor
  intro pins s σ H R I h
  refine Call_ ?_
  refine ld_blt I hg hm boot_enumerate (PyProof.Rows.callWith_type1 (thn (ha.run pos pins s σ H _ I h) ?_) hs rfl)
  rintro us s1 ⟨vs, H1, I1, r1, a, xs, rfl, hq, q⟩
  cases r1 with
  | cons r rr =>
    cases rr
    cases r
    obtain ⟨its, rv, tp, hz⟩ := I1.tuple hq
    have al : a < s1.heap.objs.size := by
      obtain ⟨o, ho, _⟩ := tp
      exact Heap.lt_size ho
    refine enumCall1 (begins_tuple a its.toArray) tp fun h' he hit hsz hk => wpAny_pyIter_enum he ?_
    have I2 : Inv X pins σ H1 { s1 with heap := h' } := I1.kept (t' := s1.toks) hk
    refine ⟨s1.heap.objs.size + 1, [s1.heap.objs.size + 1, s1.heap.objs.size], _, _, H1, rfl, I2, turnET a (s1.heap.objs.size + 1) s1.heap.objs.size,
      ⟨⟨.none, he⟩, ⟨_, hit, rfl, rfl⟩, Nat.succ_ne_self _, Nat.ne_of_lt al, Nat.ne_of_gt (Nat.lt_succ_of_lt al)⟩, fun b hb => ?_, q⟩
    have le : s1.heap.objs.size ≤ b := by
      rcases List.mem_cons.mp hb with rfl | hb
      · exact Nat.le_succ _
      · rcases List.mem_cons.mp hb with rfl | hb
        · exact Nat.le_refl _
        · cases hb
    exact I1.fpOk le (I1.hok.fresh le)
theorem walkET {K : PySem.W.Frag} {a : Addr} {xs : List V} : Walk (IteT K a) xs.length (fun H => SqT K H a xs) (YPair (fun i => some (.int (i : Nat))) (fun i => xs[i]?)) := by
  refine ⟨fun i _ hi q => ⟨xs, xs[i], q, List.getElem?_eq_getElem hi⟩, fun _ q => ⟨xs, q, rfl⟩, ?_⟩
  rintro i H v H' _ q ⟨T, x, h1, h2, h3, h4⟩
  exact ⟨T, .int (i : Nat), x, h1, h2, h3, rfl, h4 xs q⟩
end GL

namespace Nm
open PySem PySem.Spec PyProof.Rows L2 GL
abbrev sCso : Stmt := topS 16
abbrev nCso : List Str := ["_law_table_here", "_law_led", "_law_found", "_law_sign", "_law_row", "_law_near"]
theorem scCso : FnScope nCso ["_law_table_here", "_law_led"] (defScope sCso) := ⟨rfl, rfl, rfl, by decide +kernel, rfl, by decide +kernel, by decide +kernel⟩
/-! ### marks called otherwise -/
def rangeI (n : Nat) : List Int := (List.range n).map fun (i : Nat) => (i : Int)
theorem rangeI_length (n : Nat) : (rangeI n).length = n := by
  unfold rangeI
  rw [List.length_map, List.length_range]
theorem mem_rangeI {n : Nat} {x : Int} : x ∈ rangeI n ↔ 0 ≤ x ∧ x < n := by
  unfold rangeI
  rw [List.mem_map]
  constructor
  · rintro ⟨i, hi, rfl⟩
    rw [List.mem_range] at hi
    omega
  · rintro ⟨h0, h1⟩
    exact ⟨x.toNat, List.mem_range.mpr (by omega), by omega⟩
theorem nodup_rangeI (n : Nat) : (rangeI n).Nodup := by
  unfold rangeI
  refine List.Pairwise.map _ (fun a b h z => h ?_) List.nodup_range
  omega
/-- the name of a mark -/
def at_ (ms : List Int) (x : Int) : Int := ms.getD x.toNat 0
/-- row' holds the names of row, from the least on -/
def RowC (ms row row' : List Int) : Prop := row'.Perm (row.map (at_ ms)) ∧ row'.Pairwise (· ≤ ·)
def Called (T T' : List (List Int)) (ms : List Int) : Prop := T'.length = T.length ∧ ∀ (s : Nat) (row : List Int) (j : Int), T[s]? = some row → ms[s]? = some j → ∃ row', T'[j.toNat]? = some row' ∧ RowC ms row row'
theorem putK_length {κ : Type} [DecidableEq κ] (kvs : List (κ × V)) (k : κ) (v : V) : (putK kvs k v).length ≤ kvs.length + 1 := by
  unfold putK
  split
  · rw [List.length_map]
    omega
  · rw [List.length_append]
    exact Nat.le_refl _
def Sq (K : PySem.W.Frag) (H : Hp) (a : Addr) (xs : List V) : Prop := SqL K H a xs ∨ SqT K H a xs
theorem Sq.same {K : PySem.W.Frag} {H H' : Hp} {a : Addr} {xs : List V} (h : Sq K H a xs) (s : Same H H') : Sq K H' a xs := h.elim (fun z => .inl (s.seq z)) fun z => .inr (Nm.Same.seqT s z)
theorem ixSeqK {X : Cx} {K : PySem.W.Frag} (hK : X.K = K := by rfl) : IxR X (rIx K) := by
  subst hK
  exact ix_seq
theorem rIx_of {K : PySem.W.Frag} {H : Hp} {a : Addr} {xs : List V} {i : Int} {v : V} {Q : VK} (h : Sq K H a xs) (e : atI xs i = some v) (q : Q v H) : rIx K (.ref a) (.int i) H Q :=
  h.elim (fun z => .inl ⟨a, xs, i, v, rfl, rfl, z, e, q⟩) fun z => .inr (.inl ⟨a, xs, i, v, rfl, rfl, z, e, q⟩)
theorem at_get {ms : List Int} {x : Int} (h0 : 0 ≤ x) (h1 : x < (ms.length : Int)) : atI (ms.map V.int) x = some (.int (at_ ms x)) := by
  have hi : x.toNat < ms.length := by omega
  have z := atI_nat (xs := ms.map V.int) (j := x.toNat) (v := .int (at_ ms x)) (by
    rw [List.getElem?_map, List.getElem?_eq_getElem hi]
    unfold at_
    rw [List.getD_eq_getElem?_getD, List.getElem?_eq_getElem hi]
    rfl)
  have e : ((x.toNat : Nat) : Int) = x := by omega
  rw [e] at z
  exact z
section
variable {P : Program} {w : World} {K : PySem.W.Frag} {mg : Str → Option Value} {base : Heap}
def spCso (K : PySem.W.Frag) : Sp := fun vs H Q _ => ∃ (p l : Addr) (T : List (List Int)) (ms : List Int), vs = [.ref p, .ref l] ∧ Tbl H p T ∧ Sq K H l (ms.map V.int) ∧ T.length ≤ 1000 ∧ ms.Perm (rangeI T.length) ∧
  (∀ row ∈ T, row.length < 64 ∧ ∀ x ∈ row, 0 ≤ x ∧ x < (T.length : Int)) ∧
  ∀ (p' : Addr) (T' : List (List Int)) (H' : Hp), H p' = none → Same H H' → Tbl H' p' T' → Called T T' ms → Q (.ref p') H'
theorem ok_cso {f : Addr} {fd : FuncData} {k : Nat} (F : Fun K "_law_called_so" "_law_called_so" sCso f fd) (mr : mg "range" = none) (mtup : mg "tuple" = none) (me : mg "enumerate" = none) (ms_ : mg "sorted" = none) (ml : mg "len" = none) :
    FnOk P w K mg base CX0 (k + 1) f fd ["_law_table_here", "_law_led"] (spCso K) := by
  refine F.ok scCso (fun vs H Q E h => ?_) (fun cdv A outer s H vs Q E hr h => ?_)
  · obtain ⟨p, l, T, ms, rfl, _⟩ := h
    rfl
  · obtain ⟨p, l, T, ms, rfl, ⟨rs, hp, hR⟩, hL, lT, pm, hrow, q⟩ := h
    have hu := hu_of hr
    refine ⟨_, pss_cons (ps_set (i := 2) scCso.nd rfl (.inr rfl) pe_dnewK)
      (pss_cons (ps_for PassesOwn.never rfl (pi_enumT (K := K) (by rfl) me (pa_cons (pv 0) pa_nil))
          (pgTupK (K := K) rfl (pgs_cons (pg_name (i := 3) scCso.nd rfl (.inl rfl)) (pgs_cons (pg_name (i := 4) scCso.nd rfl (.inl rfl)) pgs_nil)))
        (pss_one (ps_dput hu (pv 2) (pe_ix (ixSeqK (K := K)) (pv 1) (pv 3) (fun _ _ => rfl))
          (pe_callTy (tupOfK (K := K)) (by rfl) mtup (by decide +kernel) (pa_cons (pe_callB cr_sorted (by rfl) ms_ (by decide +kernel) (pa_cons
            (pe_lc (own := [("_law_near", 5)]) (g := gName 5) (by rfl) scCso.nd (piTupK (K := K) (pv 4))
              (blkOk_by (own := [("_law_near", 5)]) (N := nCso) (sc := defScope sCso) (by decide +kernel))
              (fun _ _ _ _ _ => pg_name (i := 5) scCso.nd rfl (Or.inl rfl)) (fun _ _ _ _ _ => pts_nil)
              (fun _ _ _ _ _ => pe_ix (ixSeqK (K := K)) (pv 1) (pv 5) (fun _ _ => rfl))) pa_nil)) pa_nil)) rfl)))
      (pss_one (ps_ret (pe_callTy (tupOfK (K := K)) (by rfl) mtup (by decide +kernel) (pa_cons
        (pe_lc (own := [("_law_sign", 3)]) (g := gName 3) (by rfl) scCso.nd (pi_range1 (by rfl) mr (pa_cons (pe_callB (lenK (K := K)) (by rfl) ml PySem.boot_len (pa_cons (pv 0) pa_nil)) pa_nil))
          (blkOk_by (own := [("_law_sign", 3)]) (N := nCso) (sc := defScope sCso) (by decide +kernel))
          (fun _ _ _ _ _ => pg_name (i := 3) scCso.nd rfl (Or.inl rfl)) (fun _ _ _ _ _ => pts_nil)
          (fun _ _ _ _ _ => pe_dget hu (pv 2) (pv 3) (fun _ _ => rfl))) pa_nil))))), ?_⟩
    have lr : rs.length = T.length := Paired.length hR
    have lm : ms.length = T.length := by rw [pm.length_eq, rangeI_length]
    have ndm : ms.Nodup := pm.nodup_iff.mpr (nodup_rangeI _)
    have inm : ∀ x, x ∈ ms ↔ 0 ≤ x ∧ x < (T.length : Int) := fun x => pm.mem_iff.trans mem_rangeI
    refine fun d nd => ?_
    have s1 := same_upd (o := .dK []) nd
    refine ⟨.ref p, rfl, p, _, rfl, SqT.of (s1 _ _ hp), for_it (walkET (K := K) (a := p) (xs := rs.map V.ref)) (fun i σ H' => ∃ (y3 y4 y5 : Option V) (kvs : List (Key × V)), σ = [some (.ref p), some (.ref l), some (.ref d), y3, y4, y5] ∧
        H' d = some (.dK kvs) ∧ kvs.length ≤ i ∧ Same H H' ∧
        ∀ (s : Nat) (j : Int) (row : List Int), s < i → ms[s]? = some j → T[s]? = some row → ∃ t row', valV kvs (.inl j) = some (.ref t) ∧ H' t = some (.tup (row'.map V.int)) ∧ RowC ms row row')
      ⟨none, none, none, [], rfl, upd_same, Nat.le_refl _, s1, fun s j row h => absurd h (Nat.not_lt_zero _)⟩ (fun i σ H' _ h => ?_) ?_ ?_⟩
    · obtain ⟨_, _, _, _, _, _, _, sm, _⟩ := h
      exact SqT.of (sm _ _ hp)
    · rintro i x σ H1 H2 hi ⟨y3, y4, y5, kvs, rfl, hd, lk, sm, inv⟩ ⟨Tp, a, b, rfl, nTp, rfl, ea, eb⟩
      obtain rfl : V.int (i : Nat) = a := Option.some.inj ea
      obtain ⟨c, hc, rfl⟩ := ref_at eb
      obtain ⟨row, hrw, hcell⟩ := paired_get hR hc
      have hrr := hrow row (List.mem_of_getElem? hrw)
      have iT : i < T.length := (List.getElem?_eq_some_iff.mp hrw).1
      have sT := same_upd (o := .tup [.int (i : Nat), .ref c]) nTp
      have sm2 := sm.trans sT
      have hd2 := sT _ _ hd
      have hTp : upd H1 Tp (.tup [.int (i : Nat), .ref c]) Tp = some (.tup [.int (i : Nat), .ref c]) := upd_same
      generalize upd H1 Tp (.tup [.int (i : Nat), .ref c]) = H2 at sT sm2 hd2 hTp ⊢
      have hc2 := sm2 _ _ hcell
      obtain ⟨j, hj⟩ : ∃ j, ms[i]? = some j := ⟨_, List.getElem?_eq_getElem (by omega)⟩
      refine ⟨Tp, _, rfl, SqT.of hTp, rfl, _, _, rfl, _, _, rfl, rfl, ?_⟩
      refine ⟨.ref c, rfl, c, rfl, ⟨_, SqT.of hc2⟩, fun D nD => ?_⟩
      have sD := same_upd (o := .lst []) nD
      refine lc_tup (K := K) (a := c) (xs := row.map V.int) (fun m H3 => H3 D = some (.lst (((row.take m).map (at_ ms)).map V.int)) ∧ Same H2 H3) ⟨upd_same, sD⟩ (fun m H3 _ h => SqT.of (h.2 _ _ hc2)) ?_ ?_
      · rintro m x H3 hx ⟨hD, sm3⟩
        obtain ⟨y, hy, rfl⟩ := int_at hx
        have hyr := hrr.2 y (List.mem_of_getElem? hy)
        refine ⟨rfl, yesI ⟨.ref l, rfl, .int y, rfl, rIx_of ((hL.same sm2).same sm3) (at_get hyr.1 (by omega)) ⟨_, hD, ?_, ?_, ?_⟩⟩⟩
        · rw [List.length_map, List.length_map, List.length_take]
          exact lenLine (by omega)
        · rw [upd_same, List.take_add_one, hy, List.map_append, List.map_append]
          rfl
        · intro b o hb
          rw [upd_ne (ne_of_none hb nD)]
          exact sm3 _ _ hb
      · rintro H3 ⟨hD, sm3⟩
        rw [List.length_map, List.take_length] at hD
        refine ⟨D, _, rfl, SqL.of hD, by rw [List.length_map]; exact hrr.1, fun ns' o pm' srt no => ⟨o, _, rfl, .inl ⟨SqL.of upd_same, fun t nt => ?_⟩⟩⟩
        have so := same_upd (o := .lst (ns'.map V.int)) no
        have st := same_upd (o := .tup (ns'.map V.int)) nt
        have smA : Same H2 _ := sm3.trans (so.trans st)
        have hd4 := smA _ _ hd2
        have ht4 : upd (upd H3 o (.lst (ns'.map V.int))) t (.tup (ns'.map V.int)) t = some (.tup (ns'.map V.int)) := upd_same
        generalize upd (upd H3 o (.lst (ns'.map V.int))) t (.tup (ns'.map V.int)) = H4 at smA hd4 ht4 ⊢
        refine ⟨.ref d, rfl, .ref l, rfl, .int (i : Nat), rfl, rIx_of ((hL.same sm2).same smA) (atI_nat (j := i) (v := .int j) (by rw [List.getElem?_map, hj]; rfl)) ?_⟩
        refine ⟨d, _, rfl, DPut.k (k := .inl j) hd4 (lenLine (by omega)), _, _, _, _, rfl, upd_same, Nat.le_trans (putK_length _ _ _) (by omega), ?_, ?_⟩
        · intro b o hb
          rw [upd_ne (ne_of_none hb nd)]
          exact smA _ _ (sm2 _ _ hb)
        · intro s' j' row2 hs' hj' hr'
          have kt : ∀ (u : Addr) (xs : List V), H1 u = some (.tup xs) → upd H4 d (.dK (putK kvs (Sum.inl j) (V.ref t))) u = some (.tup xs) := fun u xs hu' => by
            have hu4 := smA _ _ (sT _ _ hu')
            rw [upd_ne (ne_of hu4 hd4 (by intro z; cases z))]
            exact hu4
          by_cases e : s' = i
          · subst e
            rw [hj] at hj'
            cases hj'
            rw [hrw] at hr'
            cases hr'
            refine ⟨t, ns', ?_, ?_, pm', srt⟩
            · rw [valV_put, if_pos rfl]
            · rw [upd_ne (ne_of ht4 hd4 (by intro z; cases z))]
              exact ht4
          · obtain ⟨u, row', hv, hu', rc⟩ := inv s' j' row2 (by omega) hj' hr'
            refine ⟨u, row', ?_, kt _ _ hu', rc⟩
            rw [valV_put, if_neg ?_]
            · exact hv
            · intro z
              have z' : j' = j := Sum.inl.inj z
              subst z'
              have l1 : s' < ms.length := (List.getElem?_eq_some_iff.mp hj').1
              exact e ((List.getElem?_inj l1 ndm).mp (hj'.trans hj.symm))
    · rintro σ H1 ⟨y3, y4, y5, kvs, rfl, hd, lk, sm, inv⟩
      rw [List.length_map, lr] at inv
      refine ⟨.ref p, rfl, p, _, rfl, .inr (SqT.of (sm _ _ hp)), _, rfl, ?_, ?_, fun D nD => ?_⟩
      · rw [List.length_map]
        omega
      · rw [List.length_map]
        omega
      have sD := same_upd (o := .lst []) nD
      have en : ((rs.map V.ref).length : Int).toNat = T.length := by
        rw [List.length_map]
        omega
      rw [en]
      refine lc_range (lo := 0) (n := T.length) (fun m H2 => ∃ (ts : List Addr) (T2 : List (List Int)), H2 D = some (.lst (ts.map V.ref)) ∧ Rows H2 ts T2 ∧ T2.length = m ∧ Same H1 H2 ∧
          ∀ (s : Nat) (row : List Int) (j : Int), T[s]? = some row → ms[s]? = some j → j < m → ∃ row', T2[j.toNat]? = some row' ∧ RowC ms row row')
        ⟨[], [], upd_same, .nil, rfl, sD, fun s row j _ hj h => absurd h (by have := ((inm j).mp (List.mem_of_getElem? hj)).1; omega)⟩ ?_ ?_
      · rintro m H2 hm ⟨ts, T2, hD, hR2, l2, sm2, inv2⟩
        have hmm : ((0 : Int) + m) ∈ ms := (inm _).mpr ⟨by omega, by omega⟩
        obtain ⟨s0, hs0⟩ := List.mem_iff_getElem?.mp hmm
        have ls0 : s0 < ms.length := (List.getElem?_eq_some_iff.mp hs0).1
        obtain ⟨row0, hrow0⟩ : ∃ row0, T[s0]? = some row0 := ⟨_, List.getElem?_eq_getElem (by omega)⟩
        obtain ⟨t, row', hv, ht, rc⟩ := inv s0 _ row0 (by omega) hs0 hrow0
        have lts : ts.length = m := by
          rw [Paired.length hR2, l2]
        refine ⟨rfl, yesI ⟨.ref d, rfl, .int (0 + m), rfl, d, .ref t, rfl, ?_, _, hD, ?_, ts ++ [t], T2 ++ [row'], ?_, ?_, ?_, ?_, ?_⟩⟩
        · have g := DGet.k (k := .inl ((0 : Int) + m)) (sm2 _ _ hd)
          rw [hv] at g
          exact g
        · rw [List.length_map]
          exact lenLine (by omega)
        · rw [upd_same, List.map_append]
          rfl
        · exact Rows.kt (paired_append hR2 (.cons (sm2 _ _ ht) .nil)) (KT.lst hD)
        · rw [List.length_append, l2]
          rfl
        · intro b o hb
          rw [upd_ne (ne_of_none hb nD)]
          exact sm2 _ _ hb
        · intro s' row j hr' hj' lj
          have j0 := ((inm j).mp (List.mem_of_getElem? hj')).1
          by_cases e : j < m
          · obtain ⟨r', g1, g2⟩ := inv2 s' row j hr' hj' e
            refine ⟨r', ?_, g2⟩
            rw [List.getElem?_append_left (by omega)]
            exact g1
          · have ej : j = 0 + (m : Int) := by omega
            subst ej
            have l1 : s' < ms.length := (List.getElem?_eq_some_iff.mp hj').1
            have es : s' = s0 := (List.getElem?_inj l1 ndm).mp (hj'.trans hs0.symm)
            subst es
            rw [hrow0] at hr'
            cases hr'
            refine ⟨row', ?_, rc⟩
            rw [show ((0 : Int) + (m : Int)).toNat = T2.length by omega, List.getElem?_concat_length]
      · rintro H2 ⟨ts, T2, hD, hR2, l2, sm2, inv2⟩
        refine ⟨D, _, rfl, .inl ⟨SqL.of hD, fun p' np => ?_⟩⟩
        have sp := same_upd (o := .tup (ts.map V.ref)) np
        refine q p' T2 _ ((sm.trans sm2).free np) ((sm.trans sm2).trans sp) ⟨ts, upd_same, hR2.same sp⟩ ⟨l2, fun s row j hr' hj' => inv2 s row j hr' hj' ?_⟩
        exact ((inm j).mp (List.mem_of_getElem? hj')).2
end
end Nm

namespace Nm
open PySem PySem.Spec PyProof.Rows L2 GL
abbrev sChg : Stmt := topS 17
abbrev nChg : List Str := ["_law_pot_here", "_law_table_here", "_law_rows", "_law_turn", "_law_sign", "_law_near", "_law_row"]
theorem scChg : FnScope nChg ["_law_pot_here", "_law_table_here"] (defScope sChg) := ⟨rfl, rfl, rfl, by decide +kernel, rfl, by decide +kernel, by decide +kernel⟩
/-! ### rules -/
def Good (n : Nat) (row : List Int) : Prop := row.Pairwise (· < ·) ∧ ∀ x ∈ row, 0 ≤ x ∧ x < (n : Int)
def IsRule (T : List (List Int)) : Prop := 1 ≤ T.length ∧ T.length ≤ 16 ∧ ∀ row ∈ T, Good T.length row
theorem asc_len (n : Nat) : ∀ (row : List Int) (a : Nat), row.Pairwise (· < ·) → (∀ x ∈ row, (a : Int) ≤ x ∧ x < (n : Int)) → row.length + a ≤ n ∨ row = []
  | [], _, _, _ => .inr rfl
  | x :: r, a, hp, hx => by
    have h0 := hx x List.mem_cons_self
    have hp' := List.pairwise_cons.mp hp
    rcases asc_len n r (x.toNat + 1) hp'.2 (fun y hy => ⟨by have := hp'.1 y hy; omega, (hx y (List.mem_cons_of_mem _ hy)).2⟩) with h | h
    · left
      rw [List.length_cons]
      omega
    · left
      subst h
      simp
      omega
theorem Good.len {n : Nat} {row : List Int} (h : Good n row) : row.length ≤ n := by
  rcases asc_len n row 0 h.1 h.2 with z | z
  · omega
  · subst z
    exact Nat.zero_le _
theorem Good.nodup {n : Nat} {row : List Int} (h : Good n row) : row.Nodup := h.1.imp fun h => Int.ne_of_lt h
theorem strict_of {l : List Int} (h : l.Pairwise (· ≤ ·)) (nd : l.Nodup) : l.Pairwise (· < ·) :=
  (List.Pairwise.and h nd).imp fun ⟨a, b⟩ => by omega
theorem Good.sub {n : Nat} {row r : List Int} (h : Good n row) (s : r.Sublist row) : Good n r := ⟨h.1.sublist s, fun x hx => h.2 x (s.subset hx)⟩
/-! ### lists of rows that change -/
structure LR (H : Hp) (ls : List Addr) (T : List (List Int)) : Prop where
  len : ls.length = T.length
  at' : ∀ (i : Nat) (a : Addr) (row : List Int), ls[i]? = some a → T[i]? = some row → H a = some (.lst (row.map V.int))
  inj : ∀ (i j : Nat) (a : Addr), ls[i]? = some a → ls[j]? = some a → i = j
theorem inV_int (x : Int) : ∀ row : List Int, inV (.int x) (row.map V.int) = decide (x ∈ row)
  | [] => by simp [inV]
  | y :: r => by
    have ih := inV_int x r
    unfold inV at ih ⊢
    rw [List.map_cons, List.any_cons, ih]
    have e : eqV (.int y) (.int x) = decide (y = x) := by
      by_cases h : y = x
      · subst h
        simp [eqV]
      · simp [eqV, h]
    rw [e]
    by_cases h : y = x
    · subst h
      simp
    · have h' : ¬ x = y := fun z => h z.symm
      simp [h, h']
theorem flat_ints (row : List Int) : (row.map V.int).all flatV = true := by
  rw [List.all_eq_true]
  intro x hx
  obtain ⟨y, _, rfl⟩ := List.mem_map.mp hx
  rfl
theorem first_at {row : List Int} {x : Int} (h : x ∈ row) : ∃ (j : Nat), row[j]? = some x ∧ ∀ (m : Nat), m < j → row[m]? ≠ some x := by
  induction row with
  | nil => cases h
  | cons y r ih =>
    by_cases e : y = x
    · subst e
      exact ⟨0, rfl, fun m hm => absurd hm (Nat.not_lt_zero _)⟩
    · have hr : x ∈ r := by
        rcases List.mem_cons.mp h with z | z
        · exact absurd z.symm e
        · exact z
      obtain ⟨j, h1, h2⟩ := ih hr
      refine ⟨j + 1, by simpa using h1, fun m hm => ?_⟩
      cases m with
      | zero =>
        intro z
        exact e (by simpa using z)
      | succ m =>
        have := h2 m (by omega)
        simpa using this
theorem mem_set {α : Type} {l : List α} {i : Nat} {a x : α} (h : x ∈ l.set i a) : x ∈ l ∨ x = a := List.mem_or_eq_of_mem_set h
theorem ixN_of {n : Nat} {k : Int} (h0 : 0 ≤ k) (h1 : k < (n : Int)) : ixN n k = some k.toNat := by
  unfold ixN
  rw [if_pos h0, if_pos h1]
/-- the rows between two turns -/
def Mid (H0 H : Hp) (p L : Addr) (m c : Nat) : Prop := ∃ (ls : List Addr) (T : List (List Int)), H L = some (.lst (ls.map V.ref)) ∧ LR H ls T ∧ (∀ a ∈ ls, H0 a = none ∧ a ≠ L) ∧ T.length = m ∧ (∀ row ∈ T, Good m row) ∧ Pot H p c ∧ Kp p H0 H
theorem Mid.kp {H0 H H' : Hp} {p L : Addr} {m c c' : Nat} {xs : List V} (h : Mid H0 H p L m c) (k : Kp p H H') (hp : Pot H' p c') (h0 : H0 p = some (.lst xs)) (nL : H0 L = none) : Mid H0 H' p L m c' := by
  obtain ⟨ls, T, hL, ⟨l1, l2, l3⟩, fr, lt, gd, _, kp⟩ := h
  have nLp : L ≠ p := fun z => by subst z; rw [h0] at nL; cases nL
  refine ⟨ls, T, k _ _ nLp hL, ⟨l1, fun i a row hi hr => k _ _ (fun z => ?_) (l2 i a row hi hr), l3⟩, fr, lt, gd, hp, kp.trans k⟩
  have := (fr a (List.mem_of_getElem? hi)).1
  subst z
  rw [h0] at this
  cases this
section
variable {P : Program} {w : World} {K : PySem.W.Frag} {mg : Str → Option Value} {base : Heap}
def spChg (K : PySem.W.Frag) : Sp := fun vs H Q _ => ∃ (p a : Addr) (n : Nat) (T : List (List Int)), vs = [.ref p, .ref a] ∧ Pot H p n ∧ n + 7 < 1000000 ∧ Tbl H a T ∧ IsRule T ∧
  ∀ (o : Addr) (T' : List (List Int)) (H' : Hp), H o = none → Pot H' p (n + 7) → Kp p H H' → Tbl H' o T' → IsRule T' → T'.length = T.length → Q (.ref o) H'
theorem ok_chg {f fT : Addr} {fd fdT : FuncData} {k : Nat} (F : Fun K "_law_changed" "_law_changed" sChg f fd) (FT : Fun K "_law_take" "_law_take" sTake fT fdT) (bT : Binds K fdT ["_law_pot_here", "_law_size"] []) (gT : mg "_law_take" = some (.ref fT))
    (mr : mg "range" = none) (mtup : mg "tuple" = none) (mlist : mg "list" = none) (ms_ : mg "sorted" = none) (ml : mg "len" = none) :
    FnOk P w K mg base CX0 (k + 2) f fd ["_law_pot_here", "_law_table_here"] (spChg K) := by
  have GT : FnOk P w K mg base CX0 (k + 1) fT fdT ["_law_pot_here", "_law_size"] (spTake K) := ok_take FT
  refine F.ok scChg (fun vs H Q E h => ?_) (fun cdv A outer s H vs Q E hr h => ?_)
  · obtain ⟨p, a, n, T, rfl, _⟩ := h
    rfl
  · obtain ⟨p, a, n, T, rfl, hp, hn, ⟨rs, ha, hR⟩, rule, q⟩ := h
    refine ⟨_, pss_cons (ps_setLc (i := 2) (own := [("_law_row", 6)]) (g := gName 6) (by rfl) scChg.nd rfl rfl (sw_true rfl rfl rfl (by decide +kernel)) (piTupK (K := K) (pv 1))
          (blkOk_by (own := [("_law_row", 6)]) (N := nChg) (sc := defScope sChg) (by decide +kernel))
          (fun _ _ _ _ _ => pg_name (i := 6) scChg.nd rfl (Or.inl rfl)) (fun _ _ _ _ _ => pts_nil)
          (fun _ _ _ _ _ => pe_callTy (lstOfK (K := K)) (by rfl) mlist (by decide +kernel) (pa_cons (pv 6) pa_nil)))
      (pss_cons (ps_for PassesOwn.never rfl (pi_range1 (by rfl) mr (pa_cons (pe_op op_add pe_int (pe_call GT hr (by rfl) gT FT.kp bT .nil pass0 (pa_cons (pv 0) (pa_cons pe_int pa_nil)))) pa_nil)) (pg_name (i := 3) scChg.nd rfl (.inl rfl))
        (pss_cons (ps_par (i := 4) (j := 5) (by rfl) scChg.nd rfl rfl (by decide) rfl rfl (pa_cons
            (pe_call GT hr (by rfl) gT FT.kp bT .nil pass0 (pa_cons (pv 0) (pa_cons (pe_callB (lenK (K := K)) (by rfl) ml PySem.boot_len (pa_cons (pv 2) pa_nil)) pa_nil))) (pa_cons
            (pe_call GT hr (by rfl) gT FT.kp bT .nil pass0 (pa_cons (pv 0) (pa_cons (pe_callB (lenK (K := K)) (by rfl) ml PySem.boot_len (pa_cons (pv 2) pa_nil)) pa_nil))) pa_nil)) (by rfl))
        (pss_one (ps_if (pt_cmpR (inK (K := K)) (pv 5) (pe_ix (ixLstK (K := K)) (pv 2) (pv 4) (fun _ _ => rfl)) (by rfl))
          (pss_one (ps_expr (pe_bm PySem.F.plainAttrs_list PySem.F.slot_list_remove PySem.F.type_list_remove mt_remove (pe_ix (ixLstK (K := K)) (pv 2) (pv 4) (fun _ _ => rfl)) (pa_cons (pv 5) pa_nil))))
          (pss_one (ps_asg (pe_callB cr_sorted (by rfl) ms_ (by decide +kernel) (pa_cons (pe_op op_cat (pe_ix (ixLstK (K := K)) (pv 2) (pv 4) (fun _ _ => rfl)) (pe_lst (pa_cons (pv 5) pa_nil))) pa_nil)) (pg_sub (pv 2) (pv 4) set_list)))))))
      (pss_one (ps_ret (pe_callTy (tupOfK (K := K)) (by rfl) mtup (by decide +kernel) (pa_cons
        (pe_lc (own := [("_law_row", 6)]) (g := gName 6) (by rfl) scChg.nd (piLstK (K := K) (pv 2))
          (blkOk_by (own := [("_law_row", 6)]) (N := nChg) (sc := defScope sChg) (by decide +kernel))
          (fun _ _ _ _ _ => pg_name (i := 6) scChg.nd rfl (Or.inl rfl)) (fun _ _ _ _ _ => pts_nil)
          (fun _ _ _ _ _ => pe_callTy (tupOfK (K := K)) (by rfl) mtup (by decide +kernel) (pa_cons (pv 6) pa_nil))) pa_nil))))), ?_⟩
    have lr : rs.length = T.length := Paired.length hR
    obtain ⟨t1, t16, good⟩ := rule
    obtain ⟨xs0, hp0⟩ := pot_lst hp
    refine ⟨.ref a, rfl, a, rfl, ⟨_, SqT.of ha⟩, fun L nL => ?_⟩
    have nLp : L ≠ p := fun z => by subst z; rw [hp0] at nL; cases nL
    refine lc_tup (K := K) (a := a) (xs := rs.map V.ref) (fun i H2 => ∃ ls : List Addr, H2 L = some (.lst (ls.map V.ref)) ∧ ls.length = i ∧ (∀ (j : Nat) (b : Addr) (row : List Int), ls[j]? = some b → T[j]? = some row → H2 b = some (.lst (row.map V.int))) ∧
        (∀ (i j : Nat) (b : Addr), ls[i]? = some b → ls[j]? = some b → i = j) ∧ (∀ b ∈ ls, H b = none ∧ b ≠ L ∧ H2 b ≠ none) ∧ Same H H2)
      ⟨[], upd_same, rfl, fun j b row h => by simp at h, fun i j b h => by simp at h, fun b h => by simp at h, same_upd nL⟩ (fun i H2 _ h => SqT.of (h.elim fun ls h => h.2.2.2.2.2 _ _ ha)) ?_ ?_
    · rintro i x H2 hx ⟨ls, hL, li, lrow, linj, lfr, sm⟩
      obtain ⟨c, hc, rfl⟩ := ref_at hx
      obtain ⟨row, hrw, hcell⟩ := paired_get hR hc
      have iT : i < T.length := (List.getElem?_eq_some_iff.mp hrw).1
      refine ⟨rfl, yesI ⟨.ref c, rfl, c, _, rfl, .inr (SqT.of (sm _ _ hcell)), fun l nl => ?_⟩⟩
      have sl := same_upd (o := .lst (row.map V.int)) nl
      have hL' := sl _ _ hL
      have nlL : l ≠ L := fun z => by subst z; rw [hL] at nl; cases nl
      have nlls : l ∉ ls := fun z => (lfr l z).2.2 nl
      refine ⟨_, hL', by rw [List.length_map]; exact lenLine (by omega), ls ++ [l], ?_, ?_, ?_, ?_, ?_, ?_⟩
      · rw [upd_same, List.map_append]
        rfl
      · rw [List.length_append, li]
        rfl
      · intro j b row' hj hr'
        by_cases e : j < ls.length
        · rw [List.getElem?_append_left e] at hj
          have nb := (lfr b (List.mem_of_getElem? hj)).2.1
          rw [upd_ne nb]
          exact sl _ _ (lrow j b row' hj hr')
        · have ej : j = ls.length := by
            have := (List.getElem?_eq_some_iff.mp hj).1
            rw [List.length_append] at this
            simp at this
            omega
          subst ej
          rw [List.getElem?_concat_length] at hj
          cases hj
          rw [li, hrw] at hr'
          cases hr'
          rw [upd_ne nlL, upd_same]
      · intro i' j' b hi' hj'
        by_cases e1 : i' < ls.length
        · rw [List.getElem?_append_left e1] at hi'
          by_cases e2 : j' < ls.length
          · rw [List.getElem?_append_left e2] at hj'
            exact linj i' j' b hi' hj'
          · have ej : j' = ls.length := by
              have := (List.getElem?_eq_some_iff.mp hj').1
              rw [List.length_append] at this
              simp at this
              omega
            subst ej
            rw [List.getElem?_concat_length] at hj'
            cases hj'
            exact absurd (List.mem_of_getElem? hi') nlls
        · have ei : i' = ls.length := by
            have := (List.getElem?_eq_some_iff.mp hi').1
            rw [List.length_append] at this
            simp at this
            omega
          subst ei
          rw [List.getElem?_concat_length] at hi'
          cases hi'
          by_cases e2 : j' < ls.length
          · rw [List.getElem?_append_left e2] at hj'
            exact absurd (List.mem_of_getElem? hj') nlls
          · have := (List.getElem?_eq_some_iff.mp hj').1
            rw [List.length_append] at this
            simp at this
            omega
      · intro b hb
        rcases List.mem_append.mp hb with z | z
        · obtain ⟨f1, f2, f3⟩ := lfr b z
          refine ⟨f1, f2, ?_⟩
          rw [upd_ne f2, upd_ne (show b ≠ l from fun y => nlls (y ▸ z))]
          exact f3
        · have z' : b = l := List.mem_singleton.mp z
          subst z'
          refine ⟨sm.free nl, nlL, ?_⟩
          rw [upd_ne nlL, upd_same]
          intro y
          cases y
      · intro b o hb
        rw [upd_ne (ne_of_none hb nL)]
        exact sl _ _ (sm _ _ hb)
    · rintro H1 ⟨ls, hL, li, lrow, linj, lfr, sm⟩
      rw [List.length_map, lr] at li
      have mid : Mid H H1 p L T.length n := ⟨ls, T, hL, ⟨li, lrow, linj⟩, fun b hb => ⟨(lfr b hb).1, (lfr b hb).2.1⟩, rfl, good, hp.same sm, .of sm⟩
      refine ⟨.ref p, rfl, p, n, 3, rfl, hp.same sm, by omega, by decide, by decide, fun r H2 r0 r3 hp2 kp2 => ?_⟩
      have mid2 := mid.kp kp2 hp2 hp0 nL
      refine ⟨1, r, rfl, rfl, _, rfl, by omega, by omega, ?_⟩
      obtain ⟨N, eN, hN⟩ : ∃ N : Nat, (1 + r).toNat = N ∧ N ≤ 3 := ⟨_, rfl, by omega⟩
      show ∃ W, _
      rw [eN]
      refine for_range (lo := 0) (n := N) (fun i σ H' => ∃ (y3 y4 y5 y6 : Option V), σ = [some (.ref p), some (.ref a), some (.ref L), y3, y4, y5, y6] ∧ Mid H H' p L T.length (n + 1 + 2 * i))
        ⟨none, none, none, none, rfl, mid2⟩ ?_ ?_
      · rintro i σ H3 hi ⟨y3, y4, y5, y6, rfl, mid3⟩
        have m3 := mid3
        obtain ⟨ls3, T3, hL3, lr3, fr3, lt3, gd3, hp3, kp3⟩ := m3
        have len3 : (ls3.map V.ref).length = T.length := by rw [List.length_map, lr3.len, lt3]
        refine ⟨.ref p, rfl, .ref L, rfl, L, _, rfl, .inl (SqL.of hL3), p, n + 1 + 2 * i, _, rfl, hp3, by omega, by rw [len3]; omega, by rw [len3]; omega, fun r1 H4 r10 r11 hp4 kp4 => ?_⟩
        have mid4 := mid3.kp kp4 hp4 hp0 nL
        have m4 := mid4
        obtain ⟨ls4, T4, hL4, lr4, fr4, lt4, gd4, _, _⟩ := m4
        have len4 : (ls4.map V.ref).length = T.length := by rw [List.length_map, lr4.len, lt4]
        refine ⟨.ref p, rfl, .ref L, rfl, L, _, rfl, .inl (SqL.of hL4), p, n + 1 + 2 * i + 1, _, rfl, hp4, by omega, by rw [len4]; omega, by rw [len4]; omega, fun r2 H5 r20 r21 hp5 kp5 => ?_⟩
        have mid5 := mid4.kp kp5 hp5 hp0 nL
        obtain ⟨ls, T5, hL5, lr5, fr5, lt5, gd5, _, kpF⟩ := mid5
        have len5 : (ls.map V.ref).length = T.length := by rw [List.length_map, lr5.len, lt5]
        rw [len3] at r11
        rw [len4] at r21
        have i1 : r1.toNat < ls.length := by
          rw [List.length_map] at len5
          omega
        have i2 : r1.toNat < T5.length := by omega
        obtain ⟨b, hb⟩ : ∃ b, ls[r1.toNat]? = some b := ⟨_, List.getElem?_eq_getElem i1⟩
        obtain ⟨row, hrw⟩ : ∃ row, T5[r1.toNat]? = some row := ⟨_, List.getElem?_eq_getElem i2⟩
        have hbr := lr5.at' _ _ _ hb hrw
        have hg := gd5 row (List.mem_of_getElem? hrw)
        have hgl := hg.len
        have atb : atI (ls.map V.ref) r1 = some (.ref b) := by
          have z := atI_nat (xs := ls.map V.ref) (j := r1.toNat) (v := .ref b) (by rw [List.getElem?_map, hb]; rfl)
          rw [show ((r1.toNat : Nat) : Int) = r1 by omega] at z
          exact z
        have nbL := (fr5 b (List.mem_of_getElem? hb)).2
        have nb0 := (fr5 b (List.mem_of_getElem? hb)).1
        have npb : p ≠ b := ne_of_none hp0 nb0
        refine ⟨_, _, rfl, .int r2, rfl, .ref L, rfl, .int r1, rfl, L, _, r1, _, rfl, rfl, SqL.of hL5, atb, b, _, rfl, .inl (SqL.of hbr), rfl, flat_ints row, _, rfl, ?_⟩
        show if inV (.int r2) (row.map V.int) = true then _ else _
        rw [inV_int]
        refine ite2 (fun e => ?_) (fun e => ?_)
        · have hin : r2 ∈ row := of_decide_eq_true e
          obtain ⟨j, hj, hno⟩ := first_at hin
          refine ⟨.ref L, rfl, .int r1, rfl, L, _, r1, _, rfl, rfl, SqL.of hL5, atb, .inl ⟨rfl, _, SqL.of hbr⟩, .int r2, rfl, b, row, r2, j, rfl, rfl, hbr, hj, hno, _, _, _, _, rfl, ls, T5.set r1.toNat (row.eraseIdx j), ?_, ⟨?_, ?_, lr5.inj⟩, fr5, ?_, ?_, ?_, ?_⟩
          · rw [upd_ne nbL.symm]
            exact hL5
          · rw [List.length_set]
            exact lr5.len
          · intro i' a' row' hi' hr'
            by_cases e' : i' = r1.toNat
            · subst e'
              rw [hb] at hi'
              cases hi'
              rw [List.getElem?_set_self i2] at hr'
              cases hr'
              exact upd_same
            · rw [List.getElem?_set_ne (Ne.symm e')] at hr'
              rw [upd_ne (show a' ≠ b from fun z => e' (lr5.inj i' r1.toNat a' hi' (by rw [z]; exact hb)))]
              exact lr5.at' _ _ _ hi' hr'
          · rw [List.length_set]
            exact lt5
          · intro row' hr'
            rcases mem_set hr' with z | z
            · exact gd5 row' z
            · subst z
              exact hg.sub (List.eraseIdx_sublist _ _)
          · obtain ⟨g, t, c, hq, rr1, rr2, rr3, rr4, rr5⟩ := hp5
            refine ⟨g, t, c, ?_, rr1, rr2, rr3, rr4, by omega⟩
            rw [upd_ne npb]
            exact hq
          · intro c o nc hc
            rw [upd_ne (ne_of_none hc nb0)]
            exact kpF _ _ nc hc
        · have hin : r2 ∉ row := fun z => e (decide_eq_true z)
          refine ⟨.ref L, rfl, .int r1, rfl, L, _, r1, _, rfl, rfl, SqL.of hL5, atb, .int r2, rfl, by show 1 ≤ sizeLine; decide, fun e1 ne1 => ?_⟩
          have s1 := same_upd (o := .lst [.int r2]) ne1
          refine ⟨b, e1, _, _, rfl, rfl, s1 _ _ hbr, upd_same, ?_, fun c nc => ?_⟩
          · rw [List.length_map]
            exact Nat.le_of_lt (lenLine (by simp; omega))
          · have s2 := same_upd (o := .lst (row.map V.int ++ [.int r2])) nc
            refine ⟨c, row ++ [r2], rfl, SqL.of ?_, ?_, fun ns' o pm srt no => ?_⟩
            · rw [List.map_append]
              exact upd_same
            · rw [List.length_append]
              simp
              omega
            · have s3 := same_upd (o := .lst (ns'.map V.int)) no
              have s4 := s1.trans (s2.trans s3)
              have hL6 := s4 _ _ hL5
              have hoN := upd_same (H := upd (upd H5 e1 (.lst [.int r2])) c (.lst (row.map V.int ++ [.int r2]))) (a := o) (o := .lst (ns'.map V.int))
              have no5 : H5 o = none := (s1.trans s2).free no
              have no0 : H o = none := by
                cases hz : H o with
                | none => rfl
                | some u =>
                  by_cases e' : o = p
                  · obtain ⟨_, y⟩ := pot_lst hp5
                    rw [e', y] at no5
                    cases no5
                  · rw [kpF _ _ e' hz] at no5
                    cases no5
              generalize upd (upd (upd H5 e1 (.lst [.int r2])) c (.lst (row.map V.int ++ [.int r2]))) o (.lst (ns'.map V.int)) = H6 at s3 s4 hL6 hoN ⊢
              have noL : o ≠ L := fun z => by subst z; rw [hL5] at no5; cases no5
              refine ⟨.ref L, rfl, .int r1, rfl, L, _, r1, r1.toNat, rfl, rfl, hL6, ixN_of r10 (by rw [len5]; exact r11), _, _, _, _, rfl, ls.set r1.toNat o, T5.set r1.toNat ns', ?_, ⟨?_, ?_, ?_⟩, ?_, ?_, ?_, ?_, ?_⟩
              · rw [upd_same, List.map_set]
              · rw [List.length_set, List.length_set]
                exact lr5.len
              · intro i' a' row' hi' hr'
                by_cases e' : i' = r1.toNat
                · subst e'
                  rw [List.getElem?_set_self i1] at hi'
                  cases hi'
                  rw [List.getElem?_set_self i2] at hr'
                  cases hr'
                  rw [upd_ne noL]
                  exact hoN
                · rw [List.getElem?_set_ne (Ne.symm e')] at hr' hi'
                  rw [upd_ne (fr5 a' (List.mem_of_getElem? hi')).2]
                  exact s4 _ _ (lr5.at' _ _ _ hi' hr')
              · intro i' j' a' hi' hj'
                have old : ∀ {m : Nat}, m ≠ r1.toNat → (ls.set r1.toNat o)[m]? = some o → False := fun {m} hm hmm => by
                  rw [List.getElem?_set_ne (Ne.symm hm)] at hmm
                  obtain ⟨row2, h2⟩ : ∃ row2, T5[m]? = some row2 := ⟨_, List.getElem?_eq_getElem (by have := (List.getElem?_eq_some_iff.mp hmm).1; have := lr5.len; omega)⟩
                  rw [lr5.at' _ _ _ hmm h2] at no5
                  cases no5
                by_cases e1' : i' = r1.toNat
                · by_cases e2' : j' = r1.toNat
                  · rw [e1', e2']
                  · subst e1'
                    rw [List.getElem?_set_self i1] at hi'
                    cases hi'
                    exact (old e2' hj').elim
                · by_cases e2' : j' = r1.toNat
                  · subst e2'
                    rw [List.getElem?_set_self i1] at hj'
                    cases hj'
                    exact (old e1' hi').elim
                  · rw [List.getElem?_set_ne (Ne.symm e1')] at hi'
                    rw [List.getElem?_set_ne (Ne.symm e2')] at hj'
                    exact lr5.inj _ _ _ hi' hj'
              · intro a' ha'
                rcases mem_set ha' with z | z
                · exact fr5 a' z
                · subst z
                  exact ⟨no0, noL⟩
              · rw [List.length_set]
                exact lt5
              · intro row' hr'
                rcases mem_set hr' with z | z
                · exact gd5 row' z
                · subst z
                  have nd : row'.Nodup := by
                    refine pm.nodup_iff.mpr (List.nodup_append.mpr ⟨hg.nodup, by simp, ?_⟩)
                    intro x hx y hy z
                    have y' : y = r2 := List.mem_singleton.mp hy
                    subst z
                    subst y'
                    exact hin hx
                  refine ⟨strict_of srt nd, fun x hx => ?_⟩
                  rcases List.mem_append.mp (pm.mem_iff.mp hx) with z | z
                  · exact hg.2 x z
                  · have z' : x = r2 := List.mem_singleton.mp z
                    subst z'
                    exact ⟨r20, r21⟩
              · obtain ⟨g, t, c', hq, rr1, rr2, rr3, rr4, rr5⟩ := hp5
                refine ⟨g, t, c', ?_, rr1, rr2, rr3, rr4, by omega⟩
                rw [upd_ne nLp.symm]
                exact s4 _ _ hq
              · intro c' o' nc' hc'
                rw [upd_ne (ne_of_none hc' nL)]
                exact s4 _ _ (kpF _ _ nc' hc')
      · rintro σ H3 ⟨y3, y4, y5, y6, rfl, ls3, T3, hL3, lr3, fr3, lt3, gd3, hp3, kp3⟩
        refine ⟨.ref L, rfl, L, rfl, ⟨_, SqL.of hL3⟩, fun D nD => ?_⟩
        have sD := same_upd (o := .lst []) nD
        refine lc_list (K := K) (a := L) (xs := ls3.map V.ref) (fun i H4 => ∃ ts : List Addr, H4 D = some (.lst (ts.map V.ref)) ∧ Rows H4 ts (T3.take i) ∧ Same H3 H4)
          ⟨[], upd_same, .nil, sD⟩ (fun i H4 _ h => SqL.of (h.elim fun ts h => h.2.2 _ _ hL3)) ?_ ?_
        · rintro i x H4 hx ⟨ts, hD, hR4, sm4⟩
          obtain ⟨b, hb, rfl⟩ := ref_at hx
          have lb := (List.getElem?_eq_some_iff.mp hb).1
          obtain ⟨row, hrw⟩ : ∃ row, T3[i]? = some row := ⟨_, List.getElem?_eq_getElem (by have := lr3.len; omega)⟩
          have hbr := sm4 _ _ (lr3.at' _ _ _ hb hrw)
          have lts : ts.length ≤ 16 := by
            rw [Paired.length hR4, List.length_take]
            omega
          refine ⟨rfl, yesI ⟨.ref b, rfl, b, _, rfl, .inl ⟨SqL.of hbr, fun t nt => ?_⟩⟩⟩
          have st := same_upd (o := .tup (row.map V.int)) nt
          have hD' := st _ _ hD
          have ntD : t ≠ D := fun z => by subst z; rw [hD] at nt; cases nt
          refine ⟨_, hD', by rw [List.length_map]; exact lenLine (by omega), ts ++ [t], ?_, ?_, ?_⟩
          · rw [upd_same, List.map_append]
            rfl
          · rw [List.take_add_one, hrw]
            refine Rows.kt (paired_append (hR4.same st) (.cons upd_same .nil)) (KT.lst hD')
          · intro c o hc
            rw [upd_ne (ne_of_none hc nD)]
            exact st _ _ (sm4 _ _ hc)
        · rintro H4 ⟨ts, hD, hR4, sm4⟩
          rw [List.length_map, lr3.len, List.take_length] at hR4
          refine ⟨D, _, rfl, .inl ⟨SqL.of hD, fun o no => ?_⟩⟩
          have so := same_upd (o := .tup (ts.map V.ref)) no
          have hpF := (hp3.same sm4).same so
          refine q o T3 _ ?_ (hpF.mono (by omega)) (kp3.trans (.of (sm4.trans so))) ⟨ts, upd_same, hR4.same so⟩ ⟨by omega, by omega, fun row hr' => by rw [lt3]; exact gd3 row hr'⟩ lt3
          have no3 : H3 o = none := sm4.free no
          cases hz : H o with
          | none => rfl
          | some u =>
            by_cases e' : o = p
            · obtain ⟨_, y⟩ := pot_lst hp3
              rw [e', y] at no3
              cases no3
            · rw [kp3 _ _ e' hz] at no3
              cases no3
end
end Nm

namespace Nm
open PySem PySem.Spec PyProof.Rows L2 GL
abbrev sTab : Stmt := topS 18
abbrev nTab : List Str := ["_law_pot_here", "_law_most", "_law_way", "_law_size", "_law_signs", "_law_table_here", "_law_sign", "_law_wide"]
theorem scTab : FnScope nTab ["_law_pot_here", "_law_most"] (defScope sTab) := ⟨rfl, rfl, rfl, by decide +kernel, rfl, by decide +kernel, by decide +kernel⟩
theorem allK {X : Cx} {K : PySem.W.Frag} (hc : X.calm = true) (hK : X.K = K := by rfl) : CallR X (.builtin "all") (rAll K) := by
  subst hK
  exact cr_all hc
theorem rgV_range (n : Nat) : rgV 0 (n : Int) = (rangeI n).map V.int := by
  unfold rgV rangeI
  rw [List.map_map, show ((n : Int) - 0).toNat = n by omega]
  refine List.map_congr_left fun i _ => ?_
  show V.int (0 + (i : Int)) = V.int (i : Int)
  rw [Int.zero_add]
theorem rangeI_asc (n : Nat) : (rangeI n).Pairwise (· < ·) := by
  unfold rangeI
  refine List.Pairwise.map _ (fun a b h => ?_) List.pairwise_lt_range
  omega
theorem good_sub {n : Nat} {row : List Int} (h : row.Sublist (rangeI n)) : Good n row := ⟨(rangeI_asc n).sublist h, fun x hx => mem_rangeI.mp (h.subset hx)⟩
instance (n : Nat) (row : List Int) : Decidable (Good n row) := inferInstanceAs (Decidable (_ ∧ _))
instance (T : List (List Int)) : Decidable (IsRule T) := inferInstanceAs (Decidable (_ ∧ _))
theorem named_rule {m : Nat} (h1 : 1 ≤ m) (h4 : m ≤ 4) : IsRule (ofPrs (prsTo m m)) := by
  obtain rfl | rfl | rfl | rfl : m = 1 ∨ m = 2 ∨ m = 3 ∨ m = 4 := by omega
  all_goals decide +kernel
theorem at_mem {ms : List Int} {x : Int} (h0 : 0 ≤ x) (h1 : x < (ms.length : Int)) : at_ ms x ∈ ms := by
  have hi : x.toNat < ms.length := by omega
  unfold at_
  rw [List.getD_eq_getElem?_getD, List.getElem?_eq_getElem hi]
  exact List.getElem_mem hi
theorem at_some {ms : List Int} {x : Int} (h0 : 0 ≤ x) (h1 : x < (ms.length : Int)) : ms[x.toNat]? = some (at_ ms x) := by
  have hi : x.toNat < ms.length := by omega
  unfold at_
  rw [List.getD_eq_getElem?_getD, List.getElem?_eq_getElem hi]
  rfl
theorem at_inj {ms : List Int} (nd : ms.Nodup) {x y : Int} (h0 : 0 ≤ x) (h1 : x < (ms.length : Int)) (k0 : 0 ≤ y) (k1 : y < (ms.length : Int)) (e : at_ ms x = at_ ms y) : x = y := by
  have hx := at_some h0 h1
  have hy := at_some k0 k1
  rw [e] at hx
  have := (List.getElem?_inj (by omega) nd).mp (hx.trans hy.symm)
  omega
theorem rowC_good {n : Nat} {ms row row' : List Int} (g : Good n row) (pm : ms.Perm (rangeI n)) (h : RowC ms row row') : Good n row' := by
  have lm : ms.length = n := by rw [pm.length_eq, rangeI_length]
  have ndm : ms.Nodup := pm.nodup_iff.mpr (nodup_rangeI _)
  have nd : row'.Nodup := by
    refine h.1.nodup_iff.mpr ?_
    refine List.pairwise_map.mpr (List.Pairwise.imp_of_mem (fun {a b} ha hb hab z => ?_) g.nodup)
    have h1 := g.2 a ha
    have h2 := g.2 b hb
    exact hab (at_inj ndm h1.1 (by omega) h2.1 (by omega) z)
  refine ⟨strict_of h.2 nd, fun x hx => ?_⟩
  obtain ⟨y, hy, rfl⟩ := List.mem_map.mp (h.1.mem_iff.mp hx)
  have h1 := g.2 y hy
  exact mem_rangeI.mp (pm.mem_iff.mp (at_mem h1.1 (by omega)))
theorem called_rule {T T' : List (List Int)} {ms : List Int} (r : IsRule T) (pm : ms.Perm (rangeI T.length)) (c : Called T T' ms) : IsRule T' := by
  obtain ⟨l, hc⟩ := c
  have lm : ms.length = T.length := by rw [pm.length_eq, rangeI_length]
  refine ⟨by rw [l]; exact r.1, by rw [l]; exact r.2.1, fun row' hr => ?_⟩
  rw [l]
  obtain ⟨j, hj⟩ := List.mem_iff_getElem?.mp hr
  have jl := (List.getElem?_eq_some_iff.mp hj).1
  have jm : (j : Int) ∈ ms := pm.mem_iff.mpr (mem_rangeI.mpr ⟨by omega, by omega⟩)
  obtain ⟨s, hs⟩ := List.mem_iff_getElem?.mp jm
  have sl := (List.getElem?_eq_some_iff.mp hs).1
  obtain ⟨row, hrow⟩ : ∃ row, T[s]? = some row := ⟨_, List.getElem?_eq_getElem (by omega)⟩
  obtain ⟨row2, h1, h2⟩ := hc s row j hrow hs
  rw [Int.toNat_natCast, hj] at h1
  cases h1
  exact rowC_good (r.2.2 row (List.mem_of_getElem? hrow)) pm h2
section
variable {P : Program} {w : World} {K : PySem.W.Frag} {mg : Str → Option Value} {base : Heap}
/-- what the drawing defs lean on -/
structure Lib (K : PySem.W.Frag) (mg : Str → Option Value) : Prop where
  len : mg "len" = none
  abs : mg "abs" = none
  list : mg "list" = none
  tuple : mg "tuple" = none
  range : mg "range" = none
  enum : mg "enumerate" = none
  sorted : mg "sorted" = none
structure Draw (K : PySem.W.Frag) (mg : Str → Option Value) (fT fP fM fS fN fC fG : Addr) (dT dP dM dS dN dC dG : FuncData) : Prop where
  T : Fun K "_law_take" "_law_take" sTake fT dT
  P : Fun K "_law_pick" "_law_pick" sPick fP dP
  M : Fun K "_law_mixed" "_law_mixed" sMixed fM dM
  S : Fun K "_law_some" "_law_some" sSome fS dS
  N : Fun K "_law_named" "_law_named" sNamed fN dN
  C : Fun K "_law_called_so" "_law_called_so" sCso fC dC
  G : Fun K "_law_changed" "_law_changed" sChg fG dG
  bT : Binds K dT ["_law_pot_here", "_law_size"] []
  bP : Binds K dP ["_law_pot_here", "_law_some_here"] []
  bM : Binds K dM ["_law_pot_here", "_law_some_here"] []
  bS : Binds K dS ["_law_pot_here", "_law_some_here", "_law_share"] []
  bN : Binds K dN ["_law_wide"] []
  bC : Binds K dC ["_law_table_here", "_law_led"] []
  bG : Binds K dG ["_law_pot_here", "_law_table_here"] []
  gT : mg "_law_take" = some (.ref fT)
  gP : mg "_law_pick" = some (.ref fP)
  gM : mg "_law_mixed" = some (.ref fM)
  gS : mg "_law_some" = some (.ref fS)
  gN : mg "_law_named" = some (.ref fN)
  gC : mg "_law_called_so" = some (.ref fC)
  gG : mg "_law_changed" = some (.ref fG)
def spTab (K : PySem.W.Frag) : Sp := fun vs H Q _ => ∃ (p : Addr) (n : Nat), vs = [.ref p, .int 16] ∧ Pot H p n ∧ n + 1000 < 1000000 ∧
  ∀ (o : Addr) (T : List (List Int)) (H' : Hp), Pot H' p (n + 1000) → Kp p H H' → Tbl H' o T → IsRule T → Q (.ref o) H'
theorem ok_tab {f fT fP fM fS fN fC fG : Addr} {fd dT dP dM dS dN dC dG : FuncData} {k : Nat} (F : Fun K "_law_table" "_law_table" sTab f fd) (D : Draw K mg fT fP fM fS fN fC fG dT dP dM dS dN dC dG) (B : Lib K mg) :
    FnOk P w K mg base CX0 (k + 3) f fd ["_law_pot_here", "_law_most"] (spTab K) := by
  have GT : FnOk P w K mg base CX0 (k + 2) fT dT ["_law_pot_here", "_law_size"] (spTake K) := ok_take D.T
  have GP : FnOk P w K mg base CX0 (k + 2) fP dP ["_law_pot_here", "_law_some_here"] (spPick K) := ok_pick D.P D.T D.bT D.gT B.len
  have GM : FnOk P w K mg base CX0 (k + 2) fM dM ["_law_pot_here", "_law_some_here"] (spMixed K) := ok_mixed D.M D.T D.bT D.gT B.len B.list
  have GS : FnOk P w K mg base CX0 (k + 2) fS dS ["_law_pot_here", "_law_some_here", "_law_share"] (spSome K) := ok_some D.S D.T D.bT D.gT B.tuple
  have GN : FnOk P w K mg base CX0 (k + 2) fN dN ["_law_wide"] (spNamed K) := ok_named D.N B.range B.tuple B.enum
  have GC : FnOk P w K mg base CX0 (k + 2) fC dC ["_law_table_here", "_law_led"] (spCso K) := ok_cso D.C B.range B.tuple B.enum B.sorted B.len
  have GG : FnOk P w K mg base CX0 (k + 2) fG dG ["_law_pot_here", "_law_table_here"] (spChg K) := ok_chg D.G D.T D.bT D.gT B.range B.tuple B.list B.sorted B.len
  refine F.ok scTab (fun vs H Q E h => ?_) (fun cdv A outer s H vs Q E hr h => ?_)
  · obtain ⟨p, n, rfl, _⟩ := h
    rfl
  · obtain ⟨p, n, rfl, hp, hn, q⟩ := h
    refine ⟨_, pss_cons (ps_asg (pe_tup (pa_cons (pe_call GT hr (by rfl) D.gT D.T.kp D.bT .nil pass0 (pa_cons (pv 0) (pa_cons pe_int pa_nil)))
          (pa_cons (pe_op op_add pe_int (pe_call GT hr (by rfl) D.gT D.T.kp D.bT .nil pass0 (pa_cons (pv 0) (pa_cons (pv 1) pa_nil)))) pa_nil)))
          (pgTupK (K := K) rfl (pgs_cons (pg_name (i := 2) scTab.nd rfl (.inr rfl)) (pgs_cons (pg_name (i := 3) scTab.nd rfl (.inl rfl)) pgs_nil))))
      (pss_cons (ps_if (pt_cmpR op_lt (pv 2) pe_int (nomark _))
        (pss_cons (ps_set (i := 4) scTab.nd rfl (.inr rfl) (pe_listRg (by rfl) (by rfl) B.list (prg_1 (by rfl) B.range (pv 3))))
        (pss_one (ps_ret (pe_callTy (tupOfK (K := K)) (by rfl) B.tuple (by decide +kernel) (pa_cons
          (pe_lc (own := [("_law_sign", 6)]) (g := gName 6) (by rfl) scTab.nd (piLstK (K := K) (pv 4))
            (blkOk_by (own := [("_law_sign", 6)]) (N := nTab) (sc := defScope sTab) (by decide +kernel))
            (fun _ _ _ _ _ => pg_name (i := 6) scTab.nd rfl (Or.inl rfl)) (fun _ _ _ _ _ => pts_nil)
            (fun _ _ _ _ _ => pe_call GS hr (by rfl) D.gS D.S.kp D.bS .nil pass0 (pa_cons (pv 0) (pa_cons (pv 4) (pa_cons (pe_op op_add pe_int
              (pe_call GT hr (by rfl) D.gT D.T.kp D.bT .nil pass0 (pa_cons (pv 0) (pa_cons (pe_op op_add (pv 2) pe_int) pa_nil)))) pa_nil))))) pa_nil))))) pss_nil)
      (pss_cons (ps_set (i := 5) scTab.nd rfl (.inl rfl) (pe_call GN hr (by rfl) D.gN D.N.kp D.bN .nil pass0 (pa_cons
          (pe_call GP hr (by rfl) D.gP D.P.kp D.bP .nil pass0 (pa_cons (pv 0) (pa_cons
            (pe_lc (own := [("_law_wide", 7)]) (g := gName 7) (by rfl) scTab.nd (piTupK (K := K) (pe_tup (pa_cons pe_int (pa_cons pe_int (pa_cons pe_int (pa_cons pe_int pa_nil))))))
              (blkOk_by (own := [("_law_wide", 7)]) (N := nTab) (sc := defScope sTab) (by decide +kernel))
              (fun _ _ _ _ _ => pg_name (i := 7) scTab.nd rfl (Or.inl rfl))
              (fun _ _ _ _ _ => pts_one (pt_cmpR op_le (pe_op op_mul (pv 7) (pv 7)) (pv 1) (nomark _)))
              (fun _ _ _ _ _ => pv 7)) pa_nil))) pa_nil)))
      (pss_mid (ps_if (pt_cmpR op_gt (pv 2) pe_int (nomark _))
        (pss_one (ps_set (i := 5) scTab.nd rfl (.inl rfl) (pe_call GC hr (by rfl) D.gC D.C.kp D.bC .nil pass0 (pa_cons (pv 5) (pa_cons
          (pe_call GM hr (by rfl) D.gM D.M.kp D.bM .nil pass0 (pa_cons (pv 0) (pa_cons (pe_listRg (by rfl) (by rfl) B.list (prg_1 (by rfl) B.range (pe_callB (lenK (K := K)) (by rfl) B.len PySem.boot_len (pa_cons (pv 5) pa_nil)))) pa_nil))) pa_nil))))) pss_nil)
      (pss_one (ps_ret (pe_ifExp (pt_cmpR op_eq (pv 2) pe_int (nomark _))
        (pe_call GG hr (by rfl) D.gG D.G.kp D.bG .nil pass0 (pa_cons (pv 0) (pa_cons (pv 5) pa_nil))) (pv 5))))))), ?_⟩
    obtain ⟨xs0, hp0⟩ := pot_lst hp
    refine ⟨.ref p, rfl, p, n, 6, rfl, hp, by omega, by decide, by decide, fun way H1 w0 w1 hp1 kp1 => ?_⟩
    refine ⟨.ref p, rfl, .int 16, rfl, p, n + 1, 16, rfl, hp1, by omega, by decide, by decide, fun sz H2 z0 z1 hp2 kp2 => ?_⟩
    refine ⟨1, sz, rfl, rfl, by show 2 ≤ sizeLine; decide, fun t nt => ?_⟩
    have st := same_upd (o := .tup [.int way, .int (1 + sz)]) nt
    refine ⟨t, _, rfl, SqT.of upd_same, rfl, _, _, rfl, _, _, rfl, rfl, ?_⟩
    have hp3 := hp2.same st
    have kp3 : Kp p H _ := kp1.trans (kp2.trans (.of st))
    generalize upd H2 t (.tup [.int way, .int (1 + sz)]) = H3 at st hp3 kp3 ⊢
    obtain ⟨m, em⟩ : ∃ m : Nat, 1 + sz = (m : Int) := ⟨(1 + sz).toNat, by omega⟩
    have m1 : 1 ≤ m := by omega
    have m16 : m ≤ 16 := by omega
    refine ⟨.int way, rfl, way, 3, rfl, rfl, _, rfl, ite2 (fun e => ?_) (fun e => ?_)⟩
    · have w3 : way < 3 := of_decide_eq_true e
      refine ⟨.int m, by rw [← em]; rfl, (m : Int), rfl, RgOk.of_le (by decide) (by omega) (by decide) (by omega), fun S nS => ?_⟩
      rw [rgV_range]
      have sS := same_upd (o := .lst ((rangeI m).map V.int)) nS
      have hS : upd H3 S (.lst ((rangeI m).map V.int)) S = some (.lst ((rangeI m).map V.int)) := upd_same
      have hp4 := hp3.same sS
      have kp4 := kp3.trans (.of sS)
      have nSp : S ≠ p := fun z => by
        obtain ⟨_, y⟩ := pot_lst hp3
        rw [z, y] at nS
        cases nS
      generalize upd H3 S (.lst ((rangeI m).map V.int)) = H4 at sS hS hp4 kp4 ⊢
      refine ⟨.ref S, rfl, S, rfl, ⟨_, SqL.of hS⟩, fun L nL => ?_⟩
      have sL := same_upd (o := .lst []) nL
      have nLp : L ≠ p := fun z => by
        obtain ⟨_, y⟩ := pot_lst hp4
        rw [z, y] at nL
        cases nL
      refine lc_list (K := K) (a := S) (xs := (rangeI m).map V.int) (fun i H5 => ∃ (ts : List Addr) (T2 : List (List Int)), H5 L = some (.lst (ts.map V.ref)) ∧ Rows H5 ts T2 ∧ T2.length = i ∧ (∀ row ∈ T2, Good m row) ∧ Pot H5 p (n + 1 + 1 + 17 * i) ∧ Kp p H4 H5)
        ⟨[], [], upd_same, .nil, rfl, fun row h => by simp at h, hp4.same sL, .of sL⟩ (fun i H5 _ h => ?_) ?_ ?_
      · obtain ⟨ts, T2, _, _, _, _, _, kp5⟩ := h
        exact SqL.of (kp5 _ _ nSp hS)
      · rintro i x H5 hx ⟨ts, T2, hL, hR, l2, gd, hp5, kp5⟩
        obtain ⟨y, hy, rfl⟩ := int_at hx
        have im : i < m := by
          have := (List.getElem?_eq_some_iff.mp hy).1
          rw [rangeI_length] at this
          exact this
        have lts : ts.length = i := by rw [Paired.length hR, l2]
        refine ⟨rfl, yesI ⟨.ref p, rfl, .ref S, rfl, .ref p, rfl, .int way, rfl, way, 2, rfl, rfl, p, _, way + 2, rfl, hp5, by omega, by omega, by omega, fun r Ha r0 r1 hpa kpa => ?_⟩⟩
        refine ⟨1, r, rfl, rfl, p, S, _, rangeI m, 1 + r, rfl, hpa, by rw [rangeI_length]; omega, SqL.of (kpa _ _ nSp (kp5 _ _ nSp hS)), nSp, by omega, by omega, fun o ms Hb no sub ho hpb kpb => ?_⟩
        have hLb := kpb _ _ nLp (kpa _ _ nLp hL)
        have noL : o ≠ L := ne_of ho hLb (by intro z; cases z)
        refine ⟨_, hLb, by rw [List.length_map]; exact lenLine (by omega), ts ++ [o], T2 ++ [ms], ?_, ?_, ?_, ?_, ?_, ?_⟩
        · rw [upd_same, List.map_append]
          rfl
        · exact Rows.kt (paired_append ((hR.kp kpa hp5).kp kpb hpa) (.cons ho .nil)) (KT.lst hLb)
        · rw [List.length_append, l2]
          rfl
        · intro row hr'
          rcases List.mem_append.mp hr' with z | z
          · exact gd row z
          · have z' : row = ms := List.mem_singleton.mp z
            rw [z']
            exact good_sub sub
        · obtain ⟨g, t', c, hq, rr1, rr2, rr3, rr4, rr5⟩ := hpb
          rw [rangeI_length] at rr5
          refine ⟨g, t', c, ?_, rr1, rr2, rr3, rr4, by omega⟩
          rw [upd_ne nLp.symm]
          exact hq
        · intro b ob nb hb
          rw [upd_ne (ne_of_none hb nL)]
          exact kpb _ _ nb (kpa _ _ nb (kp5 _ _ nb hb))
      · rintro H5 ⟨ts, T2, hL, hR, l2, gd, hp5, kp5⟩
        rw [List.length_map, rangeI_length] at l2 hp5
        refine ⟨L, _, rfl, .inl ⟨SqL.of hL, fun o no => ?_⟩⟩
        have so := same_upd (o := .tup (ts.map V.ref)) no
        exact q o T2 _ ((hp5.same so).mono (by omega)) (kp4.trans (kp5.trans (.of so))) ⟨ts, upd_same, hR.same so⟩ ⟨by omega, by omega, by rw [l2]; exact gd⟩
    · have w3 : ¬ way < 3 := fun z => e (decide_eq_true z)
      refine ⟨.ref p, rfl, by show 4 ≤ sizeLine; decide, fun u nu => ⟨u, rfl, ⟨_, SqT.of upd_same⟩, fun L nL => ?_⟩⟩
      have su := same_upd (o := .tup [.int 1, .int 2, .int 3, .int 4]) nu
      have hu : upd H3 u (.tup [.int 1, .int 2, .int 3, .int 4]) u = some (.tup [.int 1, .int 2, .int 3, .int 4]) := upd_same
      have hp4 := hp3.same su
      have kp4 := kp3.trans (.of su)
      generalize upd H3 u (.tup [.int 1, .int 2, .int 3, .int 4]) = H4 at su hu hp4 kp4 nL ⊢
      have sL := same_upd (o := .lst []) nL
      have nLp : L ≠ p := fun z => by
        obtain ⟨_, y⟩ := pot_lst hp4
        rw [z, y] at nL
        cases nL
      refine lc_tup (K := K) (a := u) (xs := [1, 2, 3, 4].map V.int) (fun i H5 => H5 L = some (.lst (([1, 2, 3, 4].take i).map V.int)) ∧ Same H4 H5)
        ⟨upd_same, sL⟩ (fun i H5 _ h => SqT.of (h.2 _ _ hu)) ?_ ?_
      · rintro i x H5 hx ⟨hL, s5⟩
        obtain ⟨y, hy, rfl⟩ := int_at hx
        have hym := List.mem_of_getElem? hy
        have yb : 1 ≤ y ∧ y ≤ 4 ∧ y * y ≤ 16 := by
          simp at hym
          obtain rfl | rfl | rfl | rfl := hym
          all_goals decide
        have il : i < 4 := (List.getElem?_eq_some_iff.mp hy).1
        refine ⟨rfl, .int y, rfl, .int y, rfl, y, y, rfl, rfl, .inl ⟨by omega, by omega⟩, .int 16, rfl, _, _, rfl, rfl, _, rfl, ?_⟩
        rw [decide_eq_true yb.2.2]
        refine iteT ⟨.int y, rfl, _, hL, ?_, ?_, ?_⟩
        · rw [List.length_map, List.length_take]
          exact lenLine (by omega)
        · rw [upd_same, List.take_add_one, hy, List.map_append]
          rfl
        · intro b ob hb
          rw [upd_ne (ne_of_none hb nL)]
          exact s5 _ _ hb
      · rintro H5 ⟨hL, s5⟩
        have hL' : H5 L = some (.lst ([1, 2, 3, 4].map V.int)) := hL
        have hp5 := hp4.same s5
        refine ⟨p, L, _, _, rfl, hp5, by omega, SqL.of hL', nLp, by simp, by simp, fun i v H6 hv hp6 kp6 => ?_⟩
        obtain ⟨y, hy, rfl⟩ := int_at hv
        have hym := List.mem_of_getElem? hy
        have yb : 1 ≤ y ∧ y ≤ 4 := by
          simp at hym
          obtain rfl | rfl | rfl | rfl := hym
          all_goals decide
        refine ⟨y.toNat, by rw [show ((y.toNat : Nat) : Int) = y by omega]; rfl, by omega, fun o H7 no s7 hT => ?_⟩
        have rule := named_rule (m := y.toNat) (by omega) (by omega)
        generalize ofPrs (prsTo y.toNat y.toNat) = T0 at hT rule
        have hp7 := hp6.same s7
        have kp7 : Kp p H H7 := kp4.trans ((Kp.of s5).trans (kp6.trans (.of s7)))
        refine ⟨fun σ H' => ∃ (z6 z7 : Option V) (b : Addr) (T : List (List Int)), σ = [some (.ref p), some (.int 16), some (.int way), some (.int m), none, some (.ref b), z6, z7] ∧ Tbl H' b T ∧ IsRule T ∧ Pot H' p (n + 100) ∧ Kp p H H', ?_, ?_⟩
        · refine ⟨.int way, rfl, way, 3, rfl, rfl, _, rfl, ite2 (fun e2 => ?_) (fun e2 => ?_)⟩
          · have hT' := hT
            obtain ⟨rs, ho, hR⟩ := hT'
            have lr : rs.length = T0.length := Paired.length hR
            have lr2 : ((rs.map V.ref).length : Int) = (T0.length : Nat) := by rw [List.length_map, lr]
            have r1 := rule.2.1
            refine ⟨.ref o, rfl, .ref p, rfl, .ref o, rfl, o, _, rfl, .inr (SqT.of ho), _, rfl, ?_, fun S nS => ?_⟩
            · rw [lr2]
              exact RgOk.of_le (by decide) (by omega) (by decide) (by omega)
            · rw [lr2, rgV_range] at *
              have sS := same_upd (o := .lst ((rangeI T0.length).map V.int)) nS
              refine ⟨p, S, _, rangeI T0.length, rfl, hp7.same sS, by rw [rangeI_length]; omega, SqL.of upd_same, fun c ms H8 nc pm hc hp8 kp8 => ?_⟩
              have hT8 := (hT.same sS).kp kp8 (hp7.same sS)
              refine ⟨o, c, T0, ms, rfl, hT8, .inl (SqL.of hc), by omega, pm, fun row hr' => ?_, fun p' T' H9 np' s9 hT9 cl => ?_⟩
              · have g := rule.2.2 row hr'
                have := g.len
                exact ⟨by omega, g.2⟩
              · refine ⟨none, none, p', T', ?_, hT9, called_rule rule pm cl, (hp8.same s9).mono (by rw [rangeI_length]; omega), kp7.trans ((Kp.of sS).trans (kp8.trans (.of s9)))⟩
                rw [← em]
                rfl
          · refine ⟨none, none, o, T0, ?_, hT, rule, hp7.mono (by omega), kp7⟩
            rw [← em]
            rfl
        · rintro σ H8 ⟨z6, z7, b, T, rfl, hT8, rule8, hp8, kp8⟩
          refine ⟨.int way, rfl, rfl, _, rfl, ite2 (fun e3 => ?_) (fun e3 => ?_)⟩
          · exact ⟨.ref p, rfl, .ref b, rfl, p, b, n + 100, T, rfl, hp8, by omega, hT8, rule8, fun c T' H9 nc hp9 kp9 hT9 r9 l9 => q c T' H9 (hp9.mono (by omega)) (kp8.trans kp9) hT9 r9⟩
          · exact ⟨.ref b, rfl, q b T H8 (hp8.mono (by omega)) kp8 hT8 rule8⟩
end
end Nm

namespace Nm
open PySem PySem.Spec PyProof.Rows L2 GL
abbrev sBelow : Stmt := topS 1
/-! sAsc -/
/-! sIsRule -/
theorem scBelow : FnScope ["value", "limit"] ["value", "limit"] (defScope sBelow) := ⟨rfl, rfl, rfl, by decide +kernel, rfl, by decide +kernel, by decide +kernel⟩
theorem isiK {X : Cx} {K : PySem.W.Frag} (hK : X.K = K := by rfl) : CallR X (.builtin "isinstance") (rIsi K) := by
  subst hK
  exact call_isi
theorem chain_pw : ∀ (ns : List Int), (∀ (i : Nat) (a b : Int), ns[i]? = some a → ns[i + 1]? = some b → a < b) → ns.Pairwise (· < ·)
  | [], _ => List.Pairwise.nil
  | [x], _ => List.pairwise_singleton _ _
  | x :: y :: r, h => by
    have hr := chain_pw (y :: r) fun i a b ha hb => h (i + 1) a b (by simpa using ha) (by simpa using hb)
    have h0 := h 0 x y rfl rfl
    refine List.pairwise_cons.mpr ⟨fun z hz => ?_, hr⟩
    rcases List.mem_cons.mp hz with e | e
    · rw [e]
      exact h0
    · exact Int.lt_trans h0 ((List.pairwise_cons.mp hr).1 z e)
section
variable {P : Program} {w : World} {K : PySem.W.Frag} {mg : Str → Option Value} {base : Heap}
/-- what the judging defs lean on -/
structure LibJ (mg : Str → Option Value) : Prop where
  len : mg "len" = none
  isi : mg "isinstance" = none
  bool : mg "bool" = none
  int : mg "int" = none
  tuple : mg "tuple" = none
  range : mg "range" = none
  all : mg "all" = none
def spBelow (K : PySem.W.Frag) : Sp := fun vs H Q _ => ∃ i l : Int, vs = [.int i, .int l] ∧ Q (.bl (decide (0 ≤ i) && decide (i < l))) H
theorem ok_below {f : Addr} {fd : FuncData} {k : Nat} (F : Fun K "is_below" "is_below" sBelow f fd) (B : LibJ mg) : FnOk P w K mg base CX0 (k + 1) f fd ["value", "limit"] (spBelow K) := by
  refine F.ok scBelow (fun vs H Q E h => ?_) (fun cdv A outer s H vs Q E hr h => ?_)
  · obtain ⟨i, l, rfl, _⟩ := h
    rfl
  · obtain ⟨i, l, rfl, q⟩ := h
    refine ⟨_, pss_cons (ps_if (PW.pt (pw_or (pt_val (pe_callB (isiK (K := K)) (by rfl) B.isi (by decide +kernel) (pa_cons (pv 0) (pa_cons (pe_bltn (v := .ty "bool") (by rfl) B.bool (by decide +kernel) rfl) pa_nil))))
        (pw_or1 (pt_not (pt_val (pe_callB (isiK (K := K)) (by rfl) B.isi (by decide +kernel) (pa_cons (pv 0) (pa_cons (pe_bltn (v := .ty "int") (by rfl) B.int (by decide +kernel) rfl) pa_nil))))))))
        (pss_one (ps_ret pe_bl)) pss_nil)
      (pss_one (ps_ret (pe_chain op_le op_lt pe_int (pv 0) (pv 1)))), ?_⟩
    refine ⟨.int i, rfl, _, _, _, _, false, rfl, .ty "bool", .base (.int i), kit_ty (by decide +kernel), _, rfl, iteF ?_⟩
    refine ⟨.int i, rfl, _, _, _, _, true, rfl, .ty "int", .base (.int i), kit_ty (by decide +kernel), _, rfl, iteF ?_⟩
    refine ⟨.int i, rfl, 0, i, rfl, rfl, _, rfl, ?_⟩
    by_cases h0 : 0 ≤ i
    · rw [decide_eq_true h0] at q ⊢
      exact iteT ⟨.int l, rfl, i, l, rfl, rfl, q⟩
    · rw [decide_eq_false h0] at q ⊢
      exact iteF q
/-- a row of ints: ascending, below -/
def spAsc (K : PySem.W.Frag) : Sp := fun vs H Q _ => ∃ (a : Addr) (ns : List Int) (l : Int), vs = [.ref a, .int l] ∧ H a = some (.tup (ns.map V.int)) ∧ ns.length < 1000 ∧ (∀ x ∈ ns, 0 ≤ x ∧ x < l) ∧ ns.Pairwise (· < ·) ∧
  ∀ H', Same H H' → Q (.bl true) H'
/-- a rule is one -/
def spIsRule (K : PySem.W.Frag) : Sp := fun vs H Q _ => ∃ (p : Addr) (T : List (List Int)), vs = [.ref p] ∧ Tbl H p T ∧ IsRule T ∧ ∀ H', Same H H' → Q (.bl true) H'
end
end Nm

/-! The end of a law whose defs ask repr: the caller's around has none under way. -/
namespace GL
open PySem PySem.Spec PyProof.Rows L2
theorem endG {P : Program} {w : World} {K : PySem.W.Frag} {mg mb : Str → Option Value} {k : Nat} {fa a : Addr} {fd : FuncData} {x : Str} {sp : Sp} {s1 : Shared}
    {vs : List Value} {ns : List Int} (kin : K.In s1.heap) (gl : s1.heap.Ns mainGlobals mg) (bl : s1.heap.Ns builtinsNs mb)
    (blb : ∀ x : Str, x ≠ "__name__" → mb x = bootBuiltins x) (nol : s1.heap.NoLimit) (gens : s1.gens = #[])
    (obj : s1.heap.get? a = some { cls := .type "list", data := .seq vs.toArray }) (hints0 : IntsAre vs ns) (few : ns.length ≤ sizeLine) (room : Room k callerA)
    (F : ∀ base : Heap, K.In base → base.Ns mainGlobals mg → FnG P w K mg base k fa fd [x] sp)
    (bind : ∀ (s : Shared) (u : Value), BindsTo s fd ⟨[u], []⟩ [(x, u)])
    (wish : ∀ H : Hp, SqL K H a (ns.map V.int) → sp [.ref a] H (fun v _ => v = .bl true) fun _ _ _ => False) :
    codeAny (model P w) callerA (.call (.ref fa) ⟨[.ref a], []⟩)
      (fun r s' => r = .ok (.ret (.bool true)) ∧ OldK s1.heap s'.heap ∧ s'.os = s1.os ∧ AllBare s'.gens) s1 := by
  have rel := vals_ints hints0
  have lens := hints0.length
  have main : ∀ H : Hp, (∀ b, H b = none ∨ (b = a ∧ ∃ o xs, H b = some (.frz o (.lst xs)))) → SqL K H a (ns.map V.int) → HOk P w H s1.heap → (H a ≠ none → K.lookup a = none) →
      codeAny (model P w) callerA (.call (.ref fa) ⟨[.ref a], []⟩)
        (fun r s' => r = .ok (.ret (.bool true)) ∧ OldK s1.heap s'.heap ∧ s'.os = s1.os ∧ AllBare s'.gens) s1 := by
    intro H only sq hok kl
    have noDict : ∀ {b : Addr} {o : Obj} {es : Array DictEntry} {ep : Nat}, s1.heap.get? b = some o → o.data = .dict es ep → H b = none := by
      intro b o es ep e d
      rcases only b with z | ⟨z, _⟩
      · exact z
      · rw [z, obj] at e
        cases e
        have d' : Data.seq vs.toArray _ = Data.dict es ep := d
        cases d'
    have ns' : ∀ {b : Addr} {m : Str → Option Value}, s1.heap.Ns b m → (hidT s1.heap H).Ns b m := by
      rintro b m ⟨o, es, ep, e, d, r⟩
      exact ⟨o, es, ep, hidT_get e (noDict e d), d, r⟩
    have kin' : K.In (hidT s1.heap H) := by
      intro b o e
      refine hidT_get (kin b o e) ?_
      rcases only b with z | ⟨z, o2, xs, y⟩
      · exact z
      · exfalso
        rw [z] at e y
        have n0 := kl (by rw [y]; intro q; cases q)
        rw [n0] at e
        cases e
    have mo : Mod K mg (hidT s1.heap H) := by
      obtain ⟨mc, h1, h2⟩ := nol
      exact ⟨kin', ns' gl, ⟨mb, ns' bl, blb⟩, ⟨mc, ns' h1, h2⟩⟩
    have env : Env0 P w K mg (hidT s1.heap H) callerA [] s1 H :=
      ⟨rfl, mo, fun b o e => of_hidT e, Nat.le_of_eq (hidT_size _ _), trivial, (fun b hb => by cases hb), hok, .of_eq gens⟩
    have go := (F _ kin' (ns' gl)).does callerA [] s1 H ⟨[.ref a], []⟩ [.ref a] [.ref a] _ _ rfl room env (bind s1 (.ref a)) (.cons rfl .nil) (wish H sq)
    refine codeAny_mono go fun r s' h => ?_
    rcases r with e | fl
    · exact h.elim
    · rcases fl with _ | _ | _ | u
      all_goals try exact False.elim h
      obtain ⟨v, H', os, bare, un, hok', r', q⟩ := h
      obtain rfl : v = .bl true := q
      obtain rfl : u = Value.bool true := r'
      refine ⟨rfl, OldK.of_keep fun b o e => ?_, os, bare⟩
      rcases only b with z | ⟨_, o2, xs, z⟩
      · exact un.keep b o e z (fun y => by cases y) (fun y => by cases y)
      · have z2 := un.frzs b o2 _ z
        obtain ⟨e1, _⟩ := hok b _ z
        obtain ⟨e2, _⟩ := hok' b _ z2
        rw [e] at e1
        cases e1
        exact e2
  rcases hk : K.lookup a with _ | o
  · refine main (fun b => if b = a then some (.frz { cls := .type "list", data := .seq vs.toArray } (.lst (ns.map V.int))) else none) (fun b => ?_) (.inl (.inr ⟨_, if_pos rfl⟩)) (fun b u z => ?_) fun _ => hk
    · by_cases e : b = a
      · exact .inr ⟨e, _, _, if_pos e⟩
      · exact .inl (if_neg e)
    · by_cases e : b = a
      · have y := (if_pos e).symm.trans z
        cases y
        subst e
        exact ⟨obj, by rw [List.length_map]; exact few, vs, _, rel, obj⟩
      · have y := (if_neg e).symm.trans z
        cases y
  · have e := kin a o hk
    rw [obj] at e
    cases e
    refine main (fun _ => none) (fun _ => .inl rfl) (.inr ⟨_, vs.toArray, _, hk, rfl, rfl, rfl, ?_, ?_⟩) (fun b u z => by cases z) fun z => absurd rfl z
    · rw [List.size_toArray, lens]
      exact few
    · simpa using rel
theorem walkG {l : PySem.W.OpenLaw} {n k : Nat} {q : Program} {loose : List Str} {XP : (Str → Option Value) → Heap → Prop} {YP : World → Heap → Prop} {d : DefRec}
    {K : Params → PySem.W.Frag} {sp : World → Sp} {x : Str} (hn : l.most = some n) (hn2 : n ≤ sizeLine) (hdf : d.params.defaults = []) (hr : Room k callerA)
    (hY : ∀ (w : World) (h : Heap), YP w h → (K w.params).In h)
    (F : ∀ (w : World) (mg : Str → Option Value) (fa : Addr) (h : Heap), (K w.params).In h → h.Ns mainGlobals mg → mg d.name = some (.ref fa) →
      ∃ fd : FuncData, (∀ (s : Shared) (u : Value), BindsTo s fd ⟨[u], []⟩ [(x, u)]) ∧
        ∀ base : Heap, (K w.params).In base → base.Ns mainGlobals mg → FnG l.prog w (K w.params) mg base k fa fd [x] (sp w))
    (hsp : ∀ (w : World) (H : Hp) (a : Addr) (ns : List Int), ns.length ≤ n → SqL (K w.params) H a (ns.map V.int) → sp w [.ref a] H (fun v _ => v = .bl true) fun _ _ _ => False) :
    PySem.W.WalkO q loose XP YP l.row.toRowW d [] (fun f vs => PySem.call f vs) := by
  apply Att.attach_call hn hdf
  intro w s0 s1 mg mb fa o pm cd doc a vs ns G Y ho hd hcd hmg hobj hints hlen hg
  obtain ⟨fd, hb, hF⟩ := F w mg fa _ (hY w _ Y) G.T.g hmg
  exact endG (hY w _ Y) G.T.g G.T.b G.T.builtins G.T.nolimit hg hobj hints (Nat.le_trans hlen hn2) hr hF hb fun H hS => hsp w H a ns hlen hS
end GL

namespace Nm
open PySem PySem.Spec PyProof.Rows L2 GL
/-! ### what repr shows -/
def rowD (row : List Int) : PyData := .tuple (row.map PyData.int)
def tblD (T : List (List Int)) : PyData := .tuple (T.map rowD)
theorem dpRow {K : PySem.W.Frag} {H : Hp} {a : Addr} {row : List Int} (h : H a = some (.tup (row.map V.int))) : Dp K H (.ref a) (rowD row) := .tup (SqT.of h) (dpInts row)
theorem dpRows {K : PySem.W.Frag} {H : Hp} : ∀ {rs : List Addr} {T : List (List Int)}, Rows H rs T → DpAll K H (rs.map V.ref) (T.map rowD)
  | _, _, .nil => .nil
  | _, _, .cons h r => .cons (dpRow h) (dpRows r)
theorem dpTbl {K : PySem.W.Frag} {H : Hp} {p : Addr} {T : List (List Int)} (h : Tbl H p T) : Dp K H (.ref p) (tblD T) := by
  obtain ⟨rs, e, r⟩ := h
  exact .tup (SqT.of e) (dpRows r)
/-- small: numbers from 0 to 15 -/
def Sm (row : List Int) : Prop := ∀ x ∈ row, 0 ≤ x ∧ x < 16
theorem num_shown {i : Int} (h0 : 0 ≤ i) (h1 : i < 16) : (PyData.shown (.int i)).length ≤ 2 ∧ PyData.showable (.int i) = true := by
  obtain ⟨n, rfl⟩ : ∃ n : Nat, i = n := ⟨i.toNat, by omega⟩
  have all : ∀ n : Fin 16, (PyData.shown (.int (n.val : Int))).length ≤ 2 ∧ PyData.showable (.int (n.val : Int)) = true := by decide +kernel
  exact all ⟨n, by omega⟩
theorem row_piled : ∀ (row : List Int), Sm row → piled (PyData.shownAll (row.map PyData.int)) ≤ 4 * row.length ∧ PyData.showableAll (row.map PyData.int) = true ∧ PyData.hasDictAll (row.map PyData.int) = false
  | [], _ => by simp [PyData.shownAll, PyData.showableAll, PyData.hasDictAll, piled_nil]
  | x :: r, h => by
    have h1 := num_shown (h x List.mem_cons_self).1 (h x List.mem_cons_self).2
    have ih := row_piled r fun y hy => h y (List.mem_cons_of_mem _ hy)
    refine ⟨?_, ?_, ?_⟩
    · rw [List.map_cons, PyData.shownAll, piled_cons, List.length_cons]
      omega
    · simp [PyData.showableAll, h1.2, ih.2.1]
    · simp [PyData.hasDictAll, PyData.hasDict, ih.2.2]
structure Shows (d : PyData) (n : Nat) : Prop where
  ok : d.showable = true
  nd : d.hasDict = false
  len : d.shown.length ≤ n
theorem shows_row {row : List Int} (h : Sm row) : Shows (rowD row) (4 * row.length + 2) := by
  obtain ⟨h1, h2, h3⟩ := row_piled row h
  refine ⟨by simpa [rowD, PyData.showable] using h2, by simpa [rowD, PyData.hasDict] using h3, ?_⟩
  have := fmt_text (PyData.shownAll (row.map PyData.int))
  show (tupleText (PyData.shownAll (row.map PyData.int))).length ≤ _
  omega
theorem rows_piled : ∀ (T : List (List Int)), (∀ row ∈ T, Sm row ∧ row.length ≤ 16) → piled (PyData.shownAll (T.map rowD)) ≤ 70 * T.length ∧ PyData.showableAll (T.map rowD) = true ∧ PyData.hasDictAll (T.map rowD) = false
  | [], _ => by simp [PyData.shownAll, PyData.showableAll, PyData.hasDictAll, piled_nil]
  | row :: T, h => by
    have h0 := h row List.mem_cons_self
    have h1 := shows_row h0.1
    have ih := rows_piled T fun y hy => h y (List.mem_cons_of_mem _ hy)
    have l1 := h1.len
    refine ⟨?_, ?_, ?_⟩
    · rw [List.map_cons, PyData.shownAll, piled_cons, List.length_cons]
      omega
    · simp [PyData.showableAll, h1.ok, ih.2.1]
    · simp [PyData.hasDictAll, h1.nd, ih.2.2]
theorem shows_tbl {T : List (List Int)} (h : ∀ row ∈ T, Sm row ∧ row.length ≤ 16) : Shows (tblD T) (70 * T.length + 2) := by
  obtain ⟨h1, h2, h3⟩ := rows_piled T h
  refine ⟨by simpa [tblD, PyData.showable] using h2, by simpa [tblD, PyData.hasDict] using h3, ?_⟩
  have := fmt_text (PyData.shownAll (T.map rowD))
  show (tupleText (PyData.shownAll (T.map rowD))).length ≤ _
  omega
theorem shows_three {a b c : PyData} {l m n : Nat} (ha : Shows a l) (hb : Shows b m) (hc : Shows c n) : Shows (.tuple [a, b, c]) (l + m + n + 8) := by
  refine ⟨by simp [PyData.showable, PyData.showableAll, ha.ok, hb.ok, hc.ok], by simp [PyData.hasDict, PyData.hasDictAll, ha.nd, hb.nd, hc.nd], ?_⟩
  have h1 := fmt_text (PyData.shownAll [a, b, c])
  have h2 : piled (PyData.shownAll [a, b, c]) = (a.shown.length + 2) + ((b.shown.length + 2) + ((c.shown.length + 2) + 0)) := by
    simp only [PyData.shownAll, piled_cons, piled_nil]
  have e1 := ha.len
  have e2 := hb.len
  have e3 := hc.len
  show (tupleText (PyData.shownAll [a, b, c])).length ≤ _
  omega
theorem depth_row (row : List Int) : (rowD row).depth = 1 := by simp [rowD, PyData.depth, deepInts]
theorem depth_rows : ∀ T : List (List Int), PyData.depthAll (T.map rowD) ≤ 1
  | [] => by simp [PyData.depthAll]
  | row :: T => by
    have := depth_rows T
    rw [List.map_cons, PyData.depthAll, depth_row]
    omega
theorem depth_tbl (T : List (List Int)) : (tblD T).depth ≤ 2 := by
  have := depth_rows T
  rw [tblD, PyData.depth]
  omega
theorem lineBig {n : Nat} (h : n ≤ 100000) : n ≤ sizeLine := Nat.le_trans h (by decide)
theorem good_sm {n : Nat} {row : List Int} (h : Good n row) (hn : n ≤ 16) : Sm row ∧ row.length ≤ 16 := by
  have := h.len
  exact ⟨fun x hx => ⟨(h.2 x hx).1, by have := (h.2 x hx).2; omega⟩, by omega⟩
theorem rule_sm {T : List (List Int)} (r : IsRule T) : ∀ row ∈ T, Sm row ∧ row.length ≤ 16 := fun row h => good_sm (r.2.2 row h) r.2.1
/-- repr of a table -/
structure ShT (T : List (List Int)) : Prop where
  a : (tblD T).showable = true
  b : (tblD T).hasDict = false
  c : (tblD T).depth ≤ 20
  d : (tblD T).shown.length ≤ sizeLine
theorem shT {T : List (List Int)} (r : IsRule T) : ShT T := by
  have s := shows_tbl (rule_sm r)
  have dt := depth_tbl T
  have l := s.len
  have := r.2.1
  exact ⟨s.ok, s.nd, by omega, lineBig (by omega)⟩
end Nm

/-! set(t), t a tuple of tuples of ints; the size of such a set -/
namespace GL
open PySem PySem.Spec PyProof.Rows L2
section
variable {P : Program} {w : World} {A : Around} {E : Value → Shared → Prop} {s : Shared}
abbrev freshSet (w : World) : Obj := { cls := .type "set", dict := none, data := .set #[] 0 (.fresh 0 0 (!w.params.followText "set-order")) }
set_option maxRecDepth 100000 in
set_option maxHeartbeats 3200000 in
theorem setOfTup {l : Addr} {items : Array Value} (ks : List (Addr × List Int)) {Q : Value → Shared → Prop} (hh : A.handled = none) (hl : s.heap.IsTuple l items)
    (hit : items.toList = ks.map fun p => Value.ref p.1) (hk : ∀ p ∈ ks, IsT P w s.heap p.2 p.1) (hfew : ks.length < 64) (hu : A.units + 3 < cLine)
    (h : ∀ (h' : Heap) (tk : Nat) L es ep t, SetTR P w h' s.heap.objs.size L es ep t → Got ks ks.length L → (∀ b o, s.heap.get? b = some o → h'.get? b = some o) → Q (.ref s.heap.objs.size) { s with heap := h', toks := tk }) :
    wpAny (model P w) A (call (.type "set") [.ref l]) Q E s := by
  have size0 : items.size = ks.length := by
    have z := congrArg List.length hit
    rw [Array.length_toList, List.length_map] at z
    exact z
  obtain ⟨c, tl, hmro⟩ := F.called_set.mro
  have hmade := F.called_set.made
  have hsub := F.called_set.sub
  apply wpAny_call
  apply codeAny_of_tree
  show wpAny _ _ (callAny (.type "set") _) _ _ _
  refine wpAny_pure ⟨Code.quiet_builtin _ (by decide +kernel), ?_⟩
  refine codeAny_builtin F.entry_type_call ?_
  rw [Around.under_plain (weight_type_call_type "set" [.ref l] []) rfl]
  have h1 := F.called_set.notType
  have h2 := F.called_set.canCreate
  have hct := F.typeCall_set_1 (.ref l)
  repeat (any_goals (first | assumption | wp_step))
  refine codeAny_mono (code_set_led1 (.ref l) (E := E) (Q₁ := fun ob s₁ => ob = .ref s.heap.objs.size ∧ s₁ = { s with heap := s.heap.push (freshSet w) }) ⟨rfl, rfl⟩) fun r s₁ hr => ?_
  rcases r with e | fl
  · exact hr
  · rcases fl with _ | _ | _ | ob
    all_goals try exact hr.elim
    obtain ⟨rfl, rfl⟩ := hr
    have hS : (s.heap.push (freshSet w)).get? s.heap.objs.size = some (freshSet w) := Heap.get?_push_size _ rfl
    have hT : Shared.TypeIs { s with heap := s.heap.push (freshSet w) } (.ref s.heap.objs.size) "set" := ⟨_, hS, rfl⟩
    have hli := F.called_set.init.lookup
    have hbi := F.called_set.init.bind (.ref s.heap.objs.size)
    repeat (any_goals (first | assumption | wp_step))
    refine codeAny_mono (codeAny_call_builtin (R := wants (fun r s₂ => r = .none ∧ ∃ h' tk L es ep t, s₂ = { s with heap := h', toks := tk } ∧ SetTR P w h' s.heap.objs.size L es ep t ∧ Got ks ks.length L ∧
        (∀ b o, s.heap.get? b = some o → h'.get? b = some o)) E) F.called_set.init.plain F.entry_set_init (check_set_init_1 hT ?_)) fun r₂ s₂ hr₂ => ?_
    · obtain ⟨⟨ocls, odict, odata, oslots⟩, hol, hcl, nl, hdl⟩ := hl
      simp only at hcl hdl
      subst hcl
      subst hdl
      have hol' : (s.heap.push (freshSet w)).get? l = some { cls := .type "tuple", dict := odict, data := .seq items nl, slots := oslots } := Heap.get?_push_of_some _ hol
      have no1 := F.sub_tuple_set
      have no2 := F.sub_tuple_frozenset
      have no3 : (Value.type "tuple" == Value.type "dict") = false := by decide
      have hl1 : (s.heap.push (freshSet w)).IsTuple l items := ⟨_, hol', rfl, nl, rfl⟩
      unfold Builtin.«set.__init__» noKeywords Builtin.Frozenset.updateFrom
      generalize hPI : pyIter = PI
      wp_walk
      subst hPI
      refine wpAny_pyIter_tuple hl1 ?_
      refine wpAny_bind (wpAny_runValue ?_)
      have ll : l < s.heap.objs.size := Heap.lt_size hol
      have hh3 : A.in1.in1.in1.handled = none := by simp [hh]
      have nI : l ≠ (s.heap.push (freshSet w)).objs.size := by
        rw [Heap.size_push]
        exact Nat.ne_of_lt (Nat.lt_succ_of_lt ll)
      have nS : s.heap.objs.size ∉ [(s.heap.push (freshSet w)).objs.size, l] := by
        rw [Heap.size_push]
        simp only [List.mem_cons, List.mem_singleton, List.not_mem_nil, or_false, not_or]
        exact ⟨Nat.ne_of_lt (Nat.lt_succ_self _), Nat.ne_of_gt ll⟩
      have vals : ∀ (i : Nat) (v : Value), items[i]? = some v → ∃ p, ks[i]? = some p ∧ v = .ref p.1 := by
        intro i v hv
        have z : items.toList[i]? = some v := by
          rw [Array.getElem?_toList]
          exact hv
        rw [hit, List.getElem?_map] at z
        rcases hq : ks[i]? with _ | p
        · rw [hq] at z
          cases z
        · rw [hq] at z
          exact ⟨p, rfl, (Option.some.inj z).symm⟩
      have none_of : ∀ b, s.heap.objs.size ≤ b → s.heap.get? b = none := by
        intro b hb
        rcases q : s.heap.get? b with _ | o
        · rfl
        · exact absurd (Nat.lt_of_lt_of_le (Heap.lt_size q) hb) (Nat.lt_irrefl _)
      refine set_update_tups ((Walks.tuple hh3 _ l nI items).toS) s.heap.objs.size nS ks size0 hfew vals s.heap hk (none_of _ (Nat.le_refl _)) (fun b hb => none_of b ?_) hu (items.size - 0) 0 _ (by omega) (Nat.zero_le _)
        ⟨⟨_, Heap.get?_push_size _ rfl, rfl, rfl⟩, (hl1.at fun o e => Heap.get?_push_of_some _ e)⟩ (fun b o e => Heap.get?_push_of_some _ (Heap.get?_push_of_some _ e)) ?hS0 ?hR
      · rw [List.mem_singleton.mp hb, Heap.size_push]
        exact Nat.le_succ _
      case hS0 =>
        exact ⟨[], #[], 0, _, setTR_fresh (Heap.get?_push_of_some _ hS), Got.zero ks⟩
      case hR =>
        intro s' L es ep t hm hS' g' hkp
        obtain ⟨h', g2, d', tk', os'⟩ := s'
        obtain rfl : g2 = s.gens := hm.gens
        obtain rfl : d' = s.drawn := hm.drawn
        obtain rfl : os' = s.os := hm.os
        show wpAny _ _ _ _ _ _
        refine wpAny_pure ?_
        show wpAny _ _ (ret Value.none) _ _ _
        rw [size0] at g'
        exact wpAny_pure ⟨rfl, h', tk', L, es, ep, t, rfl, hS', g', hkp⟩
    · rcases r₂ with e | fl₂
      · exact hr₂
      · rcases fl₂ with _ | _ | _ | r
        all_goals try exact hr₂.elim
        obtain ⟨rfl, h', tk, L, es, ep, t, rfl, hS', g', hk'⟩ := hr₂
        repeat (any_goals (first | assumption | wp_step))
        exact h _ _ _ _ _ _ hS' g' hk'
end
section
variable {X : Cx}
/-- set(t), t a tuple of tuples of ints -/
def rSetTT (K : PySem.W.Frag) (P : Program) (w : World) : List V → Hp → VK → Prop := fun xs H Q => ∃ (l : Addr) (ks : List (Addr × List Int)), xs = [V.ref l] ∧ SqT K H l (ks.map fun p => V.ref p.1) ∧ (∀ p ∈ ks, SqT K H p.1 (p.2.map V.int)) ∧ ks.length < 64 ∧
  ∀ a L, H a = none → (∀ p ∈ L, p ∈ ks) → (∀ p ∈ ks, p.2 ∈ L.map (·.2)) → (L.map (·.2)).Nodup → Q (.ref a) (upd H a (SetTO P w a L))
theorem setTT {K : PySem.W.Frag} (hc : X.calm = true) (hu : X.A.units + 64 < cLine) (hK : X.K = K := by rfl) : CallR X (.type "set") (rSetTT K X.prog X.w) := by
  subst hK
  intro pins s σ H xs us Q I r h
  obtain ⟨l, ks, rfl, hl, hk, hf, q⟩ := h
  rw [Vals.ref1 r]
  obtain ⟨its, rv, tp, hz⟩ := I.tuple hl
  refine setOfTup (P := X.prog) (w := X.w) ks (I.ok.hd hc) tp (by simpa using refs_of_vals rv) (fun p hp => I.isT (hk p hp)) hf (by omega) fun h' tk L es ep t R g k => ?_
  refine ⟨.ref s.heap.objs.size, upd H s.heap.objs.size (SetTO X.prog X.w s.heap.objs.size L), I.laid (t' := tk) k (Nat.le_refl _) (setTO_new R.t0), rfl, q _ L (I.hok.fresh (Nat.le_refl _)) (fun p hp => ?_) (fun p hp => ?_) R.nd⟩
  · exact List.mem_of_mem_take (g.sub p hp)
  · refine g.all p ?_
    rw [List.take_length]
    exact hp
/-- the size of such a set -/
theorem lenSetT {K : PySem.W.Frag} (hK : X.K = K := by rfl) : CallR X (.builtin "len") (fun xs H Q => ∃ (a : Addr) (L : List (Addr × List Int)), xs = [V.ref a] ∧ H a = some (SetTO X.prog X.w a L) ∧ (∀ p ∈ L, SqT K H p.1 (p.2.map V.int)) ∧ Q (.int L.length) H) := by
  subst hK
  intro pins s σ H xs us Q I r h
  obtain ⟨a, L, rfl, ha, hk, q⟩ := h
  rw [Vals.ref1 r]
  have R0 : SetT0 X.prog X.w s.heap a L := (I.hok a _ ha).1
  obtain ⟨es, ep, t, R⟩ := R0.full fun p hp => I.isT (hk p hp)
  obtain ⟨o, ho, hex, hd⟩ := R.ob
  have sz := R.size
  have few := R.few
  refine call_len_set ho hex hd R.fits (by omega) ?_
  rw [sz]
  exact ⟨.int _, H, I.tok _, ⟨_, rfl⟩, q⟩
end
end GL

namespace Nm
open PySem PySem.Spec PyProof.Rows L2 GL
abbrev sRuleOf : Stmt := topS 3
/-! sNamedRule -/
abbrev sSide : Stmt := topS 4
abbrev sIsPair : Stmt := topS 5
abbrev sDiff : Stmt := topS 6
abbrev sShows : Stmt := topS 7
theorem scRuleOf : FnScope ["names", "rows", "pair", "other"] ["names"] (defScope sRuleOf) := ⟨rfl, rfl, rfl, by decide +kernel, rfl, by decide +kernel, by decide +kernel⟩
theorem scSide : FnScope ["count", "side"] ["count"] (defScope sSide) := ⟨rfl, rfl, rfl, by decide +kernel, rfl, by decide +kernel, by decide +kernel⟩
theorem scIsPair : FnScope ["value", "values"] ["value", "values"] (defScope sIsPair) := ⟨rfl, rfl, rfl, by decide +kernel, rfl, by decide +kernel, by decide +kernel⟩
theorem scDiff : FnScope ["value", "values", "pair"] ["value", "values"] (defScope sDiff) := ⟨rfl, rfl, rfl, by decide +kernel, rfl, by decide +kernel, by decide +kernel⟩
theorem scShows : FnScope ["rule", "value", "values"] ["rule", "value"] (defScope sShows) := ⟨rfl, rfl, rfl, by decide +kernel, rfl, by decide +kernel, by decide +kernel⟩
/-! ### a walk over a list or a tuple by its name -/
def TkS (H : Hp) (a : Addr) (xs : List V) : Prop := H a = some (.lst xs) ∨ H a = some (.tup xs)
theorem TkS.sq {K : PySem.W.Frag} {H : Hp} {a : Addr} {xs : List V} (h : TkS H a xs) : Sq K H a xs := h.elim (fun z => .inl (SqL.of z)) fun z => .inr (SqT.of z)
theorem TkS.same {H H' : Hp} {a : Addr} {xs : List V} (h : TkS H a xs) (s : Same H H') : TkS H' a xs := h.elim (fun z => .inl (s _ _ z)) fun z => .inr (s _ _ z)
theorem TkS.ne {H : Hp} {a b : Addr} {xs : List V} (h : TkS H a xs) (n : H b = none) : a ≠ b := h.elim (fun z => ne_of_none z n) fun z => ne_of_none z n
theorem TkS.eq {H H' : Hp} {a : Addr} {xs : List V} (h : TkS H a xs) (s : Same H H') : H' a = H a := h.elim (fun z => by rw [z]; exact s _ _ z) fun z => by rw [z]; exact s _ _ z
def iSeqV (i : Nat) : TI := fun σ H R => ∃ a xs, σ[i]? = some (some (.ref a)) ∧ TkS H a xs ∧ ∀ (J : It) (G : Hp → Prop), Walk J xs.length G (YAt xs) → (∀ H', H' a = H a → G H') → R J H
theorem piSeqV {X : Cx} (i : Nat) {tg : Expr} {x : Str} {pos : Pos} (h : PE X (.Name x pos) (tVar i)) : PI X tg (.Name x pos) (iSeqV i) := by
  constructor
  intro pins s σ H R I hw
  obtain ⟨a, xs, e, q1 | q1, q2⟩ := hw
  · exact (pi_list h).run pins s σ H R I ⟨_, e, a, rfl, ⟨_, SqL.of q1⟩, q2 _ _ walk_list fun H' sm => SqL.of (sm.trans q1)⟩
  · exact (pi_tup h).run pins s σ H R I ⟨_, e, a, rfl, ⟨_, SqT.of q1⟩, q2 _ _ walk_tup fun H' sm => SqT.of (sm.trans q1)⟩
section
variable {P : Program} {w : World} {K : PySem.W.Frag} {mg : Str → Option Value} {base : Heap}
/-! ### rule_of -/
def spRuleOf (K : PySem.W.Frag) : Sp := fun vs H Q _ => ∃ (a : Addr) (rs : List Addr) (ps : List (Int × Int)), vs = [.ref a] ∧ TkS H a (rs.map V.ref) ∧ PR H rs ps ∧ ps.length ≤ 64 ∧
  ∀ (o : Addr) (H' : Hp), H o = none → Same H H' → Tbl H' o (ofPrs ps) → Q (.ref o) H'
theorem ok_ruleof {f : Addr} {fd : FuncData} {k : Nat} (F : Fun K "rule_of" "rule_of" sRuleOf f fd) (B : LibJ mg) : FnOk P w K mg base CX0 (k + 1) f fd ["names"] (spRuleOf K) := by
  refine F.ok scRuleOf (fun vs H Q E h => ?_) (fun cdv A outer s H vs Q E hr h => ?_)
  · obtain ⟨a, rs, ps, rfl, _⟩ := h
    rfl
  · obtain ⟨a, rs, ps, rfl, hS, hP, lp, q⟩ := h
    refine ⟨_, pss_cons (ps_set (i := 1) scRuleOf.nd rfl (.inl rfl) (pe_lst pa_nil))
      (pss_cons (ps_for PassesOwn.never rfl (piSeqV 0 (pv 0)) (pg_name (i := 2) scRuleOf.nd rfl (.inr rfl))
        (pss_one (ps_expr (pe_bm PySem.F.plainAttrs_list PySem.F.slot_list_append PySem.F.type_list_append mt_append (pv 1) (pa_cons
          (pe_callTy (tupOfK (K := K)) (by rfl) B.tuple (by decide +kernel) (pa_cons
            (pe_lc (own := [("other", 3)]) (g := gName 3) (by rfl) scRuleOf.nd (pi_range1 (by rfl) B.range (pa_cons (pe_callB (lenK (K := K)) (by rfl) B.len PySem.boot_len (pa_cons (pv 0) pa_nil)) pa_nil))
              (blkOk_by (own := [("other", 3)]) (N := ["names", "rows", "pair", "other"]) (sc := defScope sRuleOf) (by decide +kernel))
              (fun _ _ _ _ _ => pg_name (i := 3) scRuleOf.nd rfl (Or.inl rfl))
              (fun _ _ _ _ _ => pts_one (pt_cmpR op_eq (pe_ix (ixTupK (K := K)) (pe_ix (ixSeqK (K := K)) (pv 0) (pv 3) (fun _ _ => rfl)) pe_int (fun _ _ => rfl)) (pe_ix (ixTupK (K := K)) (pv 2) pe_int (fun _ _ => rfl)) (nomark _)))
              (fun _ _ _ _ _ => pv 3)) pa_nil)) pa_nil)))))
      (pss_one (ps_ret (pe_callTy (tupOfK (K := K)) (by rfl) B.tuple (by decide +kernel) (pa_cons (pv 1) pa_nil))))), ?_⟩
    have lr : rs.length = ps.length := Paired.length hP
    refine ⟨Nat.zero_le _, fun L nL => ?_⟩
    have sL := same_upd (o := .lst []) nL
    refine ⟨a, rs.map V.ref, rfl, hS.same sL, fun J G wk hG => for_it wk
      (fun i σ H' => ∃ (y2 y3 : Option V) (ts : List Addr), σ = [some (.ref a), some (.ref L), y2, y3] ∧ H' L = some (.lst (ts.map V.ref)) ∧ Rows H' ts ((ofPrs ps).take i) ∧ Same H H')
      ⟨none, none, [], rfl, upd_same, .nil, sL⟩ (fun i σ H' _ h => ?_) ?_ ?_⟩
    · obtain ⟨_, _, _, _, _, _, sm⟩ := h
      exact hG H' ((hS.eq sm).trans (hS.eq sL).symm)
    · rintro i x σ H1 H2 hi ⟨y2, y3, ts, rfl, hL, hR, sm⟩ ⟨rfl, hx⟩
      obtain ⟨b, hb, rfl⟩ := ref_at hx
      obtain ⟨m, hm, hq⟩ := paired_get hP hb
      have hq1 := sm _ _ hq
      have hi' : i < ps.length := (List.getElem?_eq_some_iff.mp hm).1
      have lts : ts.length ≤ 64 := by
        rw [Paired.length hR, List.length_take]
        omega
      have hS1 := hS.same sm
      have ln : ((rs.map V.ref).length : Int).toNat = ps.length := by
        rw [List.length_map]
        omega
      refine ⟨.ref L, rfl, .inl ⟨rfl, _, SqL.of hL⟩, .ref a, rfl, a, _, rfl, (hS1.sq : Sq K _ a _), _, rfl, by rw [List.length_map]; omega, by rw [List.length_map]; omega, fun D nD => ?_⟩
      rw [ln]
      have sD := same_upd (o := .lst []) nD
      refine lc_range (lo := 0) (n := ps.length) (fun j H3 => H3 D = some (.lst ((rowTo ps m.2 j).map V.int)) ∧ Same H2 H3) ⟨upd_same, sD⟩ ?_ ?_
      · rintro j H3 hj ⟨hD, s3⟩
        obtain ⟨c, hc⟩ : ∃ c, rs[j]? = some c := ⟨_, List.getElem?_eq_getElem (by omega)⟩
        obtain ⟨m', hm', hq'⟩ := paired_get hP hc
        have lj := rowTo_length ps m.2 j
        refine ⟨rfl, .ref a, rfl, .int (0 + j), rfl, rIx_of ((hS1.same s3).sq) (v := .ref c) ?_ ?_⟩
        · rw [Int.zero_add]
          exact atI_nat (by rw [List.getElem?_map, hc]; rfl)
        refine ⟨c, _, 0, _, rfl, rfl, SqT.of (s3 _ _ (sm _ _ hq')), rfl, .ref b, rfl, b, _, 1, _, rfl, rfl, SqT.of (s3 _ _ hq1), rfl, rfl, _, rfl, ite2 (fun e => ?_) (fun e => ?_)⟩
        · have e' : m'.1 = m.2 := V.int.inj (of_decide_eq_true e)
          refine ⟨_, rfl, _, hD, ?_, ?_, ?_⟩
          · rw [List.length_map]
            exact lenLine (by omega)
          · rw [upd_same, rowTo_yes (by rw [hm', ← e']; rfl), List.map_append, Int.zero_add]
            rfl
          · intro d o hd
            rw [upd_ne (ne_of_none hd nD)]
            exact s3 _ _ hd
        · have e' : m'.1 ≠ m.2 := fun z => e (decide_eq_true (congrArg V.int z))
          refine ⟨?_, s3⟩
          rw [rowTo_no (by rw [hm']; exact fun z => e' (Option.some.inj z))]
          exact hD
      · rintro H3 ⟨hD, s3⟩
        refine ⟨D, _, rfl, .inl ⟨SqL.of hD, fun t nt => ?_⟩⟩
        have st := same_upd (o := .tup ((rowTo ps m.2 ps.length).map V.int)) nt
        have hL3 := st _ _ (s3 _ _ hL)
        refine ⟨L, _, _, rfl, rfl, hL3, by rw [List.length_map]; exact lenLine (by omega), _, _, ts ++ [t], rfl, ?_, ?_, ?_⟩
        · rw [upd_same, List.map_append]
          rfl
        · have e : (ofPrs ps).take (i + 1) = (ofPrs ps).take i ++ [rowTo ps m.2 ps.length] := by
            rw [List.take_add_one]
            unfold ofPrs
            rw [List.getElem?_map, hm]
            rfl
          rw [e]
          exact Rows.kt (paired_append (hR.same (s3.trans st)) (.cons upd_same .nil)) (KT.lst hL3)
        · intro d o hd
          rw [upd_ne (ne_of_none hd nL)]
          exact st _ _ (s3 _ _ (sm _ _ hd))
    · rintro σ H1 ⟨y2, y3, ts, rfl, hL, hR, sm⟩
      rw [List.length_map, lr, show ps.length = (ofPrs ps).length by unfold ofPrs; rw [List.length_map], List.take_length] at hR
      refine ⟨.ref L, rfl, L, _, rfl, .inl ⟨SqL.of hL, fun o no => ?_⟩⟩
      have so := same_upd (o := .tup (ts.map V.ref)) no
      exact q o _ (sm.free no) (sm.trans so) ⟨ts, upd_same, hR.same so⟩
/-! ### named_rule -/
def spNamedRule (K : PySem.W.Frag) : Sp := fun vs H Q _ => ∃ n : Nat, vs = [.int n] ∧ n ≤ 4 ∧ ∀ (o : Addr) (H' : Hp), Same H H' → Tbl H' o (ofPrs (prsTo n n)) → Q (.ref o) H'
/-! ### side_of -/
def spSide (K : PySem.W.Frag) : Sp := fun vs H Q _ => ∃ n : Nat, vs = [.int n] ∧ n ≤ 10000 ∧ (∀ s : Nat, s * s = n → Q (.int s) H) ∧ ((∀ s : Nat, s * s ≠ n) → Q .non H)
theorem sq_lt {a b : Nat} (h : a < b) : a * a < b * b := Nat.mul_lt_mul_of_lt_of_le h (Nat.le_of_lt h) (by omega)
theorem ok_side {f : Addr} {fd : FuncData} {k : Nat} (F : Fun K "side_of" "side_of" sSide f fd) : FnOk P w K mg base CX0 (k + 1) f fd ["count"] (spSide K) := by
  refine F.ok scSide (fun vs H Q E h => ?_) (fun cdv A outer s H vs Q E hr h => ?_)
  · obtain ⟨n, rfl, _⟩ := h
    rfl
  · obtain ⟨n, rfl, hn, q1, q2⟩ := h
    refine ⟨_, pss_cons (ps_set (i := 1) scSide.nd rfl (.inl rfl) pe_int)
      (pss_cons (ps_while PassesOwn.never (pt_cmpR op_lt (pe_op op_mul (pv 1) (pv 1)) (pv 0) (nomark _)) (pss_one (ps_aug (i := 1) scSide.nd rfl (.inl rfl) pe_int ip_add)))
      (pss_one (ps_ret (pe_ifExp (pt_cmpR op_eq (pe_op op_mul (pv 1) (pv 1)) (pv 0) (nomark _)) (pv 1) pe_non)))), ?_⟩
    refine ⟨fun m σ H' => H' = H ∧ ∃ t : Nat, σ = [some (.int n), some (.int t)] ∧ m = n - t ∧ t ≤ n ∧ ∀ u : Nat, u < t → u * u < n, ⟨n, rfl, 0, rfl, by omega, by omega, fun u hu => absurd hu (Nat.not_lt_zero _)⟩, ?_⟩
    rintro m σ H' ⟨rfl, t, rfl, rfl, ht, hl⟩
    refine ⟨.int t, rfl, .int t, rfl, (t : Int), (t : Int), rfl, rfl, .inl ⟨by omega, by omega⟩, .int n, rfl, _, _, rfl, rfl, _, rfl, ite2 (fun e => ?_) (fun e => ?_)⟩
    · have hlt : (t : Int) * t < n := of_decide_eq_true e
      have hlt' : t * t < n := by exact_mod_cast hlt
      have tl : t < n := by
        rcases Nat.eq_zero_or_pos t with z | z
        · subst z
          simpa using hlt'
        · exact Nat.lt_of_le_of_lt (Nat.le_mul_of_pos_left t z) hlt'
      refine ⟨fun σ H2 => H2 = H' ∧ σ = [some (.int n), some (.int (t + 1 : Nat))], fun σ' H2 z => ?_, ?_⟩
      · obtain ⟨z1, z2⟩ := z
        refine ⟨n - (t + 1), by omega, z1, t + 1, z2, rfl, by omega, fun u hu => ?_⟩
        rcases Nat.lt_or_ge u t with y | y
        · exact hl u y
        · have : u = t := by omega
          rw [this]
          exact hlt'
      · exact ⟨.int t, rfl, (t : Int), 1, rfl, rfl, rfl, rfl⟩
    · have hge : ¬ (t : Int) * t < n := fun z => e (decide_eq_true z)
      have hge' : ¬ t * t < n := fun z => hge (by exact_mod_cast z)
      refine ⟨.int t, rfl, .int t, rfl, (t : Int), (t : Int), rfl, rfl, .inl ⟨by omega, by omega⟩, .int n, rfl, rfl, _, rfl, ite2 (fun e2 => ?_) (fun e2 => ?_)⟩
      · have z : (t : Int) * t = n := V.int.inj (of_decide_eq_true e2)
        exact ⟨.int t, rfl, q1 t (by exact_mod_cast z)⟩
      · refine q2 fun u hu => ?_
        rcases Nat.lt_trichotomy u t with y | y | y
        · have := hl u y
          omega
        · subst y
          refine e2 (decide_eq_true (congrArg V.int ?_))
          exact_mod_cast hu
        · have := sq_lt y
          omega
/-! ### is_pair -/
def bel (x l : Int) : Bool := decide (0 ≤ x) && decide (x < l)
def spIsPair (K : PySem.W.Frag) : Sp := fun vs H Q _ => ∃ (a : Addr) (x y l : Int), vs = [.ref a, .int l] ∧ H a = some (.tup [.int x, .int y]) ∧ Q (.bl (bel x l && bel y l)) H
theorem ok_ispair {f fB : Addr} {fd dB : FuncData} {k : Nat} (F : Fun K "is_pair" "is_pair" sIsPair f fd) (FB : Fun K "is_below" "is_below" sBelow fB dB) (bB : Binds K dB ["value", "limit"] []) (gB : mg "is_below" = some (.ref fB)) (B : LibJ mg) :
    FnOk P w K mg base CX0 (k + 2) f fd ["value", "values"] (spIsPair K) := by
  have GB : FnOk P w K mg base CX0 (k + 1) fB dB ["value", "limit"] (spBelow K) := ok_below FB B
  refine F.ok scIsPair (fun vs H Q E h => ?_) (fun cdv A outer s H vs Q E hr h => ?_)
  · obtain ⟨a, x, y, l, rfl, _⟩ := h
    rfl
  · obtain ⟨a, x, y, l, rfl, ha, q⟩ := h
    refine ⟨_, pss_cons (ps_if (PW.pt (pw_or (pt_not (pt_val (pe_callB (isiK (K := K)) (by rfl) B.isi (by decide +kernel) (pa_cons (pv 0) (pa_cons (pe_bltn (v := .ty "tuple") (by rfl) B.tuple (by decide +kernel) rfl) pa_nil)))))
        (pw_or1 (pt_cmpR op_ne (pe_callB (lenK (K := K)) (by rfl) B.len PySem.boot_len (pa_cons (pv 0) pa_nil)) pe_int (nomark _))))) (pss_one (ps_ret pe_bl)) pss_nil)
      (pss_one (ps_ret (pe_and (pe_call GB hr (by rfl) gB FB.kp bB .nil pass0 (pa_cons (pe_ix (ixTupK (K := K)) (pv 0) pe_int (fun _ _ => rfl)) (pa_cons (pv 1) pa_nil)))
        (pe_one (pe_call GB hr (by rfl) gB FB.kp bB .nil pass0 (pa_cons (pe_ix (ixTupK (K := K)) (pv 0) pe_int (fun _ _ => rfl)) (pa_cons (pv 1) pa_nil))))))), ?_⟩
    refine ⟨.ref a, rfl, _, _, _, _, true, rfl, .ty "tuple", .base (.tup ha), kit_ty (by decide +kernel), _, rfl, iteF ?_⟩
    refine ⟨.ref a, rfl, a, _, rfl, .inr (SqT.of ha), rfl, _, rfl, iteNS rfl ?_⟩
    refine ⟨.ref a, rfl, a, _, 0, _, rfl, rfl, SqT.of ha, rfl, .int l, rfl, x, l, rfl, _, rfl, ?_⟩
    unfold bel at q
    cases hx : (decide (0 ≤ x) && decide (x < l)) with
    | false =>
      rw [hx] at q
      exact iteF q
    | true =>
      rw [hx] at q
      exact iteT ⟨.ref a, rfl, a, _, 1, _, rfl, rfl, SqT.of ha, rfl, .int l, rfl, y, l, rfl, q⟩
/-! ### are_different_pairs, where they are -/
def spDiff (K : PySem.W.Frag) : Sp := fun vs H Q _ => ∃ (a : Addr) (rs : List Addr) (ps : List (Int × Int)) (l : Int), vs = [.ref a, .int l] ∧ H a = some (.tup (rs.map V.ref)) ∧ PR H rs ps ∧ ps.length < 64 ∧ (∀ q ∈ ps, (0 ≤ q.1 ∧ q.1 < l) ∧ 0 ≤ q.2 ∧ q.2 < l) ∧ ps.Nodup ∧
  ∀ H', Same H H' → Q (.bl true) H'
def ksOf : List Addr → List (Int × Int) → List (Addr × List Int)
  | a :: rs, q :: ps => (a, [q.1, q.2]) :: ksOf rs ps
  | _, _ => []
theorem ksOf_refs : ∀ {rs : List Addr} {ps : List (Int × Int)}, rs.length = ps.length → (ksOf rs ps).map (fun p => V.ref p.1) = rs.map V.ref
  | [], [], _ => rfl
  | [], _ :: _, h => by cases h
  | _ :: _, [], h => by cases h
  | a :: rs, q :: ps, h => by
    have ih := ksOf_refs (rs := rs) (ps := ps) (by simpa using h)
    show V.ref a :: _ = V.ref a :: _
    rw [ih]
theorem ksOf_vals : ∀ {rs : List Addr} {ps : List (Int × Int)}, rs.length = ps.length → (ksOf rs ps).map (·.2) = ps.map fun q => [q.1, q.2]
  | [], [], _ => rfl
  | [], _ :: _, h => by cases h
  | _ :: _, [], h => by cases h
  | a :: rs, q :: ps, h => by
    have ih := ksOf_vals (rs := rs) (ps := ps) (by simpa using h)
    show [q.1, q.2] :: _ = [q.1, q.2] :: _
    rw [ih]
theorem ksOf_at {H : Hp} : ∀ {rs : List Addr} {ps : List (Int × Int)}, PR H rs ps → ∀ p ∈ ksOf rs ps, H p.1 = some (.tup (p.2.map V.int))
  | _, _, .nil, p, h => by cases h
  | _, _, .cons h0 t, p, h => by
    rcases List.mem_cons.mp h with z | z
    · rw [z]
      exact h0
    · exact ksOf_at t p z
theorem ok_diff {f fB fI : Addr} {fd dB dI : FuncData} {k : Nat} (F : Fun K "are_different_pairs" "are_different_pairs" sDiff f fd) (FB : Fun K "is_below" "is_below" sBelow fB dB) (bB : Binds K dB ["value", "limit"] []) (gB : mg "is_below" = some (.ref fB))
    (FI : Fun K "is_pair" "is_pair" sIsPair fI dI) (bI : Binds K dI ["value", "values"] []) (gI : mg "is_pair" = some (.ref fI)) (B : LibJ mg) (mset : mg "set" = none) :
    FnOk P w K mg base CX0 (k + 3) f fd ["value", "values"] (spDiff K) := by
  have GI : FnOk P w K mg base CX0 (k + 2) fI dI ["value", "values"] (spIsPair K) := ok_ispair FI FB bB gB B
  refine F.ok scDiff (fun vs H Q E h => ?_) (fun cdv A outer s H vs Q E hr h => ?_)
  · obtain ⟨a, rs, ps, l, rfl, _⟩ := h
    rfl
  · obtain ⟨a, rs, ps, l, rfl, ha, hP, lp, bd, nd, q⟩ := h
    have lr : rs.length = ps.length := Paired.length hP
    refine ⟨_, pss_cons (ps_if (pt_not (pt_val (pe_callB (isiK (K := K)) (by rfl) B.isi (by decide +kernel) (pa_cons (pv 0) (pa_cons (pe_bltn (v := .ty "tuple") (by rfl) B.tuple (by decide +kernel) rfl) pa_nil)))))
        (pss_one (ps_ret pe_bl)) pss_nil)
      (pss_cons (ps_if (pt_not (pt_val (pe_callB (allK (K := K) rfl) (by rfl) B.all (by decide +kernel) (pa_cons
          (pe_lc (own := [("pair", 2)]) (g := gName 2) (by rfl) scDiff.nd (piTupK (K := K) (pv 0))
            (blkOk_by (own := [("pair", 2)]) (N := ["value", "values", "pair"]) (sc := defScope sDiff) (by decide +kernel))
            (fun _ _ _ _ _ => pg_name (i := 2) scDiff.nd rfl (Or.inl rfl)) (fun _ _ _ _ _ => pts_nil)
            (fun _ _ _ _ _ => pe_call GI hr (by rfl) gI FI.kp bI .nil pass0 (pa_cons (pv 2) (pa_cons (pv 1) pa_nil)))) pa_nil))))
        (pss_one (ps_ret pe_bl)) pss_nil)
      (pss_one (ps_ret (pe_cmpR op_eq (pe_callB (lenSetT (K := K)) (by rfl) B.len PySem.boot_len (pa_cons (pe_callTy (setTT (K := K) rfl hr.units) (by rfl) mset (by decide +kernel) (pa_cons (pv 0) pa_nil)) pa_nil))
        (pe_callB (lenK (K := K)) (by rfl) B.len PySem.boot_len (pa_cons (pv 0) pa_nil)) (nomark _))))), ?_⟩
    refine ⟨.ref a, rfl, _, _, _, _, true, rfl, .ty "tuple", .base (.tup ha), kit_ty (by decide +kernel), _, rfl, iteF ?_⟩
    refine ⟨.ref a, rfl, a, rfl, ⟨_, SqT.of ha⟩, fun D nD => ?_⟩
    have sD := same_upd (o := .lst []) nD
    refine lc_tup (K := K) (a := a) (xs := rs.map V.ref) (fun i H2 => H2 D = some (.lst ((List.replicate i true).map V.bl)) ∧ Same H H2) ⟨upd_same, sD⟩ (fun i H2 _ h => SqT.of (h.2 _ _ ha)) ?_ ?_
    · rintro i x H2 hx ⟨hD, s2⟩
      obtain ⟨c, hc, rfl⟩ := ref_at hx
      obtain ⟨m, hm, hq⟩ := paired_get hP hc
      have b1 := bd m (List.mem_of_getElem? hm)
      have il := (List.getElem?_eq_some_iff.mp hm).1
      refine ⟨rfl, yesI ⟨.ref c, rfl, .int l, rfl, c, m.1, m.2, l, rfl, s2 _ _ hq, _, hD, ?_, ?_, ?_⟩⟩
      · rw [List.length_map, List.length_replicate]
        exact lenLine (by omega)
      · rw [upd_same, List.replicate_succ', List.map_append]
        unfold bel
        rw [decide_eq_true b1.1.1, decide_eq_true b1.1.2, decide_eq_true b1.2.1, decide_eq_true b1.2.2]
        rfl
      · intro b o hb
        rw [upd_ne (ne_of_none hb nD)]
        exact s2 _ _ hb
    · rintro H2 ⟨hD, s2⟩
      refine ⟨D, _, rfl, SqL.of hD, _, rfl, ?_⟩
      rw [show (List.replicate (rs.map V.ref).length true).all id = true by simp]
      refine iteF ?_
      have ks1 := ksOf_at (hP.same s2)
      refine ⟨.ref a, rfl, a, ksOf rs ps, rfl, ?_, fun p hp => SqT.of (ks1 p hp), ?_, fun S L nS sub all nodup => ?_⟩
      · rw [ksOf_refs lr]
        exact SqT.of (s2 _ _ ha)
      · have := congrArg List.length (ksOf_vals lr)
        rw [List.length_map, List.length_map] at this
        omega
      have sS := same_upd (o := SetTO P w S L) nS
      refine ⟨S, L, rfl, upd_same, fun p hp => SqT.of (sS _ _ (ks1 p (sub p hp))), .ref a, rfl, a, _, rfl, .inr (SqT.of (sS _ _ (s2 _ _ ha))), rfl, ?_⟩
      have ndk : ((ksOf rs ps).map (·.2)).Nodup := by
        rw [ksOf_vals lr]
        refine List.pairwise_map.mpr (nd.imp fun {x y} hxy z => hxy ?_)
        have z1 : x.1 = y.1 := by injection z
        have z2 : x.2 = y.2 := by
          injection z with _ z
          injection z
        exact Prod.ext z1 z2
      have pm : (L.map (·.2)).Perm ((ksOf rs ps).map (·.2)) := by
        refine (List.perm_ext_iff_of_nodup nodup ndk).mpr fun v => ⟨fun hv => ?_, fun hv => ?_⟩
        · obtain ⟨p, hp, rfl⟩ := List.mem_map.mp hv
          exact List.mem_map.mpr ⟨p, sub p hp, rfl⟩
        · obtain ⟨p, hp, rfl⟩ := List.mem_map.mp hv
          exact all p hp
      have ll : L.length = (rs.map V.ref).length := by
        have := pm.length_eq
        rw [ksOf_vals lr, List.length_map, List.length_map] at this
        rw [List.length_map]
        omega
      rw [decide_eq_true (show V.int (L.length : Int) = V.int ((rs.map V.ref).length : Int) by rw [ll])]
      exact q _ (s2.trans sS)
end
end Nm

namespace Nm
open PySem PySem.Spec PyProof.Rows L2 GL
/-! sFewest -/
theorem layRows : ∀ T : List (List Int), PyData.canLayAll0 (T.map rowD) = true
  | [] => by simp [PyData.canLayAll0]
  | row :: T => by simp [PyData.canLayAll0, rowD, PyData.canLay0, layInts, layRows T]
theorem shapedTbl (T : List (List Int)) : SeqAt.shaped (tblD T) = true := by
  have h := depth_tbl T
  simp only [SeqAt.shaped, tblD, PyData.canLay0, layRows, Bool.true_and]
  exact decide_eq_true (by have := depth_tbl T; unfold tblD at this; omega)
theorem eqvTbl (T : List (List Int)) : PyData.eqv (tblD T) (tblD T) = true := SeqAt.eqv_refl _ (by simp only [tblD, PyData.canLay0, layRows])
section
variable {P : Program} {w : World} {K : PySem.W.Frag} {mg : Str → Option Value} {base : Heap}
structure Nam (K : PySem.W.Frag) (mg : Str → Option Value) (fB fO fS fI fD fW : Addr) (dB dO dS dI dD dW : FuncData) : Prop where
  B : Fun K "is_below" "is_below" sBelow fB dB
  O : Fun K "rule_of" "rule_of" sRuleOf fO dO
  S : Fun K "side_of" "side_of" sSide fS dS
  I : Fun K "is_pair" "is_pair" sIsPair fI dI
  D : Fun K "are_different_pairs" "are_different_pairs" sDiff fD dD
  W : Fun K "shows_names" "shows_names" sShows fW dW
  bB : Binds K dB ["value", "limit"] []
  bO : Binds K dO ["names"] []
  bS : Binds K dS ["count"] []
  bI : Binds K dI ["value", "values"] []
  bD : Binds K dD ["value", "values"] []
  bW : Binds K dW ["rule", "value"] []
  gB : mg "is_below" = some (.ref fB)
  gO : mg "rule_of" = some (.ref fO)
  gS : mg "side_of" = some (.ref fS)
  gI : mg "is_pair" = some (.ref fI)
  gD : mg "are_different_pairs" = some (.ref fD)
  gW : mg "shows_names" = some (.ref fW)
def spShows (K : PySem.W.Frag) : Sp := fun vs H Q _ => ∃ (p a : Addr) (rs : List Addr) (ps : List (Int × Int)) (v : Nat), vs = [.ref p, .ref a] ∧ Tbl H p (ofPrs ps) ∧ H a = some (.tup (rs.map V.ref)) ∧ PR H rs ps ∧ ps.length = v * v ∧ ps.length < 64 ∧
  (∀ q ∈ ps, (0 ≤ q.1 ∧ q.1 < (v : Int)) ∧ 0 ≤ q.2 ∧ q.2 < (v : Int)) ∧ ps.Nodup ∧ ∀ H', Same H H' → Q (.bl true) H'
theorem sq_inj {a b : Nat} (h : a * a = b * b) : a = b := by
  rcases Nat.lt_trichotomy a b with y | y | y
  · have := sq_lt y
    omega
  · exact y
  · have := sq_lt y
    omega
theorem ok_shows {fB fO fS fI fD fW : Addr} {dB dO dS dI dD dW : FuncData} {k : Nat} (N : Nam K mg fB fO fS fI fD fW dB dO dS dI dD dW) (B : LibJ mg) (mset : mg "set" = none) :
    FnOk P w K mg base CX0 (k + 4) fW dW ["rule", "value"] (spShows K) := by
  have GS : FnOk P w K mg base CX0 (k + 3) fS dS ["count"] (spSide K) := ok_side N.S
  have GD : FnOk P w K mg base CX0 (k + 3) fD dD ["value", "values"] (spDiff K) := ok_diff N.D N.B N.bB N.gB N.I N.bI N.gI B mset
  have GO : FnOk P w K mg base CX0 (k + 3) fO dO ["names"] (spRuleOf K) := ok_ruleof N.O B
  refine N.W.ok scShows (fun vs H Q E h => ?_) (fun cdv A outer s H vs Q E hr h => ?_)
  · obtain ⟨p, a, rs, ps, v, rfl, _⟩ := h
    rfl
  · obtain ⟨p, a, rs, ps, v, rfl, hT, ha, hP, lv, lp, bd, nd, q⟩ := h
    refine ⟨_, pss_cons (ps_set (i := 2) scShows.nd rfl (.inl rfl) (pe_call GS hr (by rfl) N.gS N.S.kp N.bS .nil pass0 (pa_cons (pe_callB (lenK (K := K)) (by rfl) B.len PySem.boot_len (pa_cons (pv 0) pa_nil)) pa_nil)))
      (pss_cons (ps_if (PW.pt (pw_or (pt_cmpR op_isN (pv 2) pe_non (nomark _)) (pw_or1 (pt_not (pt_val (pe_call GD hr (by rfl) N.gD N.D.kp N.bD .nil pass0 (pa_cons (pv 1) (pa_cons (pv 2) pa_nil)))))))) (pss_one (ps_ret pe_bl)) pss_nil)
      (pss_one (ps_ret (pe_cmpR (op_eqD hr.units) (pe_call GO hr (by rfl) N.gO N.O.kp N.bO .nil pass0 (pa_cons (pv 1) pa_nil)) (pv 0) (nomark _))))), ?_⟩
    have hT0 := hT
    obtain ⟨rs0, hp, hR⟩ := hT0
    have l0 : (rs0.map V.ref).length = ps.length := by
      rw [List.length_map, Paired.length hR]
      unfold ofPrs
      rw [List.length_map]
    refine ⟨.ref p, rfl, p, _, rfl, .inr (SqT.of hp), (rs0.map V.ref).length, rfl, by omega, fun t ht => ?_, fun hno => absurd (by omega) (hno v)⟩
    have tv : t = v := sq_inj (by omega)
    subst tv
    refine ⟨_, rfl, rfl, _, rfl, iteF ?_⟩
    refine ⟨.ref a, rfl, .int t, rfl, a, rs, ps, t, rfl, ha, hP, lp, bd, nd, fun H1 s1 => ⟨_, rfl, iteF ?_⟩⟩
    refine ⟨.ref a, rfl, a, rs, ps, rfl, .inr (s1 _ _ ha), hP.same s1, by omega, fun o H2 no s2 hT2 => ?_⟩
    refine ⟨.ref p, rfl, tblD (ofPrs ps), tblD (ofPrs ps), dpTbl hT2, dpTbl ((hT.same s1).same s2), shapedTbl _, shapedTbl _, ?_⟩
    rw [eqvTbl]
    exact q H2 (s1.trans s2)
def spFewest (K : PySem.W.Frag) : Sp := fun vs H Q _ => ∃ m : Int, vs = [.int m] ∧ 0 ≤ m ∧ m < 1000 ∧ Q (.int ((m + 1) * (m + 1))) H
end
end Nm

namespace Nm
open PySem PySem.Spec PyProof.Rows L2 GL
/-! sCalled -/
/-! sCut -/
/-! sCutSo -/
abbrev nCalled : List Str := ["rule", "order", "rows", "mark", "followers", "other"]
abbrev nCut : List Str := ["rule", "marks", "rows", "mark", "followers", "other"]
abbrev nCutSo : List Str := ["_law_table_here", "_law_some_here", "_law_found", "_law_mark", "_law_row", "_law_other"]
theorem paired_set {α β : Type} {F : α → β → Prop} {a : α} {b : β} (h : F a b) : ∀ {l₁ : List α} {l₂ : List β} (i : Nat), Paired F l₁ l₂ → Paired F (l₁.set i a) (l₂.set i b)
  | _, _, _, .nil => .nil
  | _, _, 0, .cons _ t => .cons h t
  | _, _, i + 1, .cons r t => .cons r (paired_set h i t)
theorem rep_flat {α : Type} (x : α) : ∀ n : Nat, (List.replicate n [x]).flatten = List.replicate n x
  | 0 => rfl
  | n + 1 => by
    rw [List.replicate_succ, List.flatten_cons, rep_flat x n]
    rfl
theorem paired_rep {α β : Type} {F : α → β → Prop} {a : α} {b : β} (h : F a b) : ∀ n : Nat, Paired F (List.replicate n a) (List.replicate n b)
  | 0 => .nil
  | n + 1 => .cons h (paired_rep h n)
section
variable {P : Program} {w : World} {K : PySem.W.Frag} {mg : Str → Option Value} {base : Heap}
/-! ### called -/
/-! ### cut down -/
def cutRow (few : List Int) (i : Nat) (row : List Int) : List Int := if (i : Int) ∈ few then row.filter (fun o => decide (o ∈ few)) else []
def cutTo (T : List (List Int)) (few : List Int) (m : Nat) : List (List Int) := (List.range m).map fun (i : Nat) => cutRow few i (T.getD i [])
theorem cutTo_succ {T : List (List Int)} {few : List Int} {m : Nat} {row : List Int} (h : T[m]? = some row) : cutTo T few (m + 1) = cutTo T few m ++ [cutRow few m row] := by
  unfold cutTo
  rw [List.range_succ, List.map_append, List.map_singleton, List.getD_eq_getElem?_getD, h]
  rfl
theorem cutTo_length (T : List (List Int)) (few : List Int) (m : Nat) : (cutTo T few m).length = m := by
  unfold cutTo
  rw [List.length_map, List.length_range]
def spCut (K : PySem.W.Frag) : Sp := fun vs H Q _ => ∃ (p c : Addr) (T : List (List Int)) (few : List Int), vs = [.ref p, .ref c] ∧ Tbl H p T ∧ H c = some (.tup (few.map V.int)) ∧ T.length ≤ 1000 ∧ (∀ row ∈ T, row.length ≤ 1000) ∧
  ∀ (o : Addr) (H' : Hp), H o = none → Same H H' → Tbl H' o (cutTo T few T.length) → Q (.ref o) H'
theorem take_filter_yes {few row : List Int} {m : Nat} {y : Int} (h : row[m]? = some y) (hy : y ∈ few) : (row.take (m + 1)).filter (fun o => decide (o ∈ few)) = (row.take m).filter (fun o => decide (o ∈ few)) ++ [y] := by
  rw [List.take_add_one, h, List.filter_append]
  congr 1
  simp [hy]
theorem take_filter_no {few row : List Int} {m : Nat} {y : Int} (h : row[m]? = some y) (hy : y ∉ few) : (row.take (m + 1)).filter (fun o => decide (o ∈ few)) = (row.take m).filter (fun o => decide (o ∈ few)) := by
  rw [List.take_add_one, h, List.filter_append]
  simp [hy]
theorem filter_le {few row : List Int} {m : Nat} : ((row.take m).filter (fun o => decide (o ∈ few))).length ≤ row.length :=
  Nat.le_trans (List.length_filter_le _ _) (by rw [List.length_take]; omega)
end
end Nm

namespace Nm
open PySem PySem.Spec PyProof.Rows L2 GL
/-! ### tables called and cut down, as such -/
theorem rowC_same {ms row r1 r2 : List Int} (h1 : RowC ms row r1) (h2 : RowC ms row r2) : r1 = r2 := (h1.1.trans h2.1.symm).eq_of_pairwise (fun x y _ _ a b => Int.le_antisymm a b) h1.2 h2.2
theorem called_same {T T1 T2 : List (List Int)} {ms : List Int} (pm : ms.Perm (rangeI T.length)) (h1 : Called T T1 ms) (h2 : Called T T2 ms) : T1 = T2 := by
  have lm : ms.length = T.length := by rw [pm.length_eq, rangeI_length]
  refine List.ext_getElem? fun j => ?_
  by_cases hj : j < T.length
  · have jm : (j : Int) ∈ ms := pm.mem_iff.mpr (mem_rangeI.mpr ⟨by omega, by omega⟩)
    obtain ⟨s, hs⟩ := List.mem_iff_getElem?.mp jm
    have sl := (List.getElem?_eq_some_iff.mp hs).1
    obtain ⟨row, hrow⟩ : ∃ row, T[s]? = some row := ⟨_, List.getElem?_eq_getElem (by omega)⟩
    obtain ⟨r1, e1, c1⟩ := h1.2 s row j hrow hs
    obtain ⟨r2, e2, c2⟩ := h2.2 s row j hrow hs
    rw [Int.toNat_natCast] at e1 e2
    rw [e1, e2, rowC_same c1 c2]
  · rw [List.getElem?_eq_none (by rw [h1.1]; omega), List.getElem?_eq_none (by rw [h2.1]; omega)]
theorem cut_rule {T : List (List Int)} {few : List Int} (r : IsRule T) : IsRule (cutTo T few T.length) := by
  refine ⟨by rw [cutTo_length]; exact r.1, by rw [cutTo_length]; exact r.2.1, fun row' h => ?_⟩
  rw [cutTo_length]
  obtain ⟨i, hi, rfl⟩ := List.mem_map.mp h
  have il := List.mem_range.mp hi
  have g := r.2.2 (T.getD i []) (by rw [List.getD_eq_getElem?_getD, List.getElem?_eq_getElem il]; exact List.getElem_mem il)
  unfold cutRow
  split
  · exact g.sub List.filter_sublist
  · exact ⟨List.Pairwise.nil, fun x h => by simp at h⟩
theorem at_nat {ms : List Int} {s : Nat} {j : Int} (h : ms[s]? = some j) : at_ ms (s : Int) = j := by
  unfold at_
  rw [Int.toNat_natCast, List.getD_eq_getElem?_getD, h]
  rfl
theorem perm_len {ms : List Int} {n : Nat} (p : ms.Perm (rangeI n)) : ms.length = n := by rw [p.length_eq, rangeI_length]
theorem perm_in {ms : List Int} {n : Nat} (p : ms.Perm (rangeI n)) {x : Int} (h0 : 0 ≤ x) (h1 : x < (n : Int)) : 0 ≤ at_ ms x ∧ at_ ms x < (n : Int) :=
  mem_rangeI.mp (p.mem_iff.mp (at_mem h0 (by rw [perm_len p]; exact h1)))
theorem called_trans {T T1 T2 : List (List Int)} {one two both : List Int} (r : IsRule T) (p1 : one.Perm (rangeI T.length)) (p2 : two.Perm (rangeI T.length)) (lb : both.length = T.length)
    (hb : ∀ x : Int, 0 ≤ x → x < (T.length : Int) → at_ both x = at_ two (at_ one x)) (c1 : Called T T1 one) (c2 : Called T1 T2 two) : Called T T2 both := by
  refine ⟨c2.1.trans c1.1, fun s row j hs hj => ?_⟩
  have sl := (List.getElem?_eq_some_iff.mp hs).1
  have ej := at_nat hj
  have l1 := perm_len p1
  have l2 := perm_len p2
  have hi : one[s]? = some (at_ one (s : Int)) := by
    have z := at_some (ms := one) (x := (s : Int)) (by omega) (by omega)
    rw [Int.toNat_natCast] at z
    exact z
  have ib := perm_in p1 (x := (s : Int)) (by omega) (by omega)
  obtain ⟨r1, e1, c⟩ := c1.2 s row _ hs hi
  obtain ⟨r2, e2, c'⟩ := c2.2 _ r1 _ e1 (at_some (ms := two) ib.1 (by omega))
  rw [← hb s (by omega) (by omega), ej] at e2
  refine ⟨r2, e2, c'.1.trans ((c.1.map _).trans ?_), c'.2⟩
  rw [List.map_map]
  refine List.Perm.of_eq (List.map_congr_left fun x hx => ?_)
  have g := (r.2.2 row (List.mem_of_getElem? hs)).2 x hx
  exact (hb x g.1 g.2).symm
theorem at_range {n : Nat} {x : Int} (h0 : 0 ≤ x) (h1 : x < (n : Int)) : at_ (rangeI n) x = x := by
  unfold at_ rangeI
  rw [List.getD_eq_getElem?_getD, List.getElem?_map, List.getElem?_range (by omega)]
  show ((x.toNat : Nat) : Int) = x
  omega
theorem called_id {T : List (List Int)} (r : IsRule T) : Called T T (rangeI T.length) := by
  refine ⟨rfl, fun s row j hs hj => ?_⟩
  have sl := (List.getElem?_eq_some_iff.mp hs).1
  have ej := at_nat hj
  rw [at_range (by omega) (by omega)] at ej
  rw [← ej, Int.toNat_natCast]
  have g := r.2.2 row (List.mem_of_getElem? hs)
  refine ⟨row, hs, List.Perm.of_eq ?_, g.1.imp fun h => Int.le_of_lt h⟩
  have z : row.map (at_ (rangeI T.length)) = row.map id := List.map_congr_left fun x hx => at_range (g.2 x hx).1 (g.2 x hx).2
  rw [z, List.map_id]
theorem cutTo_at {T : List (List Int)} {few : List Int} {n i : Nat} (h : i < n) : (cutTo T few n).getD i [] = cutRow few i (T.getD i []) := by
  unfold cutTo
  rw [List.getD_eq_getElem?_getD, List.getElem?_map, List.getElem?_range h]
  rfl
theorem cut_cut {T : List (List Int)} {few some_ both : List Int} {n : Nat} (hb : ∀ x, x ∈ both ↔ x ∈ few ∧ x ∈ some_) : cutTo (cutTo T few n) some_ n = cutTo T both n := by
  show (List.range n).map _ = (List.range n).map _
  refine List.map_congr_left fun i hi => ?_
  rw [cutTo_at (List.mem_range.mp hi)]
  unfold cutRow
  by_cases h1 : (i : Int) ∈ few
  · by_cases h2 : (i : Int) ∈ some_
    · rw [if_pos h2, if_pos h1, if_pos ((hb _).mpr ⟨h1, h2⟩), List.filter_filter]
      refine List.filter_congr fun x _ => ?_
      rw [← Bool.decide_and]
      refine decide_eq_decide.mpr ⟨fun z => (hb _).mpr ⟨z.2, z.1⟩, fun z => ?_⟩
      have y := (hb _).mp z
      exact ⟨y.2, y.1⟩
    · rw [if_neg h2, if_neg fun z => h2 ((hb _).mp z).2]
  · rw [if_neg h1, if_neg fun z => h1 ((hb _).mp z).1]
    split <;> rfl
theorem cut_called {T T1 : List (List Int)} {few led one : List Int} (r : IsRule T) (p1 : one.Perm (rangeI T.length)) (c1 : Called T T1 one)
    (hf : ∀ x ∈ few, 0 ≤ x ∧ x < (T.length : Int)) (hl : ∀ x, x ∈ led ↔ ∃ y ∈ few, x = at_ one y) : Called (cutTo T few T.length) (cutTo T1 led T.length) one := by
  have l1 := perm_len p1
  have nd1 : one.Nodup := p1.nodup_iff.mpr (nodup_rangeI _)
  have key : ∀ x : Int, 0 ≤ x → x < (T.length : Int) → (at_ one x ∈ led ↔ x ∈ few) := fun x x0 x1 => by
    rw [hl]
    refine ⟨fun ⟨y, hy, e⟩ => ?_, fun h => ⟨x, h, rfl⟩⟩
    have yb := hf y hy
    rw [at_inj nd1 x0 (by omega) yb.1 (by omega) e]
    exact hy
  refine ⟨by rw [cutTo_length, cutTo_length], fun s row j hs hj => ?_⟩
  have sl := (List.getElem?_eq_some_iff.mp hs).1
  rw [cutTo_length] at sl
  have erow : row = cutRow few s (T.getD s []) := by
    have z := cutTo_at (T := T) (few := few) sl
    rw [List.getD_eq_getElem?_getD, hs] at z
    exact z
  obtain ⟨row0, hr0⟩ : ∃ row0, T[s]? = some row0 := ⟨_, List.getElem?_eq_getElem sl⟩
  rw [List.getD_eq_getElem?_getD, hr0] at erow
  obtain ⟨r1, e1, c⟩ := c1.2 s row0 j hr0 hj
  have jb : 0 ≤ j ∧ j < (T.length : Int) := by
    have z := perm_in p1 (x := (s : Int)) (by omega) (by omega)
    rw [at_nat hj] at z
    exact z
  refine ⟨cutRow led j.toNat r1, ?_, ?_⟩
  · have z := cutTo_at (T := T1) (few := led) (n := T.length) (i := j.toNat) (by omega)
    rw [List.getD_eq_getElem?_getD, List.getD_eq_getElem?_getD, e1] at z
    rw [List.getElem?_eq_getElem (by rw [cutTo_length]; omega)] at z ⊢
    exact congrArg some z
  · have ks := key (s : Int) (by omega) (by omega)
    rw [at_nat hj] at ks
    rw [erow]
    unfold cutRow
    rw [show ((j.toNat : Nat) : Int) = j by omega]
    by_cases h : (s : Int) ∈ few
    · rw [if_pos h, if_pos (ks.mpr h)]
      refine ⟨(c.1.filter _).trans ?_, c.2.sublist List.filter_sublist⟩
      rw [List.filter_map]
      refine List.Perm.of_eq (congrArg (List.map (at_ one)) (List.filter_congr fun x hx => ?_))
      have g := (r.2.2 row0 (List.mem_of_getElem? hr0)).2 x hx
      exact decide_eq_decide.mpr (key x g.1 g.2)
    · rw [if_neg h, if_neg fun z => h (ks.mp z)]
      exact ⟨.nil, List.Pairwise.nil⟩
theorem cut_all {T : List (List Int)} (r : IsRule T) : cutTo T (rangeI T.length) T.length = T := by
  refine List.ext_getElem? fun i => ?_
  by_cases hi : i < T.length
  · unfold cutTo
    rw [List.getElem?_map, List.getElem?_range hi, List.getElem?_eq_getElem hi]
    show some (cutRow _ i (T.getD i [])) = _
    rw [List.getD_eq_getElem?_getD, List.getElem?_eq_getElem hi]
    unfold cutRow
    rw [if_pos (mem_rangeI.mpr ⟨by omega, by omega⟩)]
    refine congrArg some (List.filter_eq_self.mpr fun x hx => decide_eq_true ?_)
    exact mem_rangeI.mpr ((r.2.2 _ (List.getElem_mem hi)).2 x hx)
  · rw [List.getElem?_eq_none (by rw [cutTo_length]; omega), List.getElem?_eq_none (by omega)]
theorem cut_none {T : List (List Int)} {n : Nat} : cutTo T [] n = List.replicate n [] := by
  unfold cutTo cutRow
  refine List.eq_replicate_iff.mpr ⟨by rw [List.length_map, List.length_range], fun x hx => ?_⟩
  obtain ⟨i, _, rfl⟩ := List.mem_map.mp hx
  rw [if_neg (by simp)]
theorem map_at {ms : List Int} {n : Nat} (l : ms.length = n) : (rangeI n).map (at_ ms) = ms := by
  subst l
  refine List.ext_getElem? fun i => ?_
  unfold rangeI
  rw [List.getElem?_map, List.getElem?_map]
  by_cases hi : i < ms.length
  · rw [List.getElem?_range hi, List.getElem?_eq_getElem hi]
    exact congrArg some (at_nat (List.getElem?_eq_getElem hi))
  · rw [List.getElem?_eq_none (by rw [List.length_range]; omega), List.getElem?_eq_none (by omega)]
    rfl
theorem at_map {n : Nat} {g : Int → Int} {x : Int} (h0 : 0 ≤ x) (h1 : x < (n : Int)) : at_ ((rangeI n).map g) x = g x := by
  unfold at_ rangeI
  rw [List.getD_eq_getElem?_getD, List.getElem?_map, List.getElem?_map, List.getElem?_range (by omega)]
  show g ((x.toNat : Nat) : Int) = g x
  rw [show ((x.toNat : Nat) : Int) = x by omega]
theorem both_perm {one two : List Int} {n : Nat} (p1 : one.Perm (rangeI n)) (p2 : two.Perm (rangeI n)) : ((rangeI n).map fun x => at_ two (at_ one x)).Perm (rangeI n) := by
  have e : ((rangeI n).map fun x => at_ two (at_ one x)) = one.map (at_ two) := by
    have z := congrArg (List.map (at_ two)) (map_at (perm_len p1))
    rw [List.map_map] at z
    exact z
  rw [e]
  refine (p1.map _).trans ?_
  rw [map_at (perm_len p2)]
  exact p2
theorem back_at {one : List Int} {n : Nat} (p1 : one.Perm (rangeI n)) {x : Int} (h0 : 0 ≤ x) (h1 : x < (n : Int)) : ((one.idxOf (at_ one x) : Nat) : Int) = x := by
  have l := perm_len p1
  have nd : one.Nodup := p1.nodup_iff.mpr (nodup_rangeI _)
  have z := at_some (ms := one) h0 (by omega)
  obtain ⟨hl, e⟩ := List.getElem?_eq_some_iff.mp z
  rw [← e, nd.idxOf_getElem _ hl]
  omega
theorem back_perm {one : List Int} {n : Nat} (p1 : one.Perm (rangeI n)) : ((rangeI n).map fun x => ((one.idxOf x : Nat) : Int)).Perm (rangeI n) := by
  refine (p1.symm.map _).trans (List.Perm.of_eq ?_)
  have e := map_at (perm_len p1)
  have z := congrArg (List.map fun x => ((one.idxOf x : Nat) : Int)) e
  rw [← z, List.map_map]
  have y : (rangeI n).map ((fun x => ((one.idxOf x : Nat) : Int)) ∘ at_ one) = (rangeI n).map id := List.map_congr_left fun x hx => by
    have b := mem_rangeI.mp hx
    exact back_at p1 b.1 b.2
  rw [y, List.map_id]
theorem rowsOk {T : List (List Int)} (r : IsRule T) : (∀ row ∈ T, row.length ≤ 1000) ∧ ∀ row ∈ T, row.length < 64 ∧ ∀ x ∈ row, 0 ≤ x ∧ x < (T.length : Int) := by
  refine ⟨fun row h => ?_, fun row h => ⟨?_, (r.2.2 row h).2⟩⟩
  · have := (r.2.2 row h).len
    have := r.2.1
    omega
  · have := (r.2.2 row h).len
    have := r.2.1
    omega
/-! ### pairs -/
theorem asc_ext {l1 l2 : List Int} (h1 : l1.Pairwise (· < ·)) (h2 : l2.Pairwise (· < ·)) (h : ∀ x, x ∈ l1 ↔ x ∈ l2) : l1 = l2 :=
  ((List.perm_ext_iff_of_nodup (h1.imp fun h => Int.ne_of_lt h) (h2.imp fun h => Int.ne_of_lt h)).mpr h).eq_of_pairwise (fun x y _ _ a b => by omega) h1 h2
theorem mem_rowTo {ps : List (Int × Int)} {m x : Int} {n : Nat} : x ∈ rowTo ps m n ↔ ∃ i : Nat, i < n ∧ (∃ q, ps[i]? = some q ∧ q.1 = m) ∧ x = (i : Int) := by
  unfold rowTo
  rw [List.mem_map]
  refine ⟨fun ⟨i, hi, e⟩ => ?_, fun ⟨i, hi, ⟨q, hq, e1⟩, e⟩ => ⟨i, List.mem_filter.mpr ⟨List.mem_range.mpr hi, decide_eq_true ?_⟩, e.symm⟩⟩
  · have z := List.mem_filter.mp hi
    have y := of_decide_eq_true z.2
    rcases hq : ps[i]? with _ | q
    · rw [hq] at y
      cases y
    · rw [hq] at y
      exact ⟨i, List.mem_range.mp z.1, ⟨q, hq, Option.some.inj y⟩, e.symm⟩
  · rw [hq]
    exact congrArg some e1
theorem rowTo_asc (ps : List (Int × Int)) (m : Int) (n : Nat) : (rowTo ps m n).Pairwise (· < ·) := by
  unfold rowTo
  refine List.pairwise_map.mpr ((List.Pairwise.sublist List.filter_sublist List.pairwise_lt_range).imp fun h => ?_)
  exact Int.ofNat_lt.mpr h
theorem rowTo_len (ps : List (Int × Int)) (m : Int) : ∀ j, j ≤ ps.length → (rowTo ps m j).length = ((ps.take j).filter fun q => decide (q.1 = m)).length
  | 0, _ => rfl
  | j + 1, h => by
    have ih := rowTo_len ps m j (by omega)
    have hj : ps[j]? = some ps[j] := List.getElem?_eq_getElem (by omega)
    rw [List.take_add_one, hj, List.filter_append, List.length_append, ← ih]
    by_cases e : ps[j].1 = m
    · rw [rowTo_yes (by rw [hj]; exact congrArg some e), List.length_append]
      simp [e]
    · rw [rowTo_no (by rw [hj]; exact fun z => e (Option.some.inj z))]
      simp [e]
/-- a table with names -/
structure HasPs (T : List (List Int)) (v : Nat) (ps : List (Int × Int)) : Prop where
  v1 : 1 ≤ v
  v4 : v ≤ 4
  pm : ps.Perm (prsTo v v)
  eq : T = ofPrs ps
theorem prs_mem {v : Nat} {q : Int × Int} : q ∈ prsTo v v ↔ (0 ≤ q.1 ∧ q.1 < (v : Int)) ∧ 0 ≤ q.2 ∧ q.2 < (v : Int) := by
  unfold prsTo
  rw [List.mem_flatMap]
  refine ⟨fun ⟨o, ho, h⟩ => ?_, fun ⟨h1, h2⟩ => ⟨q.1.toNat, List.mem_range.mpr (by omega), List.mem_map.mpr ⟨q.2.toNat, List.mem_range.mpr (by omega), ?_⟩⟩⟩
  · obtain ⟨m, hm, e⟩ := List.mem_map.mp h
    have a := List.mem_range.mp ho
    have b := List.mem_range.mp hm
    rw [← e]
    exact ⟨⟨by show (0 : Int) ≤ (o : Int); omega, by show (o : Int) < (v : Int); omega⟩, by show (0 : Int) ≤ (m : Int); omega, by show (m : Int) < (v : Int); omega⟩
  · rw [show ((q.1.toNat : Nat) : Int) = q.1 by omega, show ((q.2.toNat : Nat) : Int) = q.2 by omega]
theorem prsTo_nd {n : Nat} (h4 : n ≤ 4) : (prsTo n n).Nodup := by
  obtain rfl | rfl | rfl | rfl | rfl : n = 0 ∨ n = 1 ∨ n = 2 ∨ n = 3 ∨ n = 4 := by omega
  all_goals decide +kernel
theorem prs_cnt {v : Nat} (h4 : v ≤ 4) (m : Nat) (hm : m < v) : ((prsTo v v).filter fun q => decide (q.1 = (m : Int))).length = v := by
  have : ∀ v ≤ 4, ∀ m < v, ((prsTo v v).filter fun q => decide (q.1 = (m : Int))).length = v := by decide +kernel
  exact this v h4 m hm
namespace HasPs
variable {T : List (List Int)} {v : Nat} {ps : List (Int × Int)} (N : HasPs T v ps)
include N
theorem len : ps.length = v * v := by rw [N.pm.length_eq, prsTo_length]
theorem nd : ps.Nodup := N.pm.nodup_iff.mpr (prsTo_nd N.v4)
theorem lenT : T.length = v * v := by
  rw [N.eq]
  unfold ofPrs
  rw [List.length_map, N.len]
theorem bd {q : Int × Int} (h : q ∈ ps) : (0 ≤ q.1 ∧ q.1 < (v : Int)) ∧ 0 ≤ q.2 ∧ q.2 < (v : Int) := prs_mem.mp (N.pm.mem_iff.mp h)
theorem row {a : Nat} {q : Int × Int} (h : ps[a]? = some q) : T[a]? = some (rowTo ps q.2 (v * v)) := by
  rw [N.eq]
  unfold ofPrs
  rw [List.getElem?_map, h, N.len]
  rfl
theorem has {o m : Int} (h1 : 0 ≤ o ∧ o < (v : Int)) (h2 : 0 ≤ m ∧ m < (v : Int)) : ∃ a : Nat, ps[a]? = some (o, m) :=
  List.mem_iff_getElem?.mp (N.pm.mem_iff.mpr (prs_mem.mpr ⟨h1, h2⟩))
theorem ne {m : Int} (h : 0 ≤ m ∧ m < (v : Int)) : ∃ x : Nat, x < v * v ∧ (x : Int) ∈ rowTo ps m (v * v) ∧ ∃ q, ps[x]? = some q ∧ q.1 = m := by
  obtain ⟨a, ha⟩ := N.has h (⟨by omega, by have := N.v1; omega⟩ : (0 : Int) ≤ 0 ∧ (0 : Int) < (v : Int))
  have al := (List.getElem?_eq_some_iff.mp ha).1
  rw [N.len] at al
  exact ⟨a, al, mem_rowTo.mpr ⟨a, al, ⟨_, ha, rfl⟩, rfl⟩, _, ha, rfl⟩
theorem inj {m m' : Int} (h : 0 ≤ m ∧ m < (v : Int)) (e : rowTo ps m (v * v) = rowTo ps m' (v * v)) : m = m' := by
  obtain ⟨x, _, hx, q, hq, e1⟩ := N.ne h
  rw [e] at hx
  obtain ⟨i, hi, ⟨q', hq', e2⟩, e3⟩ := mem_rowTo.mp hx
  have : x = i := by omega
  subst this
  rw [hq] at hq'
  cases hq'
  rw [← e1, ← e2]
theorem rows {row : List Int} : row ∈ T ↔ ∃ m : Int, (0 ≤ m ∧ m < (v : Int)) ∧ row = rowTo ps m (v * v) := by
  refine ⟨fun h => ?_, fun ⟨m, hm, e⟩ => ?_⟩
  · obtain ⟨a, ha⟩ := List.mem_iff_getElem?.mp h
    have al := (List.getElem?_eq_some_iff.mp ha).1
    rw [N.lenT, ← N.len] at al
    have hq : ps[a]? = some ps[a] := List.getElem?_eq_getElem al
    rw [N.row hq] at ha
    exact ⟨_, (N.bd (List.getElem_mem al)).2, (Option.some.inj ha).symm⟩
  · obtain ⟨a, ha⟩ := N.has (o := 0) (⟨by omega, by have := N.v1; omega⟩ : (0 : Int) ≤ 0 ∧ (0 : Int) < (v : Int)) hm
    rw [e]
    exact List.mem_of_getElem? (N.row ha)
theorem rlen {m : Int} (h : 0 ≤ m ∧ m < (v : Int)) : (rowTo ps m (v * v)).length = v := by
  have z := rowTo_len ps m (v * v) (by rw [N.len]; exact Nat.le_refl _)
  rw [z, ← N.len, List.take_length, (N.pm.filter _).length_eq]
  have y := prs_cnt N.v4 m.toNat (by omega)
  rw [show ((m.toNat : Nat) : Int) = m by omega] at y
  exact y
end HasPs
theorem called_prs {v : Nat} {T' : List (List Int)} {ms : List Int} (h1 : 1 ≤ v) (h4 : v ≤ 4) (pm : ms.Perm (rangeI (v * v))) (c : Called (ofPrs (prsTo v v)) T' ms) : ∃ ps, HasPs T' v ps := by
  have N0 : HasPs (ofPrs (prsTo v v)) v (prsTo v v) := ⟨h1, h4, .refl _, rfl⟩
  have l0 := N0.len
  have lm := perm_len pm
  have ndm : ms.Nodup := pm.nodup_iff.mpr (nodup_rangeI _)
  have rule := called_rule (named_rule h1 h4) (by rw [N0.lenT]; exact pm) c
  have lT' : T'.length = v * v := by rw [c.1, N0.lenT]
  let g : Int → Int × Int := fun x => (prsTo v v).getD (ms.idxOf x) (0, 0)
  have gat : ∀ (s : Nat) (j : Int), ms[s]? = some j → ∀ q, (prsTo v v)[s]? = some q → g j = q := fun s j hj q hq => by
    obtain ⟨hs, e⟩ := List.getElem?_eq_some_iff.mp hj
    show (prsTo v v).getD (ms.idxOf j) (0, 0) = q
    rw [← e, ndm.idxOf_getElem s hs, List.getD_eq_getElem?_getD, hq]
    rfl
  have mg : ms.map g = prsTo v v := by
    refine List.ext_getElem? fun s => ?_
    rw [List.getElem?_map]
    by_cases hs : s < ms.length
    · have hq : (prsTo v v)[s]? = some ((prsTo v v)[s]'(by omega)) := List.getElem?_eq_getElem (by omega)
      rw [hq, List.getElem?_eq_getElem hs]
      exact congrArg some (gat s _ (List.getElem?_eq_getElem hs) _ hq)
    · rw [List.getElem?_eq_none (by omega), List.getElem?_eq_none (by omega)]
      rfl
  have atps : ∀ (x : Nat), x < v * v → ((rangeI (v * v)).map g)[x]? = some (g x) := fun x hx => by
    unfold rangeI
    rw [List.getElem?_map, List.getElem?_map, List.getElem?_range hx]
    rfl
  have lps : ((rangeI (v * v)).map g).length = v * v := by rw [List.length_map, rangeI_length]
  refine ⟨(rangeI (v * v)).map g, h1, h4, ?_, ?_⟩
  · have z := pm.map g
    rw [mg] at z
    exact z.symm
  · refine List.ext_getElem? fun j => ?_
    by_cases hj : j < v * v
    · have jm : (j : Int) ∈ ms := pm.mem_iff.mpr (mem_rangeI.mpr ⟨by omega, by omega⟩)
      obtain ⟨s, hs⟩ := List.mem_iff_getElem?.mp jm
      have sl := (List.getElem?_eq_some_iff.mp hs).1
      have hq : (prsTo v v)[s]? = some ((prsTo v v)[s]'(by omega)) := List.getElem?_eq_getElem (by omega)
      have hrow := N0.row hq
      obtain ⟨r', e', rc⟩ := c.2 s _ j hrow hs
      rw [Int.toNat_natCast] at e'
      have gj := gat s j hs _ hq
      unfold ofPrs
      rw [e', List.getElem?_map, atps j hj, gj]
      refine congrArg some (asc_ext (rule.2.2 r' (List.mem_of_getElem? e')).1 (rowTo_asc _ _ _) fun x => ?_)
      rw [rc.1.mem_iff, List.mem_map, lps]
      refine ⟨fun ⟨y, hy, ey⟩ => ?_, fun h => ?_⟩
      · obtain ⟨i, hi, ⟨q, hqi, e1⟩, rfl⟩ := mem_rowTo.mp hy
        have hmi : ms[i]? = some (ms[i]'(by omega)) := List.getElem?_eq_getElem (by omega)
        rw [at_nat hmi] at ey
        have xb := mem_rangeI.mp (pm.mem_iff.mp (List.mem_of_getElem? hmi))
        rw [ey] at xb hmi
        refine mem_rowTo.mpr ⟨x.toNat, by omega, ⟨_, atps x.toNat (by omega), ?_⟩, by omega⟩
        rw [show ((x.toNat : Nat) : Int) = x by omega, gat i x hmi _ hqi]
        exact e1
      · obtain ⟨i, hi, ⟨q, hqi, e1⟩, rfl⟩ := mem_rowTo.mp h
        rw [atps i hi] at hqi
        have im : (i : Int) ∈ ms := pm.mem_iff.mpr (mem_rangeI.mpr ⟨by omega, by omega⟩)
        obtain ⟨t, ht⟩ := List.mem_iff_getElem?.mp im
        have tl := (List.getElem?_eq_some_iff.mp ht).1
        have hqt : (prsTo v v)[t]? = some ((prsTo v v)[t]'(by omega)) := List.getElem?_eq_getElem (by omega)
        refine ⟨(t : Int), mem_rowTo.mpr ⟨t, by omega, ⟨_, hqt, ?_⟩, rfl⟩, at_nat ht⟩
        rw [← gat t i ht _ hqt, Option.some.inj hqi]
        exact e1
    · rw [List.getElem?_eq_none (by omega), List.getElem?_eq_none (by unfold ofPrs; rw [List.length_map, lps]; omega)]
end Nm

/-! tuple(l) with its object known; t.index(n) upon it; t * n, n from 1; l.index(x) within comprehensions -/
namespace GL
open PySem PySem.Spec PyProof.Rows L2
section
variable {X : Cx}
def rTupNew (K : PySem.W.Frag) : List V → Hp → VK → Prop := fun xs H Q => ∃ p ys, xs = [.ref p] ∧ SqL K H p ys ∧ ∀ (l : Addr) (o : Obj), H l = none → o.cls = .type "tuple" → o.dict = none → Q (.ref l) (upd H l (.frz o (.tup ys)))
theorem tupNewK {K : PySem.W.Frag} (hK : X.K = K := by rfl) : CallR X (.type "tuple") (rTupNew K) := by
  subst hK
  intro pins s σ H xs us Q I r h
  obtain ⟨p, ys, rfl, hq, q⟩ := h
  obtain ⟨u, rfl, rx⟩ := vals1 r
  cases rx
  obtain ⟨its, r', pl, hz⟩ := I.list hq
  have hlen := r'.length
  refine call_tuple_list pl.isList (fun h' kp => ?_) (by simp only [List.size_toArray] <;> omega)
  have I1 : Inv X pins σ H { s with heap := h' } := I.kept (t' := s.toks) kp
  have I2 : Inv X pins σ (upd H h'.objs.size (.frz { cls := .type "tuple", data := .seq its.toArray } (.tup ys))) { s with heap := h'.push { cls := .type "tuple", data := .seq its.toArray } } :=
    I1.laid (t' := s.toks) (fun b o e => Heap.get?_push_of_some _ e) (Nat.le_refl _) (show ObjOk X.prog X.w _ _ _ (.frz { cls := .type "tuple", data := .seq its.toArray } (.tup ys)) from ⟨Heap.get?_push_size _ rfl, hz, its, r', IsTup.new _ _⟩)
  exact ⟨.ref h'.objs.size, _, I2, rfl, q _ _ (I1.hok.fresh (Nat.le_refl _)) rfl rfl⟩
variable {o e : Expr} {to : TE} {t : TA} {apos cpos : Pos}
/-- t.index(n): t a tuple of ints whose object is known -/
def tTix (K : PySem.W.Frag) (to : TE) (t : TA) : TE := fun σ H Q => to σ H fun x H1 => ∃ (a : Addr) (ob : Obj) (xs : List V), x = .ref a ∧ H1 a = some (.frz ob (.tup xs)) ∧ ob.cls = .type "tuple" ∧ ob.dict = none ∧
  t σ H1 fun ys H2 => ∃ (ns : List Int) (k : Int), ys = [.int k] ∧ SqT K H2 a (ns.map V.int) ∧ k ∈ ns ∧ Q (.int (ns.idxOf k : Nat)) H2
theorem pe_tix {K : PySem.W.Frag} (ho : PE X o to) (ha : PA X [e] t)
    (hbase : attributeBase o "index" X.env (eval o X.env) = eval o X.env := by rfl)
    (hfew : ((backTo cpos (starEach [e] X.env)).all (fun x => !x.1) && (backToKw cpos (keywordEach [] X.env)).all (fun x => x.1.isSome)
      && decide ([e].length + ([] : List Keyword).length + (if ([] : List Keyword).isEmpty then 0 else 1) < 30)) = true := by rfl)
    (hline : (apos.endLine == cpos.line) = true := by rfl) (hs : starEach [e] X.env = (false, eval e X.env) :: starEach [] X.env := by rfl) (hplain : (backTo cpos (starEach [] X.env)).any (·.1) = false := by rfl) (hK : X.K = K := by rfl) :
    PE X (.Call (.Attribute o "index" apos) [e] [] cpos) (tTix K to t) := by
  subst hK
  refine ⟨fun pins s σ H Q I h => ?_⟩
  refine wpAny_Call_method_late hbase hfew hline rfl (thn (ho.run pins s σ H _ I h) fun v s1 ⟨x, H1, I1, r1, q1⟩ => ?_)
  obtain ⟨a, ob, xs, rfl, ha1, hc, hd, q1⟩ := q1
  cases r1
  have hob : s1.heap.get? a = some ob := (I1.hok a _ ha1).1
  refine ⟨"tuple", "tuple.index", PySem.F.plainAttrs_tuple, PySem.F.slot_tuple_index, PySem.F.type_tuple_index, ⟨ob, hob, hc⟩, fun b eb => by cases eb; exact ⟨ob, hob, hd⟩, ?_⟩
  have hA := ha.run cpos pins s1 σ H1 _ I1 q1
  rw [hs] at hA ⊢
  refine Calls.callWith_builtin (by show (false || (backTo cpos (starEach [] X.env)).any (·.1)) = false; rw [hplain] <;> rfl) (Calls.evalArgs_plain ?_)
  refine thn hA fun us s2 ⟨vs, H2, I2, r2, q2⟩ => ?_
  obtain ⟨ns, k, rfl, hq, hk, q⟩ := q2
  obtain ⟨u, rfl, t', rfl⟩ := vals1 r2
  obtain ⟨its, r, pl, hz⟩ := I2.tuple hq
  exact PySem.SeqAt.call_tuple_index pl (PySem.SeqAt.ItemsEq.ints (intsAre_of r)) hk ⟨.int _, H2, I2.tok _, ⟨_, rfl⟩, q⟩
/-- l.m(..), the written part by name -/
theorem bmK {K : PySem.W.Frag} {es : List Expr} {name : Str} {T id : String} {r : V → List V → Hp → VK → Prop} (pa : PlainAttrs T) (slot : Slot T name id) (hty : typeOf (.builtin id) = pure (.type "method_descriptor")) (hm : MtR X id r) (ho : PE X o to) (ha : PA X (e :: es) t)
    (hbase : attributeBase o name X.env (eval o X.env) = eval o X.env := by rfl)
    (hfew : ((backTo cpos (starEach (e :: es) X.env)).all (fun x => !x.1) && (backToKw cpos (keywordEach [] X.env)).all (fun x => x.1.isSome)
      && decide ((e :: es).length + ([] : List Keyword).length + (if ([] : List Keyword).isEmpty then 0 else 1) < 30)) = true := by rfl)
    (hline : (apos.endLine == cpos.line) = true := by rfl) (hs : starEach (e :: es) X.env = (false, eval e X.env) :: starEach es X.env := by rfl) (hplain : (backTo cpos (starEach es X.env)).any (·.1) = false := by rfl) (hK : X.K = K := by rfl) :
    PE X (.Call (.Attribute o name apos) (e :: es) [] cpos) (tBM K T r to t) := by
  subst hK
  exact pe_bm pa slot hty hm ho ha hbase hfew hline hs hplain
theorem indexDK {K : PySem.W.Frag} (hu : X.A.units + 65 < cLine) (hK : X.K = K := by rfl) : MtR X "list.index" (rIndexD K) := by
  subst hK
  exact mt_indexD hu
end
/-! ### t * 1 -/
theorem tuple_mul1 (l : Addr) (items : Array Value) (n : Nat) (dd : Option Addr) (sl : Array (Option Value)) (u : Tok) :
    Meets (Builtin.«tuple.__mul__» ⟨[.ref l, .int 1 u], []⟩) (fun _ R s => s.heap.get? l = some { cls := .type "tuple", dict := dd, data := .seq items n, slots := sl } ∧ R (.ok (.ret (Value.ref l))) s) :=
  .of_wp fun prog w A R s h => by
    obtain ⟨hp, g, d, tk, os⟩ := s
    obtain ⟨hl, h⟩ := h
    have f1 := AutoSeq1.idx_int
    have c0 : (decide ((1 : Int) < -(2 ^ 63)) || decide ((1 : Int) ≥ 2 ^ 63)) = false := by decide
    have c1 : (items.isEmpty || (1 : Int) == 1) = true := by simp
    wp_walk using wpAny_loadPart' hl
    exact ⟨_, rfl, h⟩
section
variable {X : Cx}
def rRep1 (K : PySem.W.Frag) : R2 := fun x y H Q => ∃ (l : Addr) (k : Int) (xs : List V), x = .ref l ∧ y = .int k ∧ SqT K H l xs ∧ xs ≠ [] ∧ 1 ≤ k ∧ k ≤ 1000 ∧ xs.length ≤ 1000 ∧
  (k = 1 → Q (.ref l) H) ∧ (2 ≤ k → ∀ p, H p = none → Q (.ref p) (upd H p (.tup (List.replicate k.toNat xs).flatten)))
theorem op_rep1 {K : PySem.W.Frag} (hK : X.K = K := by rfl) : OpR X (binaryOp .Mult) (rRep1 K) := by
  subst hK
  intro pins s σ H x y v u Q I rx ry h
  obtain ⟨l, k, xs, rfl, rfl, hT, hne, h1, h2, hz, q1, q2⟩ := h
  by_cases e : k = 1
  · subst e
    cases rx
    obtain ⟨t, rfl⟩ := ry
    obtain ⟨its, r, ⟨⟨cls, dd, data, sl⟩, ho, hc, n, hd⟩, hs⟩ := I.tuple hT
    simp only at hc hd
    subst hc hd
    exact wpAny_binaryOp_repeat_ref (T := "tuple") (U := "int") (by decide) ⟨_, ho, rfl⟩ (fun s' => typeIs_int s' 1 t) noFill_tuple_mul F.fills_int_mul F.slot_int_rmul repeat_tuple F.slot_int_index.lookup
      (call_meets F.slot_int_rmul (typeIs_int s 1 t) F.entry_int_rmul (F.args_int_rmul_2 _ _) (int_rmul_tuple 1 t l its.toArray n dd sl)
        ⟨ho, rfl, ⟨_, ho, rfl⟩, call_meets F.slot_tuple_mul ⟨_, ho, rfl⟩ F.entry_tuple_mul (F.args_tuple_mul_2 _ _) (tuple_mul1 l its.toArray n dd sl t) ⟨ho, ⟨.ref l, H, I, rfl, q1 rfl⟩⟩⟩)
  · exact op_repT pins s σ H _ _ v u Q I rx ry ⟨l, k, xs, rfl, rfl, hT, hne, by omega, h2, hz, q2 (by omega)⟩
end
end GL

namespace Nm
open PySem PySem.Spec PyProof.Rows L2 GL
abbrev sNamesOf : Stmt := topS 8
abbrev nNamesOf : List Str := ["rule", "groups", "own_values", "number", "group", "mark", "names"]
theorem scNamesOf : FnScope nNamesOf ["rule"] (defScope sNamesOf) := ⟨rfl, rfl, rfl, by decide +kernel, rfl, by decide +kernel, by decide +kernel⟩
/-! ### places among the groups -/
def gIx (gs : List (List Int)) (row : List Int) : Int := ((gs.idxOf row : Nat) : Int)
def nmPs (gs : List (List Int)) (ps : List (Int × Int)) (n : Nat) : List (Int × Int) := ps.map fun q => (gIx gs (rowTo ps q.1 n), gIx gs (rowTo ps q.2 n))
section
variable {T : List (List Int)} {v : Nat} {ps : List (Int × Int)} {gs : List (List Int)} (N : HasPs T v ps) (gnd : gs.Nodup) (gm : ∀ row, row ∈ gs ↔ row ∈ T)
include N gnd gm
theorem gs_len : gs.length = v := by
  have z : gs.Perm ((rangeI v).map fun m => rowTo ps m (v * v)) := by
    refine (List.perm_ext_iff_of_nodup gnd ?_).mpr fun row => ?_
    · refine List.pairwise_map.mpr ((nodup_rangeI v).imp_of_mem fun {a b} ha hb ne e => ne ?_)
      exact N.inj (mem_rangeI.mp ha) e
    · rw [gm, N.rows, List.mem_map]
      exact ⟨fun ⟨m, hm, e⟩ => ⟨m, mem_rangeI.mpr hm, e.symm⟩, fun ⟨m, hm, e⟩ => ⟨m, mem_rangeI.mp hm, e.symm⟩⟩
  rw [z.length_eq, List.length_map, rangeI_length]
theorem g_in {m : Int} (h : 0 ≤ m ∧ m < (v : Int)) : rowTo ps m (v * v) ∈ gs := (gm _).mpr (N.rows.mpr ⟨m, h, rfl⟩)
theorem g_lt {m : Int} (h : 0 ≤ m ∧ m < (v : Int)) : gs.idxOf (rowTo ps m (v * v)) < v := by
  have z := List.idxOf_lt_length_iff.mpr (g_in N gnd gm h)
  rw [gs_len N gnd gm] at z
  exact z
theorem g_at {m : Int} (h : 0 ≤ m ∧ m < (v : Int)) : gs[gs.idxOf (rowTo ps m (v * v))]? = some (rowTo ps m (v * v)) := by
  have z := List.idxOf_lt_length_iff.mpr (g_in N gnd gm h)
  rw [List.getElem?_eq_getElem z, List.getElem_idxOf z]
theorem g_inj {m m' : Int} (h : 0 ≤ m ∧ m < (v : Int)) (h' : 0 ≤ m' ∧ m' < (v : Int)) (e : gIx gs (rowTo ps m (v * v)) = gIx gs (rowTo ps m' (v * v))) : m = m' := by
  unfold gIx at e
  have e' : gs.idxOf (rowTo ps m (v * v)) = gs.idxOf (rowTo ps m' (v * v)) := by omega
  have a := g_at N gnd gm h
  rw [e', g_at N gnd gm h'] at a
  exact N.inj h (Option.some.inj a).symm
theorem nm_len : (nmPs gs ps (v * v)).length = v * v := by
  unfold nmPs
  rw [List.length_map, N.len]
theorem nm_bd : ∀ q ∈ nmPs gs ps (v * v), (0 ≤ q.1 ∧ q.1 < (v : Int)) ∧ 0 ≤ q.2 ∧ q.2 < (v : Int) := fun q hq => by
  obtain ⟨r, hr, rfl⟩ := List.mem_map.mp hq
  have b := N.bd hr
  have h1 := g_lt N gnd gm b.1
  have h2 := g_lt N gnd gm b.2
  unfold gIx
  dsimp only
  exact ⟨⟨by omega, by omega⟩, by omega, by omega⟩
theorem nm_nd : (nmPs gs ps (v * v)).Nodup := by
  refine List.pairwise_map.mpr (N.nd.imp_of_mem fun {a b} ha hb ne e => ne ?_)
  have ba := N.bd ha
  have bb := N.bd hb
  have e1 := congrArg Prod.fst e
  have e2 := congrArg Prod.snd e
  exact Prod.ext (g_inj N gnd gm ba.1 bb.1 e1) (g_inj N gnd gm ba.2 bb.2 e2)
theorem nm_eq : ofPrs (nmPs gs ps (v * v)) = T := by
  have l1 := nm_len N gnd gm
  rw [N.eq]
  unfold ofPrs
  rw [l1, N.len]
  unfold nmPs
  rw [List.map_map]
  refine List.map_congr_left fun q hq => ?_
  have b := N.bd hq
  show rowTo (ps.map fun q => (gIx gs (rowTo ps q.1 (v * v)), gIx gs (rowTo ps q.2 (v * v)))) (gIx gs (rowTo ps q.2 (v * v))) (v * v) = rowTo ps q.2 (v * v)
  refine asc_ext (rowTo_asc _ _ _) (rowTo_asc _ _ _) fun x => ?_
  rw [mem_rowTo, mem_rowTo]
  refine ⟨fun ⟨i, hi, ⟨r, hr, e⟩, ex⟩ => ⟨i, hi, ?_, ex⟩, fun ⟨i, hi, ⟨r, hr, e⟩, ex⟩ => ⟨i, hi, ⟨_, by rw [List.getElem?_map, hr]; rfl, by dsimp only; rw [e]⟩, ex⟩⟩
  rw [List.getElem?_map] at hr
  rcases hp : ps[i]? with _ | r0
  · rw [hp] at hr
    cases hr
  · rw [hp] at hr
    refine ⟨r0, rfl, ?_⟩
    have e2 := Option.some.inj hr
    have b0 := N.bd (List.mem_of_getElem? hp)
    rw [← e2] at e
    exact g_inj N gnd gm b0.1 b.2 e
/-- a mark stands in just one group: its own value's -/
theorem g_own {j : Nat} {row : List Int} {i : Nat} {q : Int × Int} (hj : gs[j]? = some row) (hi : ps[i]? = some q) (hx : (i : Int) ∈ row) : j = gs.idxOf (rowTo ps q.1 (v * v)) := by
  obtain ⟨m, hm, e⟩ := N.rows.mp ((gm _).mp (List.mem_of_getElem? hj))
  rw [e] at hx
  obtain ⟨i', hi', ⟨q', hq', e1⟩, ex⟩ := mem_rowTo.mp hx
  have : i = i' := by omega
  subst this
  rw [hi] at hq'
  cases hq'
  obtain ⟨hl, ee⟩ := List.getElem?_eq_some_iff.mp hj
  rw [e1, ← e, ← ee, gnd.idxOf_getElem j hl]
end
theorem eqv_ints : ∀ a b : List Int, PyData.eqvAll (a.map PyData.int) (b.map PyData.int) = decide (a = b)
  | [], [] => rfl
  | [], _ :: _ => rfl
  | _ :: _, [] => rfl
  | x :: a, y :: b => by
    show ((PyData.eqv (.int x) (.int y)) && PyData.eqvAll (a.map PyData.int) (b.map PyData.int)) = _
    rw [eqv_ints a b, PyData.eqv]
    by_cases e : x = y
    · by_cases e' : a = b
      · simp [e, e']
      · simp [e, e']
    · simp [e]
theorem eqv_row (a b : List Int) : PyData.eqv (rowD a) (rowD b) = decide (a = b) := by
  unfold rowD
  rw [PyData.eqv]
  exact eqv_ints a b
theorem zip_refs : ∀ {rs : List Addr} {T : List (List Int)}, rs.length = T.length → (rs.zip T).map (fun p => V.ref p.1) = rs.map V.ref
  | [], [], _ => rfl
  | [], _ :: _, h => by cases h
  | _ :: _, [], h => by cases h
  | a :: rs, r :: T, h => by
    have ih := zip_refs (rs := rs) (T := T) (by simpa using h)
    rw [List.zip_cons_cons, List.map_cons, List.map_cons, ih]
theorem zip_snd : ∀ {rs : List Addr} {T : List (List Int)}, rs.length = T.length → (rs.zip T).map (·.2) = T
  | [], [], _ => rfl
  | [], _ :: _, h => by cases h
  | _ :: _, [], h => by cases h
  | a :: rs, r :: T, h => by
    have ih := zip_snd (rs := rs) (T := T) (by simpa using h)
    rw [List.zip_cons_cons, List.map_cons, ih]
theorem zip_at {H : Hp} : ∀ {rs : List Addr} {T : List (List Int)}, Rows H rs T → ∀ p ∈ rs.zip T, H p.1 = some (.tup (p.2.map V.int))
  | _, _, .nil, p, h => by cases h
  | _, _, .cons h0 t, p, h => by
    rcases List.mem_cons.mp h with z | z
    · rw [z]
      exact h0
    · exact zip_at t p z
theorem dpRowsL {K : PySem.W.Frag} {H : Hp} : ∀ (L : List (Addr × List Int)), (∀ q ∈ L, H q.1 = some (.tup (q.2.map V.int))) → DpAll K H (L.map fun q => V.ref q.1) ((L.map (·.2)).map rowD)
  | [], _ => .nil
  | q :: L, h => .cons (dpRow (h q (List.mem_cons_self ..))) (dpRowsL L fun r hr => h r (List.mem_cons_of_mem _ hr))
theorem shapedLT (T : List (List Int)) : SeqAt.shaped (.list (T.map rowD)) = true := by
  have h := depth_tbl T
  have e : (PyData.list (T.map rowD)).depth = (tblD T).depth := by simp only [tblD, PyData.depth]
  simp only [SeqAt.shaped, PyData.canLay0, layRows, Bool.true_and]
  exact decide_eq_true (by have := depth_tbl T; unfold tblD at this; simp only [PyData.depth] at this ⊢; omega)
theorem shapedRow (row : List Int) : SeqAt.shaped (rowD row) = true := shapedT row
section
variable {P : Program} {w : World} {K : PySem.W.Frag} {mg : Str → Option Value} {base : Heap}
def spNamesOf (K : PySem.W.Frag) : Sp := fun vs H Q _ => ∃ (p : Addr) (T : List (List Int)) (v : Nat) (ps : List (Int × Int)), vs = [.ref p] ∧ Tbl H p T ∧ HasPs T v ps ∧
  ∀ (a : Addr) (rs : List Addr) (qs : List (Int × Int)) (H' : Hp), Same H H' → H' a = some (.tup (rs.map V.ref)) → PR H' rs qs → qs.length = v * v → (∀ q ∈ qs, (0 ≤ q.1 ∧ q.1 < (v : Int)) ∧ 0 ≤ q.2 ∧ q.2 < (v : Int)) → qs.Nodup → T = ofPrs qs → Q (.ref a) H'
set_option maxHeartbeats 4000000 in
theorem ok_namesof {f fB fO fS fI fD fW : Addr} {fd dB dO dS dI dD dW : FuncData} {k : Nat} (F : Fun K "names_of" "names_of" sNamesOf f fd) (N : Nam K mg fB fO fS fI fD fW dB dO dS dI dD dW) (B : LibJ mg) (mset : mg "set" = none) (msort : mg "sorted" = none) (menum : mg "enumerate" = none) :
    FnOk P w K mg base CX0 (k + 5) f fd ["rule"] (spNamesOf K) := by
  have GW : FnOk P w K mg base CX0 (k + 4) fW dW ["rule", "value"] (spShows K) := ok_shows N B mset
  refine F.ok scNamesOf (fun vs H Q E h => ?_) (fun cdv A outer s H vs Q E hr h => ?_)
  · obtain ⟨p, T, v, ps, rfl, _⟩ := h
    rfl
  · obtain ⟨p, T, v, ps, rfl, hT, Nm, q⟩ := h
    have hu := hu_of hr
    have hu65 : A.units + 3 + 65 < cLine := by have := hr.un; simp at this; omega
    refine ⟨_, pss_cons (ps_set (i := 1) scNamesOf.nd rfl (.inr rfl) (pe_callB (cr_sortedT rfl) (by rfl) msort (by decide +kernel) (pa_cons (pe_callTy (setTT (K := K) rfl hr.units) (by rfl) mset (by decide +kernel) (pa_cons (pv 0) pa_nil)) pa_nil)))
      (pss_cons (ps_set (i := 2) scNamesOf.nd rfl (.inr rfl) pe_dnewK)
      (pss_cons (ps_for PassesOwn.never rfl (piEnumK (K := K) (by rfl) menum (pa_cons (pv 1) pa_nil))
          (pgTupK (K := K) rfl (pgs_cons (pg_name (i := 3) scNamesOf.nd rfl (.inl rfl)) (pgs_cons (pg_name (i := 4) scNamesOf.nd rfl (.inl rfl)) pgs_nil)))
          (pss_one (ps_for PassesOwn.never rfl (piTupK (K := K) (pv 4)) (pg_name (i := 5) scNamesOf.nd rfl (.inl rfl)) (pss_one (ps_dput hu (pv 2) (pv 5) (pv 3) rfl)))))
      (pss_cons (ps_set (i := 6) scNamesOf.nd rfl (.inl rfl) (pe_callTy (tupOfK (K := K)) (by rfl) B.tuple (by decide +kernel) (pa_cons
          (pe_lc (own := [("mark", 5)]) (g := gName 5) (by rfl) scNamesOf.nd (pi_range1 (by rfl) B.range (pa_cons (pe_callB (lenK (K := K)) (by rfl) B.len PySem.boot_len (pa_cons (pv 0) pa_nil)) pa_nil))
            (blkOk_by (own := [("mark", 5)]) (N := nNamesOf) (sc := defScope sNamesOf) (by decide +kernel))
            (fun _ _ _ _ _ => pg_name (i := 5) scNamesOf.nd rfl (Or.inl rfl)) (fun _ _ _ _ _ => pts_nil)
            (fun _ _ _ _ _ => pe_tup (pa_cons (pe_dget1 hu (pv 2) (pv 5) ⟨rfl, rfl, rfl, rfl⟩)
              (pa_cons (bmK (K := K) PySem.F.plainAttrs_list PySem.F.slot_list_index PySem.F.type_list_index (indexDK (K := K) hu65) (pv 1) (pa_cons (pe_ix (ixTupK (K := K)) (pv 0) (pv 5) (fun _ _ => rfl)) pa_nil)) pa_nil)))) pa_nil)))
      (pss_one (ps_ret (pe_ifExp (pt_val (pe_call GW hr (by rfl) N.gW N.W.kp N.bW .nil pass0 (pa_cons (pv 0) (pa_cons (pv 6) pa_nil)))) (pv 6) pe_non)))))), ?_⟩
    have hT0 := hT
    obtain ⟨rs, hp, hR⟩ := hT0
    have lr : rs.length = T.length := Paired.length hR
    have lT := Nm.lenT
    have v1 := Nm.v1
    have v4 := Nm.v4
    have n16 : v * v ≤ 16 := Nat.mul_le_mul v4 v4
    have zat := zip_at hR
    refine ⟨.ref p, rfl, p, rs.zip T, rfl, by rw [zip_refs lr]; exact SqT.of hp, fun z hz => SqT.of (zat z hz), ?_, fun S L nS sub all nodup => ?_⟩
    · rw [List.length_zip]
      omega
    generalize hHS : upd H S _ = HS
    have sS : Same H HS := by
      rw [← hHS]
      exact same_upd nS
    have hL : ∀ z ∈ L, H z.1 = some (.tup (z.2.map V.int)) := fun z hz => zat z (sub z hz)
    have mL : ∀ row, row ∈ L.map (·.2) ↔ row ∈ T := fun row => by
      refine ⟨fun h => ?_, fun h => ?_⟩
      · obtain ⟨z, hz, e⟩ := List.mem_map.mp h
        have z2 := List.mem_map_of_mem (f := (·.2)) (sub z hz)
        rw [zip_snd lr] at z2
        rw [← e]
        exact z2
      · rw [← zip_snd lr] at h
        obtain ⟨z, hz, e⟩ := List.mem_map.mp h
        rw [← e]
        exact all z hz
    refine ⟨S, L, v, 16, rfl, ?_, fun z hz => SqT.of (sS _ _ (hL z hz)), v1, fun z hz => ?_, fun L' g pmL nd' len' _ ng => ?_⟩
    · rw [← hHS]
      exact upd_same
    · obtain ⟨m, hm, e⟩ := Nm.rows.mp ((mL z.2).mp (List.mem_map_of_mem hz))
      rw [e]
      refine ⟨Nm.rlen hm, fun x hx => ?_⟩
      obtain ⟨i, hi, _, rfl⟩ := mem_rowTo.mp hx
      exact ⟨by omega, by omega⟩
    have hL' : ∀ z ∈ L', H z.1 = some (.tup (z.2.map V.int)) := fun z hz => hL z (pmL.mem_iff.mp hz)
    obtain ⟨gs, egs⟩ : ∃ gs, gs = L'.map (·.2) := ⟨_, rfl⟩
    have gnd : gs.Nodup := by rw [egs]; exact nd'
    have gm : ∀ row, row ∈ gs ↔ row ∈ T := fun row => by
      rw [egs, (pmL.map (·.2)).mem_iff]
      exact mL row
    have lgs := gs_len Nm gnd gm
    have lL : L'.length = v := by rw [← lgs, egs, List.length_map]
    have sg : Same HS (upd HS g (.lst (L'.map fun q => V.ref q.1))) := same_upd ng
    have hg : upd HS g (.lst (L'.map fun q => V.ref q.1)) g = some (.lst (L'.map fun q => V.ref q.1)) := upd_same
    have sHg := sS.trans sg
    generalize upd HS g (.lst (L'.map fun q => V.ref q.1)) = H1 at hg sHg ⊢
    clear sg ng hHS sS
    refine fun d nd => ?_
    have s1 := same_upd (o := .dK []) nd
    refine ⟨.ref g, rfl, g, _, rfl, SqL.of (s1 _ _ hg), for_it (walk_enum (K := K) (a := g) (xs := L'.map fun q => V.ref q.1)) (fun i σ H' => ∃ (y3 y4 y5 : Option V) (kvs : List (Key × V)), σ = [some (.ref p), some (.ref g), some (.ref d), y3, y4, y5, none] ∧
        H' d = some (.dK kvs) ∧ kvs.length ≤ 16 * i ∧ Same H1 H' ∧ ∀ (j : Nat) (row : List Int) (x : Int), j < i → gs[j]? = some row → x ∈ row → valV kvs (.inl x) = some (.int (j : Nat)))
      ⟨none, none, none, [], rfl, upd_same, Nat.le_refl _, s1, fun j row x h => absurd h (Nat.not_lt_zero _)⟩ (fun i σ H' _ h => ?_) ?_ ?_⟩
    · obtain ⟨_, _, _, _, _, _, _, sm, _⟩ := h
      exact SqL.of (sm _ _ hg)
    · rintro i x σ H2 H3 hi ⟨y3, y4, y5, kvs, rfl, hd, lk, sm, inv⟩ ⟨Tp, a, b, rfl, nTp, rfl, ea, eb⟩
      obtain rfl : V.int (i : Nat) = a := Option.some.inj ea
      rw [List.length_map, lL] at hi
      obtain ⟨z, hz, rfl⟩ : ∃ z, L'[i]? = some z ∧ b = .ref z.1 := by
        have eb : (L'.map fun q => V.ref q.1)[i]? = some b := eb
        rw [List.getElem?_map] at eb
        rcases e : L'[i]? with _ | z
        · rw [e] at eb
          cases eb
        · rw [e] at eb
          exact ⟨z, rfl, (Option.some.inj eb).symm⟩
      have hgi : gs[i]? = some z.2 := by rw [egs, List.getElem?_map, hz]; rfl
      have hcell := sm _ _ (sHg _ _ (hL' z (List.mem_of_getElem? hz)))
      obtain ⟨m, hm, em⟩ := Nm.rows.mp ((gm _).mp (List.mem_of_getElem? hgi))
      have lz : z.2.length = v := by rw [em]; exact Nm.rlen hm
      have sT := same_upd (o := .tup [.int (i : Nat), .ref z.1]) nTp
      have sm2 := sm.trans sT
      have hd2 := sT _ _ hd
      have hc2 := sT _ _ hcell
      have hTp : upd H2 Tp (.tup [.int (i : Nat), .ref z.1]) Tp = some (.tup [.int (i : Nat), .ref z.1]) := upd_same
      generalize upd H2 Tp (.tup [.int (i : Nat), .ref z.1]) = H3 at sT sm2 hd2 hc2 hTp ⊢
      refine ⟨Tp, _, rfl, SqT.of hTp, rfl, _, _, rfl, _, _, rfl, rfl, ?_⟩
      refine ⟨.ref z.1, rfl, z.1, rfl, ⟨_, SqT.of hc2⟩, for_it (walk_tup (K := K) (a := z.1) (xs := z.2.map V.int)) (fun t σ H' => ∃ (y5 : Option V) (kv2 : List (Key × V)), σ = [some (.ref p), some (.ref g), some (.ref d), some (.int (i : Nat)), some (.ref z.1), y5, none] ∧
          H' d = some (.dK kv2) ∧ kv2.length ≤ 16 * i + t ∧ Same H1 H' ∧ H' z.1 = some (.tup (z.2.map V.int)) ∧ (∀ (j : Nat) (row : List Int) (x : Int), j < i → gs[j]? = some row → x ∈ row → valV kv2 (.inl x) = some (.int (j : Nat))) ∧
          ∀ x ∈ z.2.take t, valV kv2 (.inl x) = some (.int (i : Nat)))
        ⟨_, kvs, rfl, hd2, by omega, sm2, hc2, inv, fun x h => by simp at h⟩ (fun t σ H' _ h => ?_) ?_ ?_⟩
      · obtain ⟨_, _, _, _, _, _, hc', _⟩ := h
        exact SqT.of hc'
      · rintro t x σ H4 H5 ht ⟨y5, kv2, rfl, hd4, lk2, sm4, hc4, inv2, inv3⟩ ⟨rfl, hx⟩
        obtain ⟨y, hy, rfl⟩ := int_at hx
        rw [List.length_map, lz] at ht
        refine ⟨.int (i : Nat), rfl, .ref d, rfl, .int y, rfl, d, _, rfl, DPut.k (k := .inl y) hd4 (lenLine (by omega)), _, _, rfl, upd_same, Nat.le_trans (putK_length _ _ _) (by omega), ?_, ?_, ?_, ?_⟩
        · intro b o hb
          rw [upd_ne (ne_of_none hb nd)]
          exact sm4 _ _ hb
        · rw [upd_ne (ne_of hc4 hd4 (by intro z; cases z))]
          exact hc4
        · intro j row x' hj hrow hx'
          rw [valV_put, if_neg ?_]
          · exact inv2 j row x' hj hrow hx'
          · intro e
            have e' : x' = y := Sum.inl.inj e
            subst e'
            have yz : x' ∈ z.2 := List.mem_of_getElem? hy
            obtain ⟨i0, hi0, ⟨q0, hq0, e0⟩, ex0⟩ := mem_rowTo.mp (em ▸ yz)
            subst ex0
            have g1 := g_own Nm gnd gm hgi hq0 yz
            have g2 := g_own Nm gnd gm hrow hq0 hx'
            omega
        · intro x' hx'
          rw [List.take_add_one, hy] at hx'
          rw [valV_put]
          rcases List.mem_append.mp hx' with h | h
          · split
            · rfl
            · exact inv3 x' h
          · have e' : x' = y := by simpa using h
            rw [if_pos (by rw [e'])]
      · rintro σ H4 ⟨y5, kv2, rfl, hd4, lk2, sm4, hc4, inv2, inv3⟩
        rw [List.length_map] at lk2 inv3
        rw [List.take_length] at inv3
        refine ⟨_, _, _, kv2, rfl, hd4, by omega, sm4, fun j row x hj hrow hx => ?_⟩
        by_cases e : j = i
        · subst e
          rw [hgi] at hrow
          cases hrow
          exact inv3 x hx
        · exact inv2 j row x (by omega) hrow hx
    · rintro σ H2 ⟨y3, y4, y5, kvs, rfl, hd, lk, sm, inv⟩
      rw [List.length_map, lL] at inv
      have hp2 := sm _ _ (sHg _ _ hp)
      have en : ((rs.map V.ref).length : Int).toNat = v * v := by
        rw [List.length_map]
        omega
      refine ⟨.ref p, rfl, p, _, rfl, .inr (SqT.of hp2), _, rfl, ?_, ?_, fun D nD => ?_⟩
      · rw [List.length_map]
        omega
      · rw [List.length_map]
        omega
      rw [en]
      have sD := same_upd (o := .lst []) nD
      refine lc_range (lo := 0) (n := v * v) (fun m H3 => ∃ ts : List Addr, H3 D = some (.lst (ts.map V.ref)) ∧ PR H3 ts ((nmPs gs ps (v * v)).take m) ∧ ts.length = m ∧ Same H2 H3) ⟨[], upd_same, .nil, rfl, sD⟩ ?_ ?_
      · rintro m H3 hm ⟨ts, hD, hP, lt, s3⟩
        have hq : ps[m]? = some (ps[m]'(by rw [Nm.len]; exact hm)) := List.getElem?_eq_getElem (by rw [Nm.len]; exact hm)
        generalize (ps[m]'(by rw [Nm.len]; exact hm)) = qm at hq
        have bq := Nm.bd (List.mem_of_getElem? hq)
        have hrow := Nm.row hq
        have hrm : rs[m]? = some (rs[m]'(by omega)) := List.getElem?_eq_getElem (by omega)
        obtain ⟨row, hrw, hcell⟩ := paired_get hR hrm
        rw [hrow] at hrw
        cases hrw
        have hcell3 := s3 _ _ (sm _ _ (sHg _ _ hcell))
        have hown : valV kvs (.inl (0 + (m : Int))) = some (.int ((gs.idxOf (rowTo ps qm.1 (v * v)) : Nat) : Int)) := by
          rw [Int.zero_add]
          exact inv _ _ _ (g_lt Nm gnd gm bq.1) (g_at Nm gnd gm bq.1) (mem_rowTo.mpr ⟨m, hm, ⟨qm, hq, rfl⟩, rfl⟩)
        refine ⟨rfl, yesI ⟨.ref d, rfl, d, rfl, .inl ⟨_, .inl (s3 _ _ hd)⟩, .int (0 + m), rfl, _, DGet.k (k := .inl (0 + (m : Int))) (s3 _ _ hd), ?_⟩⟩
        rw [hown]
        refine ⟨.ref g, rfl, .inl ⟨rfl, _, SqL.of (s3 _ _ (sm _ _ hg))⟩, .ref p, rfl, .int (0 + m), rfl, p, _, 0 + (m : Int), .ref (rs[m]'(by omega)), rfl, rfl, SqT.of (s3 _ _ hp2), ?_, ?_⟩
        · rw [Int.zero_add]
          exact atI_nat (by rw [List.getElem?_map, hrm]; rfl)
        refine ⟨g, .ref (rs[m]'(by omega)), rowD (rowTo ps qm.2 (v * v)), gs.map rowD, gs.idxOf (rowTo ps qm.2 (v * v)), rowD (rowTo ps qm.2 (v * v)), rfl, rfl, ?_, dpRow hcell3, shapedLT gs, shapedRow _, ?_, ?_, ?_, ?_⟩
        · rw [egs]
          exact .lst (SqL.of (s3 _ _ (sm _ _ hg))) (dpRowsL L' fun z hz => s3 _ _ (sm _ _ (sHg _ _ (hL' z hz))))
        · rw [List.getElem?_map, g_at Nm gnd gm bq.2]
          rfl
        · rw [eqv_row]
          exact decide_eq_true rfl
        · intro j z' hj hz'
          rw [List.getElem?_map] at hz'
          rcases e : gs[j]? with _ | r0
          · rw [e] at hz'
            cases hz'
          · rw [e] at hz'
            cases hz'
            rw [eqv_row]
            refine decide_eq_false fun e2 => ?_
            obtain ⟨hl, ee⟩ := List.getElem?_eq_some_iff.mp e
            rw [← e2, ← ee, gnd.idxOf_getElem j hl] at hj
            omega
        refine ⟨by show 2 ≤ sizeLine; decide, fun t nt => ?_⟩
        have st := same_upd (o := .tup [.int ((gs.idxOf (rowTo ps qm.1 (v * v)) : Nat) : Int), .int ((gs.idxOf (rowTo ps qm.2 (v * v)) : Nat) : Int)]) nt
        have hD' := st _ _ hD
        refine ⟨_, hD', by rw [List.length_map]; exact lenLine (by omega), ts ++ [t], ?_, ?_, ?_, ?_⟩
        · rw [upd_same, List.map_append]
          rfl
        · have hn : (nmPs gs ps (v * v))[m]? = some (gIx gs (rowTo ps qm.1 (v * v)), gIx gs (rowTo ps qm.2 (v * v))) := by
            unfold nmPs
            rw [List.getElem?_map, hq]
            rfl
          rw [List.take_add_one, hn]
          exact PR.kt (paired_append (hP.same st) (.cons upd_same .nil)) (KT.lst hD')
        · rw [List.length_append, lt]
          rfl
        · intro b o hb
          rw [upd_ne (ne_of_none hb nD)]
          exact st _ _ (s3 _ _ hb)
      · rintro H3 ⟨ts, hD, hP, lt, s3⟩
        have ln := nm_len Nm gnd gm
        rw [List.take_of_length_le (by omega)] at hP
        refine ⟨D, _, rfl, .inl ⟨SqL.of hD, fun t nt => ?_⟩⟩
        have st := same_upd (o := .tup (ts.map V.ref)) nt
        have s23 := s3.trans st
        have sAll := sHg.trans (sm.trans s23)
        have hT6 := hT.same sAll
        have e6 := nm_eq Nm gnd gm
        refine ⟨.ref p, rfl, .ref t, rfl, p, t, ts, nmPs gs ps (v * v), v, rfl, by rw [e6]; exact hT6, upd_same, hP.same st, ln, by omega, nm_bd Nm gnd gm, nm_nd Nm gnd gm, fun H7 s7 => ⟨_, rfl, iteT ?_⟩⟩
        refine ⟨.ref t, rfl, ?_⟩
        exact q t ts (nmPs gs ps (v * v)) H7 (sAll.trans s7) (s7 _ _ upd_same) ((hP.same st).same s7) ln (nm_bd Nm gnd gm) (nm_nd Nm gnd gm) e6.symm
end
end Nm

namespace GL
open PySem PySem.Spec PyProof.Rows L2
/-! ### data of any kind, heaps that grow -/
mutual
theorem dpS {K : PySem.W.Frag} {H H' : Hp} (s : Same H H') : ∀ (d : PyData) (v : V), Dp K H v d → Dp K H' v d
  | .none, _, h => by cases h; exact .non
  | .bool _, _, h => by cases h; exact .bl _
  | .int _, _, h => by cases h; exact .int _
  | .str _, _, h => by cases h; exact .str _
  | .list ds, _, h => by
    cases h with
    | lst hs ha => exact .lst (s.seq hs) (dpSA s ds _ ha)
  | .tuple ds, _, h => by
    cases h with
    | tup hs ha => exact .tup (Nm.Same.seqT s hs) (dpSA s ds _ ha)
  | .dict _, _, h => by cases h
theorem dpSA {K : PySem.W.Frag} {H H' : Hp} (s : Same H H') : ∀ (ds : List PyData) (vs : List V), DpAll K H vs ds → DpAll K H' vs ds
  | [], _, h => by cases h; exact .nil
  | d :: ds, _, h => by
    cases h with
    | cons h1 h2 => exact .cons (dpS s d _ h1) (dpSA s ds _ h2)
end
theorem DpAll.len {K : PySem.W.Frag} {H : Hp} : ∀ {vs : List V} {ds : List PyData}, DpAll K H vs ds → vs.length = ds.length
  | _, _, .nil => rfl
  | _, _, .cons _ t => by
    have := DpAll.len t
    simp [this]
theorem DpAll.at {K : PySem.W.Frag} {H : Hp} : ∀ {vs : List V} {ds : List PyData} {i : Nat} {v : V}, DpAll K H vs ds → vs[i]? = some v → ∃ d, ds[i]? = some d ∧ Dp K H v d
  | _, _, i, _, .nil, h => by simp at h
  | _, _, 0, _, .cons a t, h => by
    cases h
    exact ⟨_, rfl, a⟩
  | _, _, i + 1, _, .cons a t, h => DpAll.at (i := i) t (by simpa using h)
theorem DpAll.app {K : PySem.W.Frag} {H : Hp} : ∀ {vs ws : List V} {ds es : List PyData}, DpAll K H vs ds → DpAll K H ws es → DpAll K H (vs ++ ws) (ds ++ es)
  | _, _, _, _, .nil, h => h
  | _, _, _, _, .cons a t, h => .cons a (DpAll.app t h)
theorem DpAll.take {K : PySem.W.Frag} {H : Hp} : ∀ {vs : List V} {ds : List PyData} (n : Nat), DpAll K H vs ds → DpAll K H (vs.take n) (ds.take n)
  | _, _, 0, _ => by rw [List.take_zero, List.take_zero]; exact .nil
  | _, _, n + 1, .nil => .nil
  | _, _, n + 1, .cons a t => .cons a (DpAll.take n t)
theorem DpAll.drop {K : PySem.W.Frag} {H : Hp} : ∀ {vs : List V} {ds : List PyData} (n : Nat), DpAll K H vs ds → DpAll K H (vs.drop n) (ds.drop n)
  | _, _, 0, h => h
  | _, _, n + 1, .nil => .nil
  | _, _, n + 1, .cons a t => DpAll.drop n t
theorem DpAll.rev {K : PySem.W.Frag} {H : Hp} : ∀ {vs : List V} {ds : List PyData}, DpAll K H vs ds → DpAll K H vs.reverse ds.reverse
  | _, _, .nil => .nil
  | _, _, .cons a t => by
    rw [List.reverse_cons, List.reverse_cons]
    exact DpAll.app (DpAll.rev t) (.cons a .nil)
/-- a heap without the place p -/
def rm (H : Hp) (p : Addr) : Hp := fun a => if a = p then none else H a
theorem rm_sub {H : Hp} {p : Addr} : Same (rm H p) H := fun b o h => by
  unfold rm at h
  split at h
  · cases h
  · exact h
theorem rm_of {H : Hp} {p a : Addr} {o : HO} (n : a ≠ p) (h : H a = some o) : rm H p a = some o := by
  unfold rm
  rw [if_neg n]
  exact h
theorem rm_kp {H H' : Hp} {p : Addr} (k : Nm.Kp p H H') : Same (rm H p) (rm H' p) := fun b o h => by
  unfold rm at h
  split at h
  · cases h
  · exact rm_of ‹_› (k _ _ ‹_› h)
/-- what of H' was not there in H -/
def nw (H H' : Hp) : Hp := fun a => if (H a).isNone = true then H' a else none
theorem nw_sub {H H' : Hp} : Same (nw H H') H' := fun b o h => by
  unfold nw at h
  split at h
  · exact h
  · cases h
theorem nw_of {H H' : Hp} {a : Addr} {o : HO} (n : H a = none) (h : H' a = some o) : nw H H' a = some o := by
  unfold nw
  rw [n]
  exact h
theorem nw_grow {H H1 H2 : Hp} (s : Same H1 H2) : Same (nw H H1) (nw H H2) := fun b o h => by
  unfold nw at h
  split at h
  · unfold nw
    rw [if_pos ‹_›]
    exact s _ _ h
  · cases h
theorem none_back {H H1 : Hp} (s : Same H H1) {a : Addr} (h : H1 a = none) : H a = none := by
  rcases e : H a with _ | o
  · rfl
  · rw [s _ _ e] at h
    cases h
theorem nw_back {H H1 H2 : Hp} (s : Same H H1) : Same (nw H1 H2) (nw H H2) := fun b o h => by
  unfold nw at h
  split at h
  · have e : H1 b = none := by
      rcases e : H1 b with _ | o
      · rfl
      · rename_i z
        rw [e] at z
        cases z
    exact nw_of (none_back s e) h
  · cases h
theorem nw_rm {H H' : Hp} {p : Addr} {o : HO} (h : H p = some o) : Same (nw H H') (rm H' p) := fun b u e => by
  unfold nw at e
  split at e
  · refine rm_of (fun z => ?_) e
    rename_i y
    rw [z, h] at y
    cases y
  · cases e
/-! ### displays that are data -/
section
variable {X : Cx}
def tLit (K : PySem.W.Frag) (d : PyData) : TE := fun _ H Q => ∀ (v : V) (H' : Hp), Same H H' → Dp K (nw H H') v d → Q v H'
def tLits (K : PySem.W.Frag) (ds : List PyData) : TA := fun _ H Q => ∀ (vs : List V) (H' : Hp), Same H H' → DpAll K (nw H H') vs ds → Q vs H'
theorem PE.weak {e : Expr} {t t' : TE} (h : PE X e t) (i : ∀ σ H Q, t' σ H Q → t σ H Q) : PE X e t' := ⟨fun pins s σ H Q I q => h.run pins s σ H Q I (i _ _ _ q)⟩
theorem PA.weak {es : List Expr} {t t' : TA} (h : PA X es t) (i : ∀ σ H Q, t' σ H Q → t σ H Q) : PA X es t' := ⟨fun pos pins s σ H Q I q => h.run pos pins s σ H Q I (i _ _ _ q)⟩
variable {K : PySem.W.Frag}
theorem lt_non {k : Nat} {pos : Pos} : PE X (.Constant .none k pos) (tLit K .none) := PE.weak pe_non fun _ H Q q => q _ H (Same.refl _) .non
theorem lt_bl {k : Nat} {pos : Pos} {b : Bool} : PE X (.Constant (.bool b) k pos) (tLit K (.bool b)) := PE.weak pe_bl fun _ H Q q => q _ H (Same.refl _) (.bl b)
theorem lt_int {k : Nat} {pos : Pos} {i : Int} : PE X (.Constant (.int i) k pos) (tLit K (.int i)) := PE.weak pe_int fun _ H Q q => q _ H (Same.refl _) (.int i)
theorem lt_neg {k : Nat} {p1 pos : Pos} {i : Int} : PE X (.UnaryOp .USub (.Constant (.int i) k p1) pos) (tLit K (.int (-i))) := PE.weak (pe_un un_neg pe_int) fun _ H Q q => ⟨_, rfl, q _ H (Same.refl _) (.int (-i))⟩
theorem lt_str {k : Nat} {pos : Pos} {x : Str} : PE X (.Constant (.str x) k pos) (tLit K (.str x)) := PE.weak pe_str fun _ H Q q => q _ H (Same.refl _) (.str x)
theorem lts_nil : PA X [] (tLits K []) := PA.weak pa_nil fun _ H Q q => q _ H (Same.refl _) .nil
theorem lts_cons {e : Expr} {es : List Expr} {d : PyData} {ds : List PyData} (h : PE X e (tLit K d)) (r : PA X es (tLits K ds)) (hs : starEach (e :: es) X.env = (false, eval e X.env) :: starEach es X.env := by rfl) : PA X (e :: es) (tLits K (d :: ds)) :=
  PA.weak (pa_cons h r hs) fun _ H Q q v H1 s1 d1 vs H2 s2 d2 => q (v :: vs) H2 (s1.trans s2) (.cons (dpS (nw_grow s2) _ _ d1) (dpSA (nw_back s1) _ _ d2))
theorem lt_tup {es : List Expr} {j : Nat} {pos : Pos} {ds : List PyData} (h : PA X es (tLits K ds)) (hz : ds.length ≤ 1000 := by decide) : PE X (.Tuple es j pos) (tLit K (.tuple ds)) :=
  PE.weak (pe_tup h) fun _ H Q q vs H1 s1 d1 => by
    have l := DpAll.len d1
    refine ⟨Nat.le_trans (by omega : vs.length ≤ 1000) (by decide), fun t nt => q _ _ (s1.trans (Nm.same_upd nt)) (.tup (SqT.of (nw_of (none_back s1 nt) upd_same)) (dpSA (nw_grow (Nm.same_upd nt)) _ _ d1))⟩
theorem lt_lst {es : List Expr} {pos : Pos} {ds : List PyData} (h : PA X es (tLits K ds)) (hz : ds.length ≤ 1000 := by decide) : PE X (.List es pos) (tLit K (.list ds)) :=
  PE.weak (pe_lst h) fun _ H Q q vs H1 s1 d1 => by
    have l := DpAll.len d1
    refine ⟨Nat.le_trans (by omega : vs.length ≤ 1000) (by decide), fun t nt => q _ _ (s1.trans (Nm.same_upd nt)) (.lst (SqL.of (nw_of (none_back s1 nt) upd_same)) (dpSA (nw_grow (Nm.same_upd nt)) _ _ d1))⟩
end
/-! ### repr of data of any kind, and of {} -/
section
variable {X : Cx}
theorem reprA {K : PySem.W.Frag} (gu : X.A.guards = some []) (hu : X.A.units + 64 < cLine) (hK : X.K = K := by rfl) :
    CallR X (.builtin "repr") (fun xs H Q => ∃ v d, xs = [v] ∧ Dp K H v d ∧ d.showable = true ∧ d.hasDict = false ∧ d.depth ≤ 20 ∧ d.shown.length ≤ sizeLine ∧ Q (.str d.shown) H) := by
  subst hK
  intro pins s σ H xs us Q I r h
  obtain ⟨v, d, rfl, dp, sh, nd, de, sz, q⟩ := h
  obtain ⟨u, rfl, ru⟩ := vals1 r
  obtain ⟨as, rd⟩ := Dp.reads I d v u dp ru
  have go : ∀ (a : Addr), u = .ref a → wpAny (model X.prog X.w) X.A (call (.builtin "repr") [u]) (EP X pins σ Q) X.xe s := fun a e => by
    subst e
    refine repr_of_reads' (h₀ := s.heap) rd sh (PyData.noDict_hsm nd) gu (by omega) (fun _ _ z => z) ?_ sz
    intro h' u tk kp
    exact ⟨.str _, H, I.kept kp, ⟨_, rfl⟩, q⟩
  cases dp with
  | non =>
    cases (show u = Value.none from ru)
    exact PySem.P.repr_of_none ⟨.str _, H, I.tok _, ⟨_, rfl⟩, q⟩
  | bl b =>
    cases (show u = Value.bool b from ru)
    exact PySem.P.repr_of_bool ⟨.str _, H, I.tok _, ⟨_, rfl⟩, by cases b <;> exact q⟩
  | int i =>
    obtain ⟨t, rfl⟩ := ru
    exact PySem.P.repr_of_int (by simpa [PyData.showable] using sh) ⟨.str _, H, I.tok _, ⟨_, rfl⟩, q⟩
  | str x =>
    obtain ⟨t, rfl⟩ := ru
    exact PySem.P.repr_of_str ⟨.str _, H, I.tok _, ⟨_, rfl⟩, q⟩ sz
  | lst hs ha => exact go _ ru
  | tup hs ha => exact go _ ru
theorem reprD {K : PySem.W.Frag} (gu : X.A.guards = some []) (hu : X.A.units + 64 < cLine) (hK : X.K = K := by rfl) :
    CallR X (.builtin "repr") (fun xs H Q => ∃ a, xs = [.ref a] ∧ H a = some (.dK []) ∧ Q (.str (PyData.dict []).shown) H) := by
  subst hK
  intro pins s σ H xs us Q I r h
  obtain ⟨a, rfl, ha, q⟩ := h
  obtain ⟨u, rfl, rfl⟩ := vals1 r
  obtain ⟨_, sy, vs, kv, o, es, ep, h1, h2, h3, _, h4, _⟩ := I.hok a _ ha
  cases kv
  have he : es.toList = [] := by
    cases e : es.toList with
    | nil => rfl
    | cons x r =>
      rw [e] at h4
      cases h4
  have rd : Reads s.heap (.ref a) (.dict []) [a] := Reads.dict (as := []) (bs := []) h1 h2.1 h3 (by rw [he]; exact .nil) (by rw [he]; exact .nil)
  refine repr_of_reads' (h₀ := s.heap) rd rfl (fun _ z => ?_) gu (by simp [PyData.depth, PyData.depthKv]; omega) (fun _ _ z => z) ?_ (by decide +kernel)
  · rw [List.mem_singleton.mp z] at sy
    simp at sy
  intro h' u tk kp
  exact ⟨.str _, H, I.kept kp, ⟨_, rfl⟩, q⟩
/-! ### t[::-1] -/
def tRevT (K : PySem.W.Frag) (te : TE) : TE := fun σ H Q => te σ H fun x H1 => ∃ a xs, x = .ref a ∧ SqT K H1 a xs ∧ ∀ p, H1 p = none → Q (.ref p) (upd H1 p (.tup xs.reverse))
theorem pick_back (xs : Array Value) : ((List.range xs.size).filterMap fun (k : Nat) => xs[(((xs.size : Int) - 1) + (k : Int) * (-1)).toNat]?).toArray = xs.toList.reverse.toArray := by
  have e : (List.range xs.size).filterMap (fun (k : Nat) => xs[(((xs.size : Int) - 1) + (k : Int) * (-1)).toNat]?) = ((List.range xs.size).map fun k => xs.size - 1 - k).filterMap (xs[·]?) := by
    rw [List.filterMap_map]
    have aux : ∀ (l : List Nat) (f g : Nat → Option Value), (∀ k ∈ l, f k = g k) → l.filterMap f = l.filterMap g := fun l f g => by
      induction l with
      | nil => intro _; rfl
      | cons a l ih =>
        intro h
        rw [List.filterMap_cons, List.filterMap_cons, h a List.mem_cons_self, ih fun k hk => h k (List.mem_cons_of_mem _ hk)]
    refine aux _ _ _ fun k hk => ?_
    have hl := List.mem_range.mp hk
    have : (((xs.size : Int) - 1) + (k : Int) * (-1)).toNat = xs.size - 1 - k := by omega
    show xs[(((xs.size : Int) - 1) + (k : Int) * (-1)).toNat]? = xs[xs.size - 1 - k]?
    rw [this]
  rw [e, PySem.W.krv_range, List.filterMap_reverse, PySem.W.krv_all]
section
variable {prog : Program} {w : World} {A : Around} {E : Value → Shared → Prop} {s : Shared}
theorem sliceApplied_back {sl : Addr} {vl vu vs : Value} {n : Nat} {Q : Int × Int × Nat → Shared → Prop} (hs : s.heap.IsSliceOf sl vl vu vs) (pl : IsPart vl none) (pu : IsPart vu none) (ps : IsPart vs (some (-1)))
    (h : Q ((n : Int) - 1, -1, n) s) : wpAny (model prog w) A (Builtin.Slice.sliceApplied (.ref sl) (pure (n : Int))) Q E s := by
  obtain ⟨os, hos, hcs, hds⟩ := id hs
  unfold Builtin.Slice.sliceApplied Builtin.Slice.sliceFields
  refine wpAny_bind (wpAny_bind (wpAny_field hos hds (x := vl) rfl (wpAny_bind (wpAny_field hos hds (x := vu) rfl (wpAny_bind (wpAny_field hos hds (x := vs) rfl (wpAny_pure ?_)))))))
  refine wpAny_bind (HT.slicePart_ ps ?_)
  show wpAny _ _ (if ((-1 : Int) == 0) = true then _ else _) _ _ s
  rw [if_neg (by decide)]
  refine wpAny_bind (HT.slicePart_ pl (wpAny_bind (HT.slicePart_ pu (wpAny_bind (wpAny_pure ?_)))))
  have e : Builtin.Slice.slicePlaces ((n : Int) - 1) (-1) (-1) = n := by
    unfold Builtin.Slice.slicePlaces
    have h1 : ¬ ((-1 : Int) > 0) := by decide
    simp only [h1, if_false]
    split
    · rw [show (- -1 : Int) = 1 by decide, Int.ediv_one]
      omega
    · omega
  show wpAny _ _ (pure ((n : Int) - 1, (-1 : Int), Builtin.Slice.slicePlaces ((n : Int) - 1) (-1) (-1))) _ _ s
  rw [e]
  exact wpAny_pure h
theorem getItem_tuple_back {t sl : Addr} {items : Array Value} {vl vu vs : Value} {Q : Value → Shared → Prop} (ht : IsTup s.heap t items) (hs : s.heap.IsSliceOf sl vl vu vs) (pl : IsPart vl none) (pu : IsPart vu none) (ps : IsPart vs (some (-1)))
    (h : Q (.ref s.heap.objs.size) { s with heap := s.heap.push { cls := .type "tuple", data := .seq items.toList.reverse.toArray } })
    (hsz : items.size ≤ sizeLine) : wpAny (model prog w) A (getItem (.ref t) (.ref sl)) Q E s := by
  have htake : sizeOk (.seq items.toList.reverse.toArray) := by
    show items.toList.reverse.toArray.size ≤ sizeLine
    rw [List.size_toArray, List.length_reverse, Array.length_toList]
    exact hsz
  obtain ⟨os, hos, hcs, hds⟩ := id hs
  have hTs : s.TypeIs (.ref sl) "slice" := ⟨os, hos, hcs⟩
  unfold getItem
  try with_reducible refine wpAny_holding ?_
  first | refine wpAny_bind (wpAny_pure ?_) | skip
  refine wpAny_bind (wpAny_sequenceKey ht.typeIs (by decide) ?_)
  refine wpAny_bind (wpAny_callSpecial?_slot (name := Str.ofString "__getitem__") ht.typeIs PyProof.Rows.slot_tuple_getitem
    (wpAny_call_entry PyProof.Rows.slot_tuple_getitem ht.typeIs entry_tuple_getitem ?_ (args_tuple_getitem _ _)))
  show wpAny _ _ (Builtin.Tuple.tupleItemsOf (.ref t) >>= _) _ _ s
  refine wpAny_bind (tupleItemsOf_ ht ?_)
  refine wpAny_bind (wpAny_typeOf hTs ?_)
  rw [if_pos (by decide)]
  refine wpAny_bind (sliceApplied_back hs pl pu ps ?_)
  have hno : ¬ ((((items.size : Int) - 1) == 0 && (-1 : Int) == 1 && items.size == items.size) = true) := by simp
  show wpAny _ _ (if (((items.size : Int) - 1) == 0 && (-1 : Int) == 1 && items.size == items.size) = true then _ else _) _ _ s
  rw [if_neg hno, pick_back]
  first
    | exact wpAny_bind (m := Builtin.Tuple.tupleExact _) (wpAny_newObj_type (wpAny_pure ⟨_, rfl, wpAny_pure h⟩) htake)
    | exact wpAny_bind (m := Builtin.Tuple.tupleExact _) (wpAny_newObj_type (wpAny_bind (wpAny_pure (wpAny_pure ⟨_, rfl, wpAny_pure h⟩))) htake)
    | exact wpAny_bind (wpAny_bind (m := Builtin.Tuple.tupleExact _) (wpAny_newObj_type (wpAny_pure (wpAny_pure ⟨_, rfl, wpAny_pure h⟩)) htake))
    | exact wpAny_bind (wpAny_bind (m := Builtin.Tuple.tupleExact _) (wpAny_newObj_type (wpAny_pure ⟨_, rfl, wpAny_pure h⟩) htake))
end
theorem pe_revT {K : PySem.W.Frag} {e : Expr} {te : TE} {k : Nat} {p1 p2 p3 pos : Pos} (he : PE X e te) (hK : X.K = K := by rfl) : PE X (.Subscript e (.Slice none none (some (.UnaryOp .USub (.Constant (.int 1) k p1) p2)) p3) pos) (tRevT K te) := by
  subst hK
  refine ⟨fun pins s σ H Q I h => ?_⟩
  refine Subscript_ (thn (he.run pins s σ H _ I h) fun v s1 ⟨x, H1, I1, r1, q1⟩ => ?_)
  obtain ⟨a, xs, ex, hx, q⟩ := q1
  subst ex
  cases r1
  have hst : PO X (some (.UnaryOp .USub (.Constant (.int 1) k p1) p2)) (tPart (tUn (rU fun i => .int (-i)) (tC (.int 1)))) := po_some (pe_un un_neg pe_int)
  refine wpAny_Slice (thn (po_none.run pins s1 σ H1 (fun o H2 => o = none ∧ H2 = H1) I1 ⟨rfl, rfl⟩) fun vl s2 ⟨l, H2, I2, pl, el, e2⟩ => ?_)
  subst el e2
  refine thn (po_none.run pins s2 σ H2 (fun o H3 => o = none ∧ H3 = H2) I2 ⟨rfl, rfl⟩) fun vu s3 ⟨u, H3, I3, pu, eu, e3⟩ => ?_
  subst eu e3
  refine thn (hst.run pins s3 σ H3 (fun o H4 => o = some (-1) ∧ H4 = H3) I3 ⟨1, rfl, -1, rfl, rfl, rfl⟩) fun vs s4 ⟨o, H4, I4, ps, eo, e4⟩ => ?_
  subst eo e4
  have I5 : Inv X pins σ H4 { s4 with heap := s4.heap.push { cls := .type "slice", data := .fields #[vl, vu, vs] } } := I4.kept (t' := s4.toks) fun b ob q => Heap.get?_push_of_some _ q
  obtain ⟨its, r, ht, hz⟩ := I5.tuple hx
  have hlen := r.length
  show wpAny (model X.prog X.w) X.A (subscriptTail e (.Slice none none (some (.UnaryOp .USub (.Constant (.int 1) k p1) p2)) p3) (.ref a) (.ref s4.heap.objs.size)) (EP X pins σ Q) X.xe { s4 with heap := s4.heap.push { cls := .type "slice", data := .fields #[vl, vu, vs] } }
  refine tail_any (ops := [.ref a, .ref s4.heap.objs.size]) ht.typeIs (PyProof.Rows.slot_tuple_getitem.lookup) ?_ (by with_unfolding_all rfl)
  refine getItem_tuple_back ht (Heap.IsSliceOf.new _ vl vu vs) pl pu ps ?_ (by rw [List.size_toArray]; omega)
  refine ⟨.ref _, _, I5.laid (t' := s4.toks) (o := .tup xs.reverse) (fun b ob q => Heap.get?_push_of_some _ q) (Nat.le_refl _) ?_, rfl, q _ (I5.hok.fresh (Nat.le_refl _))⟩
  exact ⟨by rw [List.length_reverse]; exact hz, its.reverse, r.reverse, by have z := IsTup.new (s4.heap.push { cls := .type "slice", data := .fields #[vl, vu, vs] }) its.reverse.toArray; simpa using z⟩
/-! ### set(t), t a tuple of ints -/
theorem setTI {K : PySem.W.Frag} (hc : X.calm = true) (hK : X.K = K := by rfl) : CallR X (.type "set") (fun xs H Q => ∃ (l : Addr) (ns : List Int), xs = [V.ref l] ∧ SqT K H l (ns.map V.int) ∧ ns.length < 1000 ∧
    ∀ (a : Addr) (c : Nat), H a = none → c ≤ ns.length → Q (.ref a) (upd H a (SetO X.w a (fun j => decide (j ∈ ns)) c))) := by
  subst hK
  intro pins s σ H xs us Q I r h
  obtain ⟨l, ns, rfl, hl, hz, q⟩ := h
  rw [Vals.ref1 r]
  obtain ⟨its, rv, tp, _⟩ := I.tuple hl
  refine call_set_tupI (P := X.prog) (w := X.w) ns (I.ok.hd hc) tp (by simpa using intsAre_of rv) (Nat.lt_of_le_of_lt (by omega : ns.length + 1 ≤ 1001) (by decide)) fun h' tk c R hc' kp => ?_
  exact ⟨.ref s.heap.objs.size, _, I.laid (t' := tk) kp (Nat.le_refl _) (setO_new R), rfl, q _ c (I.hok.fresh (Nat.le_refl _)) hc'⟩
end
end GL
namespace Nm
open PySem PySem.Spec PyProof.Rows L2 GL
/-! ### small data -/
def Fit : Nat → PyData → Prop
  | _, .none => True
  | _, .bool _ => True
  | _, .int i => -100 < i ∧ i < 100
  | _, .str x => (PyData.str x).shown.length ≤ 20
  | n + 1, .tuple ds => ds.length ≤ 40 ∧ ∀ x ∈ ds, Fit n x
  | n + 1, .list ds => ds.length ≤ 40 ∧ ∀ x ∈ ds, Fit n x
  | _, _ => False
def big : Nat → Nat
  | 0 => 20
  | n + 1 => 40 * (big n + 2) + 3
structure Fine (d : PyData) (n b : Nat) : Prop where
  ok : d.showable = true
  nd : d.hasDict = false
  dp : d.depth ≤ n
  len : d.shown.length ≤ b
theorem int_fine {i : Int} (h : -100 < i ∧ i < 100) : (PyData.shown (.int i)).length ≤ 20 ∧ PyData.showable (.int i) = true := by
  have all : ∀ n : Fin 200, (PyData.shown (.int ((n.val : Int) - 100))).length ≤ 20 ∧ PyData.showable (.int ((n.val : Int) - 100)) = true := by decide +kernel
  have z := all ⟨(i + 100).toNat, by omega⟩
  rw [show (((i + 100).toNat : Nat) : Int) - 100 = i by omega] at z
  exact z
theorem all_fine {n b : Nat} : ∀ ds : List PyData, (∀ x ∈ ds, Fine x n b) → PyData.showableAll ds = true ∧ PyData.hasDictAll ds = false ∧ PyData.depthAll ds ≤ n ∧ piled (PyData.shownAll ds) ≤ (b + 2) * ds.length
  | [], _ => by simp [PyData.shownAll, PyData.showableAll, PyData.hasDictAll, piled_nil, PyData.depthAll]
  | x :: ds, h => by
    have h0 := h x List.mem_cons_self
    have ih := all_fine ds fun y hy => h y (List.mem_cons_of_mem _ hy)
    have l0 := h0.len
    have d0 := h0.dp
    refine ⟨by simp [PyData.showableAll, h0.ok, ih.1], by simp [PyData.hasDictAll, h0.nd, ih.2.1], ?_, ?_⟩
    · rw [PyData.depthAll]
      have := ih.2.2.1
      omega
    · rw [PyData.shownAll, piled_cons, List.length_cons, Nat.mul_succ]
      have := ih.2.2.2
      omega
theorem from_len : ∀ (ts : List Str) (k : Nat) (acc : Str), (textFrom k acc ts).length ≤ acc.length + piled ts
  | [], k, acc => Nat.le_add_right _ _
  | t :: ts, k, acc => by
    have ih := from_len ts (k + 1) (acc ++ (if k > 0 then ", " else "" : String) ++ t)
    have e : (((if k > 0 then ", " else "" : String) : Str)).length ≤ 2 := by split <;> decide +kernel
    rw [strLen_append, strLen_append] at ih
    rw [piled_cons]
    show (textFrom (k + 1) (acc ++ (if k > 0 then ", " else "" : String) ++ t) ts).length ≤ _
    omega
theorem list_len (ts : List Str) : (listText ts).length ≤ piled ts + 2 := by
  have h := from_len ts 0 "["
  have e1 : ((("[" : String) : Str)).length = 1 := rfl
  have e2 : ((("]" : String) : Str)).length = 1 := rfl
  unfold listText
  rw [strLen_append]
  omega
theorem big_mono : ∀ n, 20 ≤ big n
  | 0 => Nat.le_refl _
  | n + 1 => by
    have := big_mono n
    show 20 ≤ 40 * (big n + 2) + 3
    omega
theorem fit_fine : ∀ (n : Nat) (d : PyData), Fit n d → Fine d n (big n)
  | n, .none, _ => ⟨rfl, rfl, Nat.zero_le _, Nat.le_trans (by decide +kernel) (big_mono n)⟩
  | n, .bool b, _ => ⟨rfl, rfl, Nat.zero_le _, Nat.le_trans (by cases b <;> decide +kernel) (big_mono n)⟩
  | n, .int i, h => by
    unfold Fit at h
    have z := int_fine h
    exact ⟨z.2, rfl, Nat.zero_le _, Nat.le_trans z.1 (big_mono n)⟩
  | n, .str x, h => by
    unfold Fit at h
    exact ⟨rfl, rfl, Nat.zero_le _, Nat.le_trans h (big_mono n)⟩
  | 0, .tuple ds, h => by
    unfold Fit at h
    exact h.elim
  | 0, .list ds, h => by
    unfold Fit at h
    exact h.elim
  | n + 1, .tuple ds, h => by
    unfold Fit at h
    have z := all_fine ds fun x hx => fit_fine n x (h.2 x hx)
    refine ⟨by simpa [PyData.showable] using z.1, by simpa [PyData.hasDict] using z.2.1, by have := z.2.2.1; rw [PyData.depth]; omega, ?_⟩
    have y := fmt_text (PyData.shownAll ds)
    have m : (big n + 2) * ds.length ≤ (big n + 2) * 40 := Nat.mul_le_mul_left _ h.1
    show (tupleText (PyData.shownAll ds)).length ≤ 40 * (big n + 2) + 3
    have := z.2.2.2
    omega
  | n + 1, .list ds, h => by
    unfold Fit at h
    have z := all_fine ds fun x hx => fit_fine n x (h.2 x hx)
    refine ⟨by simpa [PyData.showable] using z.1, by simpa [PyData.hasDict] using z.2.1, by have := z.2.2.1; rw [PyData.depth]; omega, ?_⟩
    have y := list_len (PyData.shownAll ds)
    have m : (big n + 2) * ds.length ≤ (big n + 2) * 40 := Nat.mul_le_mul_left _ h.1
    show (listText (PyData.shownAll ds)).length ≤ 40 * (big n + 2) + 3
    have := z.2.2.2
    omega
  | 0, .dict _, h => by
    unfold Fit at h
    exact h.elim
  | n + 1, .dict _, h => by
    unfold Fit at h
    exact h.elim
structure ShA (d : PyData) : Prop where
  a : d.showable = true
  b : d.hasDict = false
  c : d.depth ≤ 20
  d : d.shown.length ≤ sizeLine
theorem shA {d : PyData} (h : Fit 3 d) : ShA d := by
  have z := fit_fine 3 d h
  exact ⟨z.ok, z.nd, by have := z.dp; omega, Nat.le_trans z.len (by decide)⟩
/-! ### the type of data -/
def tyN : PyData → String
  | .none => "NoneType"
  | .bool _ => "bool"
  | .int _ => "int"
  | .str _ => "str"
  | .list _ => "list"
  | .tuple _ => "tuple"
  | .dict _ => "dict"
theorem tyD {K : PySem.W.Frag} {H : Hp} {v : V} {d : PyData} (h : Dp K H v d) : TyX K H v (.type (tyN d)) := by
  cases h with
  | non => exact .base .non
  | bl b => exact .base (.bl b)
  | int i => exact .base (.int i)
  | str x => exact .base (.str x)
  | lst hs ha =>
    rcases hs with (h | ⟨o, h⟩) | ⟨o, its, n, hk, hc, _⟩
    · exact .base (.lst h)
    · exact .base (.frz h)
    · exact .kList hk hc
  | tup hs ha =>
    rcases hs with (h | ⟨o, h⟩) | ⟨o, its, n, hk, hc, _⟩
    · exact .base (.tup h)
    · exact .fTuple h
    · exact .kTuple hk hc
end Nm

namespace Nm
open PySem PySem.Spec PyProof.Rows L2 GL
/-! ### what is asked of data of any kind -/
def isT : PyData → Bool | .tuple _ => true | _ => false
def isB : PyData → Bool | .bool _ => true | _ => false
def isI : PyData → Bool | .bool _ => true | .int _ => true | _ => false
def isS : PyData → Bool | .str _ => true | _ => false
theorem kitT (d : PyData) : kitB (tyN d) "tuple" = some (isT d) := by cases d <;> (simp only [tyN, isT]; decide +kernel)
theorem kitBo (d : PyData) : kitB (tyN d) "bool" = some (isB d) := by cases d <;> (simp only [tyN, isB]; decide +kernel)
theorem kitI (d : PyData) : kitB (tyN d) "int" = some (isI d) := by cases d <;> (simp only [tyN, isI]; decide +kernel)
theorem kitS (d : PyData) : kitB (tyN d) "str" = some (isS d) := by cases d <;> (simp only [tyN, isS]; decide +kernel)
def belowD (l : Int) : PyData → Bool | .int i => decide (0 ≤ i) && decide (i < l) | _ => false
def toI : PyData → Int | .int i => i | _ => 0
def ascD (l : Int) : PyData → Bool | .tuple ds => ds.all (belowD l) && decide ((ds.map toI).Pairwise (· < ·)) | _ => false
def ruleD : PyData → Bool | .tuple ds => (decide (1 ≤ ds.length) && decide (ds.length ≤ 16)) && ds.all (ascD ds.length) | _ => false
theorem below_int {l : Int} {d : PyData} (h : belowD l d = true) : d = .int (toI d) := by
  cases d <;> first | rfl | cases h
theorem dp_ints {K : PySem.W.Frag} {H : Hp} {l : Int} : ∀ {vs : List V} {ds : List PyData}, DpAll K H vs ds → ds.all (belowD l) = true → vs = (ds.map toI).map V.int
  | _, _, .nil, _ => rfl
  | _, _, .cons (d := d) h t, a => by
    rw [List.all_cons, Bool.and_eq_true] at a
    have e := below_int a.1
    have ih := dp_ints t a.2
    rw [e] at h
    cases h
    rw [List.map_cons, List.map_cons, ih]
theorem all_take {α : Type} (f : α → Bool) (l : List α) : ((l.take l.length).map f).all id = l.all f := by
  rw [List.take_length, List.all_map]
  rfl
theorem chain_all (ns : List Int) : ((List.range (ns.length - 1)).map fun (i : Nat) => decide (ns.getD i 0 < ns.getD (i + 1) 0)).all id = decide (ns.Pairwise (· < ·)) := by
  rw [Bool.eq_iff_iff, decide_eq_true_eq, List.all_map, List.all_eq_true]
  refine ⟨fun h => chain_pw ns fun i a b ha hb => ?_, fun h i hi => ?_⟩
  · have il := (List.getElem?_eq_some_iff.mp hb).1
    have z := h i (List.mem_range.mpr (by omega))
    have y := of_decide_eq_true (show decide (ns.getD i 0 < ns.getD (i + 1) 0) = true from z)
    rw [List.getD_eq_getElem?_getD, List.getD_eq_getElem?_getD, ha, hb] at y
    exact y
  · have il := List.mem_range.mp hi
    have h1 : i < ns.length := by omega
    have h2 : i + 1 < ns.length := by omega
    show decide (ns.getD i 0 < ns.getD (i + 1) 0) = true
    rw [List.getD_eq_getElem?_getD, List.getD_eq_getElem?_getD, List.getElem?_eq_getElem h1, List.getElem?_eq_getElem h2]
    exact decide_eq_true ((List.pairwise_iff_getElem.mp h) i (i + 1) h1 h2 (by omega))
section
variable {P : Program} {w : World} {K : PySem.W.Frag} {mg : Str → Option Value} {base : Heap}
def spBelowA (K : PySem.W.Frag) : Sp := fun vs H Q _ => ∃ (v : V) (d : PyData) (l : Int), vs = [v, .int l] ∧ Dp K H v d ∧ Q (.bl (belowD l d)) H
theorem ok_belowA {f : Addr} {fd : FuncData} {k : Nat} (F : Fun K "is_below" "is_below" sBelow f fd) (B : LibJ mg) : FnOk P w K mg base CX0 (k + 1) f fd ["value", "limit"] (spBelowA K) := by
  refine F.ok scBelow (fun vs H Q E h => ?_) (fun cdv A outer s H vs Q E hr h => ?_)
  · obtain ⟨v, d, l, rfl, _⟩ := h
    rfl
  · obtain ⟨v, d, l, rfl, hd, q⟩ := h
    refine ⟨_, pss_cons (ps_if (PW.pt (pw_or (pt_val (pe_callB (isiK (K := K)) (by rfl) B.isi (by decide +kernel) (pa_cons (pv 0) (pa_cons (pe_bltn (v := .ty "bool") (by rfl) B.bool (by decide +kernel) rfl) pa_nil))))
        (pw_or1 (pt_not (pt_val (pe_callB (isiK (K := K)) (by rfl) B.isi (by decide +kernel) (pa_cons (pv 0) (pa_cons (pe_bltn (v := .ty "int") (by rfl) B.int (by decide +kernel) rfl) pa_nil))))))))
        (pss_one (ps_ret pe_bl)) pss_nil)
      (pss_one (ps_ret (pe_chain op_le op_lt pe_int (pv 0) (pv 1)))), ?_⟩
    refine ⟨v, rfl, _, _, _, _, isB d, rfl, .ty "bool", tyD hd, kit_ty (kitBo d), _, rfl, ?_⟩
    cases d with
    | bool b => exact iteT q
    | int i =>
      refine iteF ⟨v, rfl, _, _, _, _, true, rfl, .ty "int", tyD hd, kit_ty (kitI _), _, rfl, iteF ?_⟩
      cases hd
      refine ⟨.int i, rfl, 0, i, rfl, rfl, _, rfl, ?_⟩
      by_cases h0 : 0 ≤ i
      · rw [decide_eq_true h0]
        refine iteT ⟨.int l, rfl, i, l, rfl, rfl, ?_⟩
        simp only [belowD, decide_eq_true h0, Bool.true_and] at q
        exact q
      · rw [decide_eq_false h0]
        refine iteF ?_
        simp only [belowD, decide_eq_false h0, Bool.false_and] at q
        exact q
    | none => exact iteF ⟨v, rfl, _, _, _, _, false, rfl, .ty "int", tyD hd, kit_ty (kitI _), _, rfl, iteT q⟩
    | str x => exact iteF ⟨v, rfl, _, _, _, _, false, rfl, .ty "int", tyD hd, kit_ty (kitI _), _, rfl, iteT q⟩
    | list x => exact iteF ⟨v, rfl, _, _, _, _, false, rfl, .ty "int", tyD hd, kit_ty (kitI _), _, rfl, iteT q⟩
    | tuple x => exact iteF ⟨v, rfl, _, _, _, _, false, rfl, .ty "int", tyD hd, kit_ty (kitI _), _, rfl, iteT q⟩
    | dict x => cases hd
def spAscA (K : PySem.W.Frag) : Sp := fun vs H Q _ => ∃ (v : V) (d : PyData) (n : Nat) (l : Int), vs = [v, .int l] ∧ Dp K H v d ∧ Fit n d ∧ ∀ H', Same H H' → Q (.bl (ascD l d)) H'
/-- a rule or not: data of any kind, or {} -/
def spRuleA (K : PySem.W.Frag) : Sp := fun vs H Q _ => ∃ v : V, vs = [v] ∧ ((∃ (d : PyData) (n : Nat), Dp K H v d ∧ Fit (n + 1) d ∧ ∀ H', Same H H' → Q (.bl (ruleD d)) H') ∨ ∃ a : Addr, v = .ref a ∧ H a = some (.dK []) ∧ Q (.bl false) H)
end
end Nm

namespace Nm
open PySem PySem.Spec PyProof.Rows L2 GL
/-! ### pairs among data of any kind -/
def pairD (l : Int) : PyData → Bool
  | .tuple [x, y] => belowD l x && belowD l y
  | _ => false
def toP : PyData → Int × Int
  | .tuple [x, y] => (toI x, toI y)
  | _ => (0, 0)
def prD (q : Int × Int) : PyData := .tuple [.int q.1, .int q.2]
theorem pair_shape {l : Int} {d : PyData} (h : pairD l d = true) : ∃ x y, d = .tuple [x, y] ∧ belowD l x = true ∧ belowD l y = true := by
  cases d with
  | tuple ds =>
    rcases ds with _ | ⟨x, _ | ⟨y, _ | ⟨z, r⟩⟩⟩
    · cases h
    · cases h
    · have h' : (belowD l x && belowD l y) = true := h
      rw [Bool.and_eq_true] at h'
      exact ⟨x, y, rfl, h'.1, h'.2⟩
    · cases h
  | none => cases h
  | bool _ => cases h
  | int _ => cases h
  | str _ => cases h
  | list _ => cases h
  | dict _ => cases h
theorem pair_is {l : Int} {d : PyData} (h : pairD l d = true) : d = prD (toP d) := by
  obtain ⟨x, y, rfl, h1, h2⟩ := pair_shape h
  show PyData.tuple [x, y] = .tuple [.int (toI x), .int (toI y)]
  rw [← below_int h1, ← below_int h2]
theorem below_bd {l : Int} {d : PyData} (h : belowD l d = true) : 0 ≤ toI d ∧ toI d < l := by
  cases d with
  | int i =>
    have h' : (decide (0 ≤ i) && decide (i < l)) = true := h
    rw [Bool.and_eq_true] at h'
    exact ⟨of_decide_eq_true h'.1, of_decide_eq_true h'.2⟩
  | none => cases h
  | bool _ => cases h
  | tuple _ => cases h
  | str _ => cases h
  | list _ => cases h
  | dict _ => cases h
theorem pair_bd {l : Int} {d : PyData} (h : pairD l d = true) : (0 ≤ (toP d).1 ∧ (toP d).1 < l) ∧ 0 ≤ (toP d).2 ∧ (toP d).2 < l := by
  obtain ⟨x, y, rfl, h1, h2⟩ := pair_shape h
  exact ⟨below_bd h1, below_bd h2⟩
/-- names of the table -/
def ShowsP (T : List (List Int)) (d : PyData) : Prop := ∃ (v : Nat) (ds : List PyData), d = .tuple ds ∧ v * v = T.length ∧ ds.all (pairD v) = true ∧ (ds.map toP).Nodup ∧ ofPrs (ds.map toP) = T
/-- pairs to be read -/
def PRK (K : PySem.W.Frag) (H : Hp) (rs : List Addr) (ps : List (Int × Int)) : Prop := Paired (fun a q => SqT K H a [.int q.1, .int q.2]) rs ps
theorem PRK.same {K : PySem.W.Frag} {H H' : Hp} {rs : List Addr} {ps : List (Int × Int)} (h : PRK K H rs ps) (s : Same H H') : PRK K H' rs ps := Paired.mapP h fun a b e => Nm.Same.seqT s e
theorem dp_pairs {K : PySem.W.Frag} {H : Hp} {l : Int} : ∀ {xs : List V} {ds : List PyData}, DpAll K H xs ds → ds.all (pairD l) = true → ∃ rs : List Addr, xs = rs.map V.ref ∧ PRK K H rs (ds.map toP)
  | _, _, .nil, _ => ⟨[], rfl, .nil⟩
  | _, _, .cons (d := d) h t, a => by
    rw [List.all_cons, Bool.and_eq_true] at a
    obtain ⟨rs, e, hp⟩ := dp_pairs t a.2
    rw [pair_is a.1] at h
    cases h with
    | @tup b ys _ hs ha =>
      cases ha with
      | cons h1 h2 =>
        cases h2 with
        | cons h3 h4 =>
          cases h4
          cases h1
          cases h3
          exact ⟨b :: rs, by rw [e]; rfl, .cons hs hp⟩
/-- two lists with the same members, the one without repetition, of the same length -/
theorem perm_of_sub {α : Type} [DecidableEq α] : ∀ {A B : List α}, A.Nodup → (∀ x ∈ A, x ∈ B) → B.length ≤ A.length → A.Perm B
  | [], B, _, _, h => by
    have : B = [] := List.length_eq_zero_iff.mp (by simpa using h)
    rw [this]
  | a :: A, B, nd, sub, h => by
    have ha : a ∈ B := sub a List.mem_cons_self
    have pb := List.perm_cons_erase ha
    have nd' := List.nodup_cons.mp nd
    have l := pb.length_eq
    have ih := perm_of_sub (A := A) (B := B.erase a) nd'.2 (fun x hx => by
      have : x ≠ a := fun e => nd'.1 (e ▸ hx)
      exact (List.mem_erase_of_ne this).mpr (sub x (List.mem_cons_of_mem _ hx))) (by simp at l h; omega)
    exact (ih.cons a).trans pb.symm
theorem eqvRows : ∀ A B : List (List Int), PyData.eqvAll (A.map rowD) (B.map rowD) = decide (A = B)
  | [], [] => rfl
  | [], _ :: _ => rfl
  | _ :: _, [] => rfl
  | x :: A, y :: B => by
    show ((PyData.eqv (rowD x) (rowD y)) && PyData.eqvAll (A.map rowD) (B.map rowD)) = _
    have e : PyData.eqv (rowD x) (rowD y) = decide (x = y) := by
      have z : ∀ a b : List Int, PyData.eqvAll (a.map PyData.int) (b.map PyData.int) = decide (a = b) := by
        intro a
        induction a with
        | nil => intro b; cases b <;> rfl
        | cons i a ih =>
          intro b
          cases b with
          | nil => rfl
          | cons j b =>
            show ((PyData.eqv (.int i) (.int j)) && PyData.eqvAll (a.map PyData.int) (b.map PyData.int)) = _
            rw [ih b, PyData.eqv]
            by_cases e : i = j
            · by_cases e' : a = b
              · simp [e, e']
              · simp [e, e']
            · simp [e]
      unfold rowD
      rw [PyData.eqv]
      exact z x y
    rw [e, eqvRows A B]
    by_cases e1 : x = y
    · by_cases e2 : A = B
      · simp [e1, e2]
      · simp [e1, e2]
    · simp [e1]
theorem eqvT (A B : List (List Int)) : PyData.eqv (tblD A) (tblD B) = decide (A = B) := by
  unfold tblD
  rw [PyData.eqv]
  exact eqvRows A B
section
variable {P : Program} {w : World} {K : PySem.W.Frag} {mg : Str → Option Value} {base : Heap}
/-- small data of any kind, or {} -/
def AnyD (K : PySem.W.Frag) (H : Hp) (v : V) (d : PyData) : Prop := (Dp K H v d ∧ Fit 3 d) ∨ ∃ a : Addr, v = .ref a ∧ H a = some (.dK []) ∧ d = .dict []
theorem AnyD.same {H H' : Hp} {v : V} {d : PyData} (h : AnyD K H v d) (s : Same H H') : AnyD K H' v d := by
  rcases h with ⟨h, f⟩ | ⟨a, e, h, f⟩
  · exact .inl ⟨dpS s _ _ h, f⟩
  · exact .inr ⟨a, e, s _ _ h, f⟩
theorem AnyD.ty {H : Hp} {v : V} {d : PyData} (h : AnyD K H v d) : TyX K H v (.type (tyN d)) := by
  rcases h with ⟨h, f⟩ | ⟨a, rfl, h, rfl⟩
  · exact tyD h
  · exact .base (.dK h)
theorem AnyD.tup {H : Hp} {v : V} {ds : List PyData} (h : AnyD K H v (.tuple ds)) : ∃ a xs, v = .ref a ∧ SqT K H a xs ∧ DpAll K H xs ds ∧ ds.length ≤ 40 ∧ ∀ x ∈ ds, Fit 2 x := by
  rcases h with ⟨h, f⟩ | ⟨a, _, _, e⟩
  · cases h with
    | @tup a xs _ hs ha =>
      unfold Fit at f
      exact ⟨a, xs, rfl, hs, ha, f.1, f.2⟩
  · cases e
/-! ### is_pair, of any kind -/
def spIsPairA (K : PySem.W.Frag) : Sp := fun vs H Q _ => ∃ (v : V) (d : PyData) (l : Int), vs = [v, .int l] ∧ Dp K H v d ∧ Q (.bl (pairD l d)) H
theorem ok_ispairA {f fB : Addr} {fd dB : FuncData} {k : Nat} (F : Fun K "is_pair" "is_pair" sIsPair f fd) (FB : Fun K "is_below" "is_below" sBelow fB dB) (bB : Binds K dB ["value", "limit"] []) (gB : mg "is_below" = some (.ref fB)) (B : LibJ mg) :
    FnOk P w K mg base CX0 (k + 2) f fd ["value", "values"] (spIsPairA K) := by
  have GB : FnOk P w K mg base CX0 (k + 1) fB dB ["value", "limit"] (spBelowA K) := ok_belowA FB B
  refine F.ok scIsPair (fun vs H Q E h => ?_) (fun cdv A outer s H vs Q E hr h => ?_)
  · obtain ⟨v, d, l, rfl, _⟩ := h
    rfl
  · obtain ⟨v, d, l, rfl, hd, q⟩ := h
    refine ⟨_, pss_cons (ps_if (PW.pt (pw_or (pt_not (pt_val (pe_callB (isiK (K := K)) (by rfl) B.isi (by decide +kernel) (pa_cons (pv 0) (pa_cons (pe_bltn (v := .ty "tuple") (by rfl) B.tuple (by decide +kernel) rfl) pa_nil)))))
        (pw_or1 (pt_cmpR op_ne (pe_callB (lenK (K := K)) (by rfl) B.len PySem.boot_len (pa_cons (pv 0) pa_nil)) pe_int (nomark _))))) (pss_one (ps_ret pe_bl)) pss_nil)
      (pss_one (ps_ret (pe_and (pe_call GB hr (by rfl) gB FB.kp bB .nil pass0 (pa_cons (pe_ix (ixTupK (K := K)) (pv 0) pe_int (fun _ _ => rfl)) (pa_cons (pv 1) pa_nil)))
        (pe_one (pe_call GB hr (by rfl) gB FB.kp bB .nil pass0 (pa_cons (pe_ix (ixTupK (K := K)) (pv 0) pe_int (fun _ _ => rfl)) (pa_cons (pv 1) pa_nil))))))), ?_⟩
    refine ⟨v, rfl, _, _, _, _, isT d, rfl, .ty "tuple", tyD hd, kit_ty (kitT d), _, rfl, ?_⟩
    cases d with
    | bool b => exact iteT q
    | int i => exact iteT q
    | none => exact iteT q
    | str x => exact iteT q
    | list x => exact iteT q
    | dict x => cases hd
    | tuple ds =>
      cases hd with
      | @tup a xs _ hs ha =>
      have lx := DpAll.len ha
      refine iteF ⟨.ref a, rfl, a, _, rfl, .inr hs, rfl, _, rfl, ?_⟩
      dsimp only
      by_cases h2 : xs.length = 2
      · rw [decide_eq_true (show V.int (xs.length : Int) = V.int 2 by rw [h2]; rfl)]
        refine iteF ?_
        rcases ds with _ | ⟨x, _ | ⟨y, _ | ⟨z, r⟩⟩⟩
        · rw [h2] at lx; simp at lx
        · rw [h2] at lx; simp at lx
        · cases ha with
          | @cons vx _ _ _ h1 ht =>
            cases ht with
            | @cons vy _ _ _ h3 ht =>
              cases ht
              refine ⟨.ref a, rfl, a, _, 0, _, rfl, rfl, hs, rfl, .int l, rfl, vx, x, l, rfl, h1, _, rfl, ?_⟩
              have q' : Q (.bl (belowD l x && belowD l y)) H := q
              cases hx : belowD l x with
              | false =>
                rw [hx] at q'
                exact iteF q'
              | true =>
                rw [hx] at q'
                exact iteT ⟨.ref a, rfl, a, _, 1, _, rfl, rfl, hs, rfl, .int l, rfl, vy, y, l, rfl, h3, q'⟩
        · rw [h2] at lx; simp at lx
      · rw [decide_eq_false (show ¬ V.int (xs.length : Int) = V.int 2 from fun z => h2 (by have := V.int.inj z; omega))]
        refine iteT ?_
        have e : pairD l (.tuple ds) = false := by
          rw [Bool.eq_false_iff]
          intro z
          obtain ⟨x, y, e, _⟩ := pair_shape z
          cases e
          exact h2 lx
        rw [e] at q
        exact q
/-! ### are_different_pairs, of any kind -/
def DiffP (l : Int) (d : PyData) : Prop := ∃ ds, d = .tuple ds ∧ ds.all (pairD l) = true ∧ (ds.map toP).Nodup
def spDiffA (K : PySem.W.Frag) : Sp := fun vs H Q _ => ∃ (v : V) (d : PyData) (l : Int), vs = [v, .int l] ∧ AnyD K H v d ∧ ∀ (b : Bool) (H' : Hp), (b = true ↔ DiffP l d) → Same H H' → Q (.bl b) H'
theorem ksOf_atK {H : Hp} : ∀ {rs : List Addr} {ps : List (Int × Int)}, PRK K H rs ps → ∀ p ∈ ksOf rs ps, SqT K H p.1 (p.2.map V.int)
  | _, _, .nil, p, h => by cases h
  | _, _, .cons h0 t, p, h => by
    rcases List.mem_cons.mp h with z | z
    · rw [z]
      exact h0
    · exact ksOf_atK t p z
theorem two_inj {x y : Int × Int} (z : [x.1, x.2] = [y.1, y.2]) : x = y := by
  have z1 : x.1 = y.1 := by injection z
  have z2 : x.2 = y.2 := by
    injection z with _ z
    injection z
  exact Prod.ext z1 z2
theorem nodup_two {ps : List (Int × Int)} : (ps.map fun q => [q.1, q.2]).Nodup ↔ ps.Nodup := by
  refine ⟨fun h => ?_, fun h => ?_⟩
  · exact (List.pairwise_map.mp h).imp fun {x y} hxy z => hxy (by rw [z])
  · exact List.pairwise_map.mpr (h.imp fun {x y} hxy z => hxy (two_inj z))
set_option maxHeartbeats 2000000 in
theorem ok_diffA {f fB fI : Addr} {fd dB dI : FuncData} {k : Nat} (F : Fun K "are_different_pairs" "are_different_pairs" sDiff f fd) (FB : Fun K "is_below" "is_below" sBelow fB dB) (bB : Binds K dB ["value", "limit"] []) (gB : mg "is_below" = some (.ref fB))
    (FI : Fun K "is_pair" "is_pair" sIsPair fI dI) (bI : Binds K dI ["value", "values"] []) (gI : mg "is_pair" = some (.ref fI)) (B : LibJ mg) (mset : mg "set" = none) :
    FnOk P w K mg base CX0 (k + 3) f fd ["value", "values"] (spDiffA K) := by
  have GI : FnOk P w K mg base CX0 (k + 2) fI dI ["value", "values"] (spIsPairA K) := ok_ispairA FI FB bB gB B
  refine F.ok scDiff (fun vs H Q E h => ?_) (fun cdv A outer s H vs Q E hr h => ?_)
  · obtain ⟨v, d, l, rfl, _⟩ := h
    rfl
  · obtain ⟨v, d, l, rfl, hv, q⟩ := h
    refine ⟨_, pss_cons (ps_if (pt_not (pt_val (pe_callB (isiK (K := K)) (by rfl) B.isi (by decide +kernel) (pa_cons (pv 0) (pa_cons (pe_bltn (v := .ty "tuple") (by rfl) B.tuple (by decide +kernel) rfl) pa_nil)))))
        (pss_one (ps_ret pe_bl)) pss_nil)
      (pss_cons (ps_if (pt_not (pt_val (pe_callB (allK (K := K) rfl) (by rfl) B.all (by decide +kernel) (pa_cons
          (pe_lc (own := [("pair", 2)]) (g := gName 2) (by rfl) scDiff.nd (piTupK (K := K) (pv 0))
            (blkOk_by (own := [("pair", 2)]) (N := ["value", "values", "pair"]) (sc := defScope sDiff) (by decide +kernel))
            (fun _ _ _ _ _ => pg_name (i := 2) scDiff.nd rfl (Or.inl rfl)) (fun _ _ _ _ _ => pts_nil)
            (fun _ _ _ _ _ => pe_call GI hr (by rfl) gI FI.kp bI .nil pass0 (pa_cons (pv 2) (pa_cons (pv 1) pa_nil)))) pa_nil))))
        (pss_one (ps_ret pe_bl)) pss_nil)
      (pss_one (ps_ret (pe_cmpR op_eq (pe_callB (lenSetT (K := K)) (by rfl) B.len PySem.boot_len (pa_cons (pe_callTy (setTT (K := K) rfl hr.units) (by rfl) mset (by decide +kernel) (pa_cons (pv 0) pa_nil)) pa_nil))
        (pe_callB (lenK (K := K)) (by rfl) B.len PySem.boot_len (pa_cons (pv 0) pa_nil)) (nomark _))))), ?_⟩
    refine ⟨v, rfl, _, _, _, _, isT d, rfl, .ty "tuple", hv.ty, kit_ty (kitT d), _, rfl, ?_⟩
    have no : isT d = false → Q (.bl false) H := fun e => q false H ⟨fun z => (by cases z), fun ⟨ds, z, _⟩ => (by rw [z] at e; cases e)⟩ (Same.refl _)
    cases d with
    | bool b => exact iteT (no rfl)
    | int i => exact iteT (no rfl)
    | none => exact iteT (no rfl)
    | str x => exact iteT (no rfl)
    | list x => exact iteT (no rfl)
    | dict x => exact iteT (no rfl)
    | tuple ds =>
      refine iteF ?_
      obtain ⟨a, xs, rfl, hs, ha, l40, _⟩ := hv.tup
      have lx := DpAll.len ha
      refine ⟨.ref a, rfl, a, rfl, ⟨_, hs⟩, fun D nD => ?_⟩
      have sD := same_upd (o := .lst []) nD
      refine lc_tup (K := K) (a := a) (xs := xs) (fun i H2 => H2 D = some (.lst (((ds.take i).map (pairD l)).map V.bl)) ∧ Same H H2) ⟨upd_same, sD⟩ (fun i H2 _ h => Nm.Same.seqT h.2 hs) ?_ ?_
      · rintro i x H2 hx ⟨hD, s2⟩
        obtain ⟨d, hdi, dp⟩ := DpAll.at ha hx
        refine ⟨rfl, yesI ⟨x, rfl, .int l, rfl, x, d, l, rfl, dpS s2 _ _ dp, _, hD, ?_, ?_, ?_⟩⟩
        · rw [List.length_map, List.length_map, List.length_take]
          exact lenLine (by omega)
        · rw [upd_same, List.take_add_one, hdi, List.map_append, List.map_append]
          rfl
        · intro b o hb
          rw [upd_ne (ne_of_none hb nD)]
          exact s2 _ _ hb
      rintro H2 ⟨hD, s2⟩
      rw [lx] at hD
      refine ⟨D, _, rfl, SqL.of hD, _, rfl, ?_⟩
      rw [all_take]
      cases hall : ds.all (pairD l) with
      | false =>
        refine iteT (q false H2 ⟨fun z => (by cases z), fun ⟨ds', e, al, _⟩ => ?_⟩ s2)
        cases e
        rw [hall] at al
        cases al
      | true =>
        refine iteF ?_
        obtain ⟨rs, rfl, hP⟩ := dp_pairs ha hall
        have lr : rs.length = (ds.map toP).length := Paired.length hP
        have ks1 := ksOf_atK (hP.same s2)
        have lks : (ksOf rs (ds.map toP)).length = ds.length := by
          have := congrArg List.length (ksOf_vals lr)
          rw [List.length_map, List.length_map, List.length_map] at this
          exact this
        refine ⟨.ref a, rfl, a, ksOf rs (ds.map toP), rfl, ?_, fun p hp => ks1 p hp, by omega, fun S L nS sub all nodup => ?_⟩
        · rw [ksOf_refs lr]
          exact Nm.Same.seqT s2 hs
        have sS := same_upd (o := SetTO P w S L) nS
        refine ⟨S, L, rfl, upd_same, fun p hp => Nm.Same.seqT sS (ks1 p (sub p hp)), .ref a, rfl, a, _, rfl, .inr (Nm.Same.seqT sS (Nm.Same.seqT s2 hs)), rfl, ?_⟩
        refine q _ _ ?_ (s2.trans sS)
        rw [decide_eq_true_eq]
        have sub' : ∀ v ∈ L.map (·.2), v ∈ (ksOf rs (ds.map toP)).map (·.2) := fun v hv => by
          obtain ⟨p, hp, rfl⟩ := List.mem_map.mp hv
          exact List.mem_map.mpr ⟨p, sub p hp, rfl⟩
        have all' : ∀ v ∈ (ksOf rs (ds.map toP)).map (·.2), v ∈ L.map (·.2) := fun v hv => by
          obtain ⟨p, hp, rfl⟩ := List.mem_map.mp hv
          exact all p hp
        have lrs : (rs.map V.ref).length = ds.length := by rw [List.length_map, lr, List.length_map]
        refine ⟨fun e => ⟨ds, rfl, hall, ?_⟩, fun ⟨ds', e, _, nd⟩ => ?_⟩
        · have e' : L.length = ds.length := by
            have := V.int.inj e
            rw [lrs] at this
            omega
          have pm := perm_of_sub nodup sub' (by rw [List.length_map, List.length_map, lks, e']; exact Nat.le_refl _)
          have z := pm.nodup_iff.mp nodup
          rw [ksOf_vals lr] at z
          exact nodup_two.mp z
        · cases e
          have ndk : ((ksOf rs (ds.map toP)).map (·.2)).Nodup := by
            rw [ksOf_vals lr]
            exact nodup_two.mpr nd
          have pm := perm_of_sub nodup sub' (by
            have z := perm_of_sub ndk all'
            rcases Nat.lt_or_ge (L.map (·.2)).length ((ksOf rs (ds.map toP)).map (·.2)).length with y | y
            · exact Nat.le_of_eq (z (Nat.le_of_lt y)).length_eq
            · exact y)
          have z := pm.length_eq
          rw [List.length_map, List.length_map, lks] at z
          rw [z, lrs]
/-! ### rule_of, of pairs to be read -/
def spRuleOfA (K : PySem.W.Frag) : Sp := fun vs H Q _ => ∃ (a : Addr) (rs : List Addr) (ps : List (Int × Int)), vs = [.ref a] ∧ SqT K H a (rs.map V.ref) ∧ PRK K H rs ps ∧ ps.length ≤ 64 ∧
  ∀ (o : Addr) (H' : Hp), H o = none → Same H H' → Tbl H' o (ofPrs ps) → Q (.ref o) H'
theorem ok_ruleofA {f : Addr} {fd : FuncData} {k : Nat} (F : Fun K "rule_of" "rule_of" sRuleOf f fd) (B : LibJ mg) : FnOk P w K mg base CX0 (k + 1) f fd ["names"] (spRuleOfA K) := by
  refine F.ok scRuleOf (fun vs H Q E h => ?_) (fun cdv A outer s H vs Q E hr h => ?_)
  · obtain ⟨a, rs, ps, rfl, _⟩ := h
    rfl
  · obtain ⟨a, rs, ps, rfl, hS, hP, lp, q⟩ := h
    refine ⟨_, pss_cons (ps_set (i := 1) scRuleOf.nd rfl (.inl rfl) (pe_lst pa_nil))
      (pss_cons (ps_for PassesOwn.never rfl (piTupK (K := K) (pv 0)) (pg_name (i := 2) scRuleOf.nd rfl (.inr rfl))
        (pss_one (ps_expr (pe_bm PySem.F.plainAttrs_list PySem.F.slot_list_append PySem.F.type_list_append mt_append (pv 1) (pa_cons
          (pe_callTy (tupOfK (K := K)) (by rfl) B.tuple (by decide +kernel) (pa_cons
            (pe_lc (own := [("other", 3)]) (g := gName 3) (by rfl) scRuleOf.nd (pi_range1 (by rfl) B.range (pa_cons (pe_callB (lenK (K := K)) (by rfl) B.len PySem.boot_len (pa_cons (pv 0) pa_nil)) pa_nil))
              (blkOk_by (own := [("other", 3)]) (N := ["names", "rows", "pair", "other"]) (sc := defScope sRuleOf) (by decide +kernel))
              (fun _ _ _ _ _ => pg_name (i := 3) scRuleOf.nd rfl (Or.inl rfl))
              (fun _ _ _ _ _ => pts_one (pt_cmpR op_eq (pe_ix (ixTupK (K := K)) (pe_ix (ixTupK (K := K)) (pv 0) (pv 3) (fun _ _ => rfl)) pe_int (fun _ _ => rfl)) (pe_ix (ixTupK (K := K)) (pv 2) pe_int (fun _ _ => rfl)) (nomark _)))
              (fun _ _ _ _ _ => pv 3)) pa_nil)) pa_nil)))))
      (pss_one (ps_ret (pe_callTy (tupOfK (K := K)) (by rfl) B.tuple (by decide +kernel) (pa_cons (pv 1) pa_nil))))), ?_⟩
    have lr : rs.length = ps.length := Paired.length hP
    refine ⟨Nat.zero_le _, fun L nL => ?_⟩
    have sL := same_upd (o := .lst []) nL
    refine ⟨.ref a, rfl, a, rfl, ⟨_, Nm.Same.seqT sL hS⟩, for_it (walk_tup (K := K) (a := a) (xs := rs.map V.ref))
      (fun i σ H' => ∃ (y2 y3 : Option V) (ts : List Addr), σ = [some (.ref a), some (.ref L), y2, y3] ∧ H' L = some (.lst (ts.map V.ref)) ∧ Rows H' ts ((ofPrs ps).take i) ∧ Same H H')
      ⟨none, none, [], rfl, upd_same, .nil, sL⟩ (fun i σ H' _ h => ?_) ?_ ?_⟩
    · obtain ⟨_, _, _, _, _, _, sm⟩ := h
      exact Nm.Same.seqT sm hS
    · rintro i x σ H1 H2 hi ⟨y2, y3, ts, rfl, hL, hR, sm⟩ ⟨rfl, hx⟩
      obtain ⟨b, hb, rfl⟩ := ref_at hx
      obtain ⟨m, hm, hq⟩ := paired_get hP hb
      have hq1 := Nm.Same.seqT sm hq
      have hi' : i < ps.length := (List.getElem?_eq_some_iff.mp hm).1
      have lts : ts.length ≤ 64 := by
        rw [Paired.length hR, List.length_take]
        omega
      have hS1 := Nm.Same.seqT sm hS
      have ln : ((rs.map V.ref).length : Int).toNat = ps.length := by
        rw [List.length_map]
        omega
      refine ⟨.ref L, rfl, .inl ⟨rfl, _, SqL.of hL⟩, .ref a, rfl, a, _, rfl, .inr hS1, _, rfl, by rw [List.length_map]; omega, by rw [List.length_map]; omega, fun D nD => ?_⟩
      rw [ln]
      have sD := same_upd (o := .lst []) nD
      refine lc_range (lo := 0) (n := ps.length) (fun j H3 => H3 D = some (.lst ((rowTo ps m.2 j).map V.int)) ∧ Same H2 H3) ⟨upd_same, sD⟩ ?_ ?_
      · rintro j H3 hj ⟨hD, s3⟩
        obtain ⟨c, hc⟩ : ∃ c, rs[j]? = some c := ⟨_, List.getElem?_eq_getElem (by omega)⟩
        obtain ⟨m', hm', hq'⟩ := paired_get hP hc
        have lj := rowTo_length ps m.2 j
        refine ⟨rfl, .ref a, rfl, .int (0 + j), rfl, a, _, 0 + (j : Int), .ref c, rfl, rfl, Nm.Same.seqT s3 hS1, ?_, ?_⟩
        · rw [Int.zero_add]
          exact atI_nat (by rw [List.getElem?_map, hc]; rfl)
        refine ⟨c, _, 0, _, rfl, rfl, Nm.Same.seqT s3 (Nm.Same.seqT sm hq'), rfl, .ref b, rfl, b, _, 1, _, rfl, rfl, Nm.Same.seqT s3 hq1, rfl, rfl, _, rfl, ite2 (fun e => ?_) (fun e => ?_)⟩
        · have e' : m'.1 = m.2 := V.int.inj (of_decide_eq_true e)
          refine ⟨_, rfl, _, hD, ?_, ?_, ?_⟩
          · rw [List.length_map]
            exact lenLine (by omega)
          · rw [upd_same, rowTo_yes (by rw [hm', ← e']; rfl), List.map_append, Int.zero_add]
            rfl
          · intro d o hd
            rw [upd_ne (ne_of_none hd nD)]
            exact s3 _ _ hd
        · have e' : m'.1 ≠ m.2 := fun z => e (decide_eq_true (congrArg V.int z))
          refine ⟨?_, s3⟩
          rw [rowTo_no (by rw [hm']; exact fun z => e' (Option.some.inj z))]
          exact hD
      · rintro H3 ⟨hD, s3⟩
        refine ⟨D, _, rfl, .inl ⟨SqL.of hD, fun t nt => ?_⟩⟩
        have st := same_upd (o := .tup ((rowTo ps m.2 ps.length).map V.int)) nt
        have hL3 := st _ _ (s3 _ _ hL)
        refine ⟨L, _, _, rfl, rfl, hL3, by rw [List.length_map]; exact lenLine (by omega), _, _, ts ++ [t], rfl, ?_, ?_, ?_⟩
        · rw [upd_same, List.map_append]
          rfl
        · have e : (ofPrs ps).take (i + 1) = (ofPrs ps).take i ++ [rowTo ps m.2 ps.length] := by
            rw [List.take_add_one]
            unfold ofPrs
            rw [List.getElem?_map, hm]
            rfl
          rw [e]
          exact Rows.kt (paired_append (hR.same (s3.trans st)) (.cons upd_same .nil)) (KT.lst hL3)
        · intro d o hd
          rw [upd_ne (ne_of_none hd nL)]
          exact st _ _ (s3 _ _ (sm _ _ hd))
    · rintro σ H1 ⟨y2, y3, ts, rfl, hL, hR, sm⟩
      rw [List.length_map, lr, show ps.length = (ofPrs ps).length by unfold ofPrs; rw [List.length_map], List.take_length] at hR
      refine ⟨.ref L, rfl, L, _, rfl, .inl ⟨SqL.of hL, fun o no => ?_⟩⟩
      have so := same_upd (o := .tup (ts.map V.ref)) no
      exact q o _ (sm.free no) (sm.trans so) ⟨ts, upd_same, hR.same so⟩
/-! ### shows_names, of any kind -/
def spShowsA (K : PySem.W.Frag) : Sp := fun vs H Q _ => ∃ (p : Addr) (v : V) (T : List (List Int)) (d : PyData), vs = [.ref p, v] ∧ Tbl H p T ∧ T.length ≤ 1000 ∧ AnyD K H v d ∧ ∀ (b : Bool) (H' : Hp), (b = true ↔ ShowsP T d) → Same H H' → Q (.bl b) H'
set_option maxHeartbeats 2000000 in
theorem ok_showsA {fB fO fS fI fD fW : Addr} {dB dO dS dI dD dW : FuncData} {k : Nat} (N : Nam K mg fB fO fS fI fD fW dB dO dS dI dD dW) (B : LibJ mg) (mset : mg "set" = none) :
    FnOk P w K mg base CX0 (k + 4) fW dW ["rule", "value"] (spShowsA K) := by
  have GS : FnOk P w K mg base CX0 (k + 3) fS dS ["count"] (spSide K) := ok_side N.S
  have GD : FnOk P w K mg base CX0 (k + 3) fD dD ["value", "values"] (spDiffA K) := ok_diffA N.D N.B N.bB N.gB N.I N.bI N.gI B mset
  have GO : FnOk P w K mg base CX0 (k + 3) fO dO ["names"] (spRuleOfA K) := ok_ruleofA N.O B
  refine N.W.ok scShows (fun vs H Q E h => ?_) (fun cdv A outer s H vs Q E hr h => ?_)
  · obtain ⟨p, v, T, d, rfl, _⟩ := h
    rfl
  · obtain ⟨p, v, T, d, rfl, hT, lT, hv, q⟩ := h
    refine ⟨_, pss_cons (ps_set (i := 2) scShows.nd rfl (.inl rfl) (pe_call GS hr (by rfl) N.gS N.S.kp N.bS .nil pass0 (pa_cons (pe_callB (lenK (K := K)) (by rfl) B.len PySem.boot_len (pa_cons (pv 0) pa_nil)) pa_nil)))
      (pss_cons (ps_if (PW.pt (pw_or (pt_cmpR op_isN (pv 2) pe_non (nomark _)) (pw_or1 (pt_not (pt_val (pe_call GD hr (by rfl) N.gD N.D.kp N.bD .nil pass0 (pa_cons (pv 1) (pa_cons (pv 2) pa_nil)))))))) (pss_one (ps_ret pe_bl)) pss_nil)
      (pss_one (ps_ret (pe_cmpR (op_eqD hr.units) (pe_call GO hr (by rfl) N.gO N.O.kp N.bO .nil pass0 (pa_cons (pv 1) pa_nil)) (pv 0) (nomark _))))), ?_⟩
    have hT0 := hT
    obtain ⟨rs0, hp, hR⟩ := hT0
    have l0 : (rs0.map V.ref).length = T.length := by rw [List.length_map, Paired.length hR]
    refine ⟨.ref p, rfl, p, _, rfl, .inr (SqT.of hp), (rs0.map V.ref).length, rfl, by omega, fun t ht => ?_, fun hno => ?_⟩
    · refine ⟨_, rfl, rfl, _, rfl, iteF ?_⟩
      refine ⟨v, rfl, .int t, rfl, v, d, t, rfl, hv, fun b H1 hb s1 => ⟨_, rfl, ?_⟩⟩
      cases b with
      | false =>
        refine iteT (q false H1 ⟨fun z => (by cases z), fun z => ?_⟩ s1)
        obtain ⟨v', ds, rfl, e, al, nd, eq⟩ := z
        have e' : v' = t := sq_inj (by omega)
        subst e'
        exact hb.mpr ⟨ds, rfl, al, nd⟩
      | true =>
        obtain ⟨ds, rfl, al, nd⟩ := hb.mp rfl
        refine iteF ?_
        obtain ⟨a, xs, rfl, hs, ha, l40, _⟩ := hv.tup
        obtain ⟨rs, rfl, hP⟩ := dp_pairs ha al
        refine ⟨.ref a, rfl, a, rs, ds.map toP, rfl, Nm.Same.seqT s1 hs, hP.same s1, by rw [List.length_map]; omega, fun o H2 no s2 hT2 => ?_⟩
        refine ⟨.ref p, rfl, tblD (ofPrs (ds.map toP)), tblD T, dpTbl hT2, dpTbl ((hT.same s1).same s2), shapedTbl _, shapedTbl _, ?_⟩
        rw [eqvT]
        refine q _ H2 ?_ (s1.trans s2)
        rw [decide_eq_true_eq]
        refine ⟨fun e => ⟨t, ds, rfl, by omega, al, nd, e⟩, fun ⟨v', ds', e1, e2, _, _, e3⟩ => ?_⟩
        cases e1
        exact e3
    · refine ⟨_, rfl, rfl, _, rfl, iteT (q false H ⟨fun z => (by cases z), fun ⟨v', _, _, e, _⟩ => absurd (by omega) (hno v')⟩ (Same.refl _))⟩
end
end Nm

namespace Nm
open PySem PySem.Spec PyProof.Rows L2 GL
abbrev sIsNum : Stmt := topS 19
/-! sLisRule -/
theorem scIsNum : FnScope ["_law_thing", "_law_below"] ["_law_thing", "_law_below"] (defScope sIsNum) := ⟨rfl, rfl, rfl, by decide +kernel, rfl, by decide +kernel, by decide +kernel⟩
abbrev nLisRule : List Str := ["_law_thing", "_law_row", "_law_one"]
theorem eqvI : ∀ a b : List Int, PyData.eqvAll (a.map PyData.int) (b.map PyData.int) = decide (a = b)
  | [], [] => rfl
  | [], _ :: _ => rfl
  | _ :: _, [] => rfl
  | x :: a, y :: b => by
    show ((PyData.eqv (.int x) (.int y)) && PyData.eqvAll (a.map PyData.int) (b.map PyData.int)) = _
    rw [eqvI a b, PyData.eqv]
    by_cases e : x = y
    · by_cases e' : a = b
      · simp [e, e']
      · simp [e, e']
    · simp [e]
theorem same_asc {ns ms : List Int} (h : ms.Pairwise (· < ·)) (m : ∀ k : Int, k ∈ ms ↔ decide (k ∈ ns) = true) : decide (ns = ms) = decide (ns.Pairwise (· < ·)) := by
  refine decide_eq_decide.mpr ⟨fun e => by rw [e]; exact h, fun p => ?_⟩
  exact ((List.perm_ext_iff_of_nodup (p.imp fun h => Int.ne_of_lt h) (h.imp fun h => Int.ne_of_lt h)).mpr fun x => by rw [m x, decide_eq_true_eq]).eq_of_pairwise (fun x y _ _ a b => by omega) p h
theorem all_no {α : Type} {f : α → Bool} {l : List α} {i : Nat} {x : α} (h : l[i]? = some x) (e : f x = false) : l.all f = false := by
  rw [Bool.eq_false_iff]
  intro z
  rw [List.all_eq_true.mp z x (List.mem_of_getElem? h)] at e
  cases e
section
variable {P : Program} {w : World} {K : PySem.W.Frag} {mg : Str → Option Value} {base : Heap}
theorem ok_isnum {f : Addr} {fd : FuncData} {k : Nat} (F : Fun K "_law_is_number" "_law_is_number" sIsNum f fd) (B : LibJ mg) : FnOk P w K mg base CX0 (k + 1) f fd ["_law_thing", "_law_below"] (spBelowA K) := by
  refine F.ok scIsNum (fun vs H Q E h => ?_) (fun cdv A outer s H vs Q E hr h => ?_)
  · obtain ⟨v, d, l, rfl, _⟩ := h
    rfl
  · obtain ⟨v, d, l, rfl, hd, q⟩ := h
    refine ⟨_, pss_one (ps_ret (pe_and (pe_callB (isiK (K := K)) (by rfl) B.isi (by decide +kernel) (pa_cons (pv 0) (pa_cons (pe_bltn (v := .ty "int") (by rfl) B.int (by decide +kernel) rfl) pa_nil)))
      (pe_and (pe_not (pe_callB (isiK (K := K)) (by rfl) B.isi (by decide +kernel) (pa_cons (pv 0) (pa_cons (pe_bltn (v := .ty "bool") (by rfl) B.bool (by decide +kernel) rfl) pa_nil))))
      (pe_one (pe_chain op_le op_lt pe_int (pv 0) (pv 1)))))), ?_⟩
    refine ⟨v, rfl, _, _, _, _, isI d, rfl, .ty "int", tyD hd, kit_ty (kitI d), _, rfl, ?_⟩
    cases d with
    | bool b => exact iteT ⟨v, rfl, _, _, _, _, true, rfl, .ty "bool", tyD hd, kit_ty (kitBo _), _, rfl, _, rfl, iteF q⟩
    | int i =>
      refine iteT ⟨v, rfl, _, _, _, _, false, rfl, .ty "bool", tyD hd, kit_ty (kitBo _), _, rfl, _, rfl, iteT ?_⟩
      cases hd
      refine ⟨.int i, rfl, 0, i, rfl, rfl, _, rfl, ?_⟩
      by_cases h0 : 0 ≤ i
      · rw [decide_eq_true h0]
        refine iteT ⟨.int l, rfl, i, l, rfl, rfl, ?_⟩
        simp only [belowD, decide_eq_true h0, Bool.true_and] at q
        exact q
      · rw [decide_eq_false h0]
        refine iteF ?_
        simp only [belowD, decide_eq_false h0, Bool.false_and] at q
        exact q
    | none => exact iteF q
    | str x => exact iteF q
    | list x => exact iteF q
    | tuple x => exact iteF q
    | dict x => cases hd
end
end Nm

namespace Nm
open PySem PySem.Spec PyProof.Rows L2 GL
abbrev sLShows : Stmt := topS 20
abbrev nLShows : List Str := ["_law_table_here", "_law_thing", "_law_size", "_law_wide", "_law_pair", "_law_at", "_law_one", "_law_to", "_law_near"]
theorem scLShows : FnScope nLShows ["_law_table_here", "_law_thing"] (defScope sLShows) := ⟨rfl, rfl, rfl, by decide +kernel, rfl, by decide +kernel, by decide +kernel⟩
/-! ### names of a table, mark by mark -/
def OkAt (T : List (List Int)) (ps : List (Int × Int)) (a b : Nat) : Prop := ∀ qa qb, ps[a]? = some qa → ps[b]? = some qb → (a ≠ b → qa ≠ qb) ∧ (((b : Int) ∈ T.getD a []) ↔ qb.1 = qa.2)
theorem ofPrs_len (ps : List (Int × Int)) : (ofPrs ps).length = ps.length := by
  unfold ofPrs
  rw [List.length_map]
theorem ofPrs_at {ps : List (Int × Int)} {a : Nat} {q : Int × Int} (h : ps[a]? = some q) : (ofPrs ps)[a]? = some (rowTo ps q.2 ps.length) := by
  unfold ofPrs
  rw [List.getElem?_map, h]
  rfl
theorem in_rowTo {ps : List (Int × Int)} {m : Int} {b : Nat} {q : Int × Int} (h : ps[b]? = some q) : (b : Int) ∈ rowTo ps m ps.length ↔ q.1 = m := by
  rw [mem_rowTo]
  have hb := (List.getElem?_eq_some_iff.mp h).1
  refine ⟨fun ⟨i, hi, ⟨q', hq, e⟩, ex⟩ => ?_, fun e => ⟨b, hb, ⟨q, h, e⟩, rfl⟩⟩
  have : b = i := by omega
  subst this
  rw [h] at hq
  cases hq
  exact e
theorem shows_iff {T : List (List Int)} {v : Nat} {ds : List PyData} (rule : IsRule T) (hv : v * v = T.length) (hl : ds.length = T.length) (al : ds.all (pairD v) = true) :
    ShowsP T (.tuple ds) ↔ ∀ a b, OkAt T (ds.map toP) a b := by
  have lp : (ds.map toP).length = T.length := by rw [List.length_map, hl]
  refine ⟨fun ⟨v', ds', e, e2, al', nd, eq⟩ => ?_, fun ok => ⟨v, ds, rfl, hv, al, ?_, ?_⟩⟩
  · cases e
    intro a b qa qb ha hb
    have al := (List.getElem?_eq_some_iff.mp ha).1
    refine ⟨fun ne e => ne ?_, ?_⟩
    · exact (List.getElem?_inj al nd).mp (by rw [ha, hb, e])
    · rw [← eq, List.getD_eq_getElem?_getD, ofPrs_at ha]
      exact in_rowTo hb
  · exact List.pairwise_iff_getElem.mpr fun i j hi hj lt => (ok i j _ _ (List.getElem?_eq_getElem hi) (List.getElem?_eq_getElem hj)).1 (by omega)
  · refine List.ext_getElem? fun j => ?_
    by_cases hj : j < T.length
    · have hp : (ds.map toP)[j]? = some ((ds.map toP)[j]'(by omega)) := List.getElem?_eq_getElem (by omega)
      have hT : T[j]? = some T[j] := List.getElem?_eq_getElem hj
      rw [ofPrs_at hp, hT]
      have g := rule.2.2 T[j] (List.getElem_mem hj)
      refine congrArg some (asc_ext (rowTo_asc _ _ _) g.1 fun x => ?_)
      have key : ∀ b : Nat, b < T.length → ((b : Int) ∈ rowTo (ds.map toP) ((ds.map toP)[j]'(by omega)).2 (ds.map toP).length ↔ (b : Int) ∈ T[j]) := fun b hb => by
        have hq : (ds.map toP)[b]? = some ((ds.map toP)[b]'(by omega)) := List.getElem?_eq_getElem (by omega)
        have z := (ok j b _ _ hp hq).2
        rw [List.getD_eq_getElem?_getD, hT] at z
        rw [in_rowTo hq]
        exact z.symm
      refine ⟨fun h => ?_, fun h => ?_⟩
      · obtain ⟨i, hi, _, rfl⟩ := mem_rowTo.mp h
        exact (key i (by omega)).mp h
      · have b := g.2 x h
        have e : x = ((x.toNat : Nat) : Int) := by omega
        rw [e] at h ⊢
        exact (key _ (by omega)).mpr h
    · rw [List.getElem?_eq_none (by rw [ofPrs_len]; omega), List.getElem?_eq_none (by omega)]
theorem shows_len {T : List (List Int)} {d : PyData} (h : ShowsP T d) : ∃ (v : Nat) (ds : List PyData), d = .tuple ds ∧ ds.length = T.length ∧ v * v = T.length ∧ ds.all (pairD v) = true := by
  obtain ⟨v, ds, e, e2, al, nd, eq⟩ := h
  refine ⟨v, ds, e, ?_, e2, al⟩
  rw [← eq, ofPrs_len, List.length_map]
theorem pair_all (l : Int) (es : List PyData) : pairD l (.tuple es) = (decide (es.length = 2) && es.all (belowD l)) := by
  rcases es with _ | ⟨x, _ | ⟨y, _ | ⟨z, r⟩⟩⟩
  · rfl
  · rfl
  · show (belowD l x && belowD l y) = (decide (2 = 2) && (belowD l x && (belowD l y && true)))
    simp
  · show false = (decide (r.length + 1 + 1 + 1 = 2) && _)
    rw [decide_eq_false (by omega)]
    rfl
theorem eqv_pr (a b : Int × Int) : PyData.eqv (prD a) (prD b) = decide (a = b) := by
  unfold prD
  have e : ∀ i j : Int, PyData.eqv (.int i) (.int j) = decide (i = j) := fun i j => by rw [PyData.eqv]; by_cases h : i = j <;> simp [h]
  show (PyData.eqv (.int a.1) (.int b.1) && (PyData.eqv (.int a.2) (.int b.2) && true)) = _
  rw [e, e, Bool.and_true, ← Bool.decide_and]
  exact decide_eq_decide.mpr ⟨fun h => Prod.ext h.1 h.2, fun h => by rw [h]; exact ⟨rfl, rfl⟩⟩
theorem shaped_pr (a : Int × Int) : SeqAt.shaped (prD a) = true := shapedT [a.1, a.2]
section
variable {P : Program} {w : World} {K : PySem.W.Frag} {mg : Str → Option Value} {base : Heap}
theorem dp_pr {H : Hp} {a : Addr} {q : Int × Int} (h : SqT K H a [.int q.1, .int q.2]) : Dp K H (.ref a) (prD q) := .tup h (.cons (.int _) (.cons (.int _) .nil))
def spLShows (K : PySem.W.Frag) : Sp := fun vs H Q _ => ∃ (p : Addr) (v : V) (T : List (List Int)) (d : PyData), vs = [.ref p, v] ∧ Tbl H p T ∧ IsRule T ∧ AnyD K H v d ∧ ∀ (b : Bool) (H' : Hp), (b = true ↔ ShowsP T d) → Same H H' → Q (.bl b) H'
set_option maxHeartbeats 4000000 in
theorem ok_lshows {f fN : Addr} {fd dN : FuncData} {k : Nat} (F : Fun K "_law_shows" "_law_shows" sLShows f fd) (FN : Fun K "_law_is_number" "_law_is_number" sIsNum fN dN) (bN : Binds K dN ["_law_thing", "_law_below"] []) (gN : mg "_law_is_number" = some (.ref fN)) (B : LibJ mg) (menum : mg "enumerate" = none) :
    FnOk P w K mg base CX0 (k + 2) f fd ["_law_table_here", "_law_thing"] (spLShows K) := by
  have GN : FnOk P w K mg base CX0 (k + 1) fN dN ["_law_thing", "_law_below"] (spBelowA K) := ok_isnum FN B
  refine F.ok scLShows (fun vs H Q E h => ?_) (fun cdv A outer s H vs Q E hr h => ?_)
  · obtain ⟨p, v, T, d, rfl, _⟩ := h
    rfl
  · obtain ⟨p, v, T, d, rfl, hT, rule, hv, q⟩ := h
    refine ⟨_, pss_cons (ps_set (i := 2) scLShows.nd rfl (.inr rfl) (pe_callB (lenK (K := K)) (by rfl) B.len PySem.boot_len (pa_cons (pv 0) pa_nil)))
      (pss_cons (ps_set (i := 3) scLShows.nd rfl (.inr rfl) (pe_lc (own := [("_law_one", 6)]) (g := gName 6) (by rfl) scLShows.nd (pi_range2 (by rfl) B.range (pa_cons pe_int (pa_cons (pe_op op_add (pv 2) pe_int) pa_nil)))
          (blkOk_by (own := [("_law_one", 6)]) (N := nLShows) (sc := defScope sLShows) (by decide +kernel))
          (fun _ _ _ _ _ => pg_name (i := 6) scLShows.nd rfl (Or.inl rfl))
          (fun _ _ _ _ _ => pts_one (pt_cmpR op_eq (pe_op op_mul (pv 6) (pv 6)) (pv 2) (nomark _)))
          (fun _ _ _ _ _ => pv 6)))
      (pss_cons (ps_if (PW.pt (pw_or (pt_cmpR (op_eqD hr.units) (pv 3) (pe_lst pa_nil) (nomark _))
          (pw_or (pt_not (pt_val (pe_callB (isiK (K := K)) (by rfl) B.isi (by decide +kernel) (pa_cons (pv 1) (pa_cons (pe_bltn (v := .ty "tuple") (by rfl) B.tuple (by decide +kernel) rfl) pa_nil)))))
          (pw_or1 (pt_cmpR op_ne (pe_callB (lenK (K := K)) (by rfl) B.len PySem.boot_len (pa_cons (pv 1) pa_nil)) (pv 2) (nomark _)))))) (pss_one (ps_ret pe_bl)) pss_nil)
      (pss_cons (ps_for PassesOwn.never rfl (piTupK (K := K) (pv 1)) (pg_name (i := 4) scLShows.nd rfl (.inl rfl))
        (pss_cons (ps_if (PW.pt (pw_or (pt_not (pt_val (pe_callB (isiK (K := K)) (by rfl) B.isi (by decide +kernel) (pa_cons (pv 4) (pa_cons (pe_bltn (v := .ty "tuple") (by rfl) B.tuple (by decide +kernel) rfl) pa_nil)))))
          (pw_or1 (pt_cmpR op_ne (pe_callB (lenK (K := K)) (by rfl) B.len PySem.boot_len (pa_cons (pv 4) pa_nil)) pe_int (nomark _))))) (pss_one (ps_ret pe_bl)) pss_nil)
        (pss_one (ps_if (pt_not (pt_val (pe_callB (allK (K := K) rfl) (by rfl) B.all (by decide +kernel) (pa_cons
            (pe_lc (own := [("_law_one", 6)]) (g := gName 6) (by rfl) scLShows.nd (piTupK (K := K) (pv 4))
              (blkOk_by (own := [("_law_one", 6)]) (N := nLShows) (sc := defScope sLShows) (by decide +kernel))
              (fun _ _ _ _ _ => pg_name (i := 6) scLShows.nd rfl (Or.inl rfl)) (fun _ _ _ _ _ => pts_nil)
              (fun _ _ _ _ _ => pe_call GN hr (by rfl) gN FN.kp bN .nil pass0 (pa_cons (pv 6) (pa_cons (pe_ix (ixLstK (K := K)) (pv 3) pe_int (fun _ _ => rfl)) pa_nil)))) pa_nil))))
          (pss_one (ps_ret pe_bl)) pss_nil))))
      (pss_cons (ps_for PassesOwn.never rfl (pi_enumT (K := K) (by rfl) menum (pa_cons (pv 1) pa_nil))
          (pgTupK (K := K) rfl (pgs_cons (pg_name (i := 5) scLShows.nd rfl (.inl rfl)) (pgs_cons (pg_name (i := 6) scLShows.nd rfl (.inl rfl)) pgs_nil)))
        (pss_one (ps_for PassesOwn.never rfl (pi_enumT (K := K) (by rfl) menum (pa_cons (pv 1) pa_nil))
            (pgTupK (K := K) rfl (pgs_cons (pg_name (i := 7) scLShows.nd rfl (.inl rfl)) (pgs_cons (pg_name (i := 8) scLShows.nd rfl (.inl rfl)) pgs_nil)))
          (pss_one (ps_if (PW.pt (pw_or (PW.pt (pw_and (pt_cmpR op_ne (pv 5) (pv 7) (nomark _)) (pw_and1 (pt_cmpR (op_eqD hr.units) (pv 6) (pv 8) (nomark _)))))
              (pw_or1 (pt_cmpR op_ne (pe_cmpR (inK (K := K)) (pv 7) (pe_ix (ixTupK (K := K)) (pv 0) (pv 5) (fun _ _ => rfl)) (by rfl))
                (pe_cmpR op_eq (pe_ix (ixTupK (K := K)) (pv 8) pe_int (fun _ _ => rfl)) (pe_ix (ixTupK (K := K)) (pv 6) pe_int (fun _ _ => rfl)) (nomark _)) (nomark _)))))
            (pss_one (ps_ret pe_bl)) pss_nil)))))
      (pss_one (ps_ret pe_bl)))))), ?_⟩
    have hT0 := hT
    obtain ⟨rs0, hp, hR⟩ := hT0
    obtain ⟨n, en⟩ : ∃ n, n = T.length := ⟨_, rfl⟩
    have l0 : (rs0.map V.ref).length = n := by rw [List.length_map, Paired.length hR, en]
    have n1 : 1 ≤ n := en ▸ rule.1
    have n16 : n ≤ 16 := en ▸ rule.2.1
    have no : ∀ H', Same H H' → ¬ ShowsP T d → Q (.bl false) H' := fun H' s' h => q false H' ⟨fun z => (by cases z), fun z => (h z).elim⟩ s'
    refine ⟨.ref p, rfl, p, _, rfl, .inr (SqT.of hp), ?_⟩
    rw [l0]
    refine ⟨.int n, rfl, n, 1, rfl, rfl, 1, (n : Int) + 1, rfl, ⟨by decide, by decide, by omega, by omega⟩, fun D nD => ?_⟩
    have sD := same_upd (o := .lst []) nD
    rw [show ((n : Int) + 1 - 1).toNat = n by omega]
    refine lc_range (lo := 1) (n := n) (fun i H2 => ∃ ws : List Int, H2 D = some (.lst (ws.map V.int)) ∧ ws.length ≤ i ∧ (∀ x : Int, x ∈ ws ↔ ∃ s : Nat, x = s ∧ 1 ≤ s ∧ s ≤ i ∧ s * s = n) ∧ Same H H2)
      ⟨[], upd_same, Nat.le_refl _, fun x => ⟨fun h => by simp at h, fun ⟨s, _, h1, h2, _⟩ => by omega⟩, sD⟩ ?_ ?_
    · rintro i H2 hi ⟨ws, hD, lw, mem, s2⟩
      have e1 : (1 : Int) + (i : Int) = ((i + 1 : Nat) : Int) := by omega
      have e2 : ((i + 1 : Nat) : Int) * ((i + 1 : Nat) : Int) = (((i + 1) * (i + 1) : Nat) : Int) := by norm_cast
      refine ⟨rfl, .int (1 + i), rfl, .int (1 + i), rfl, _, _, rfl, rfl, .inl ⟨by omega, by omega⟩, .int n, rfl, rfl, _, rfl, ?_⟩
      rw [e1]
      refine ite2 (fun e => ?_) (fun e => ?_)
      · have e' : (i + 1) * (i + 1) = n := by
          have z : ((i + 1 : Nat) : Int) * ((i + 1 : Nat) : Int) = (n : Int) := V.int.inj (of_decide_eq_true e)
          rw [e2] at z
          omega
        refine ⟨_, rfl, _, hD, by rw [List.length_map]; exact lenLine (by omega), ws ++ [((i + 1 : Nat) : Int)], ?_, ?_, fun x => ?_, ?_⟩
        · rw [upd_same, List.map_append]
          rfl
        · rw [List.length_append]
          simp
          omega
        · rw [List.mem_append, mem x, List.mem_singleton]
          refine ⟨fun h => ?_, fun ⟨s, ex, h1, h2, h3⟩ => ?_⟩
          · rcases h with ⟨s, ex, h1, h2, h3⟩ | h
            · exact ⟨s, ex, h1, by omega, h3⟩
            · exact ⟨i + 1, h, by omega, by omega, e'⟩
          · by_cases hs : s ≤ i
            · exact .inl ⟨s, ex, h1, hs, h3⟩
            · have : s = i + 1 := by omega
              rw [this] at ex
              exact .inr ex
        · intro b o hb
          rw [upd_ne (ne_of_none hb nD)]
          exact s2 _ _ hb
      · have e' : (i + 1) * (i + 1) ≠ n := fun z => e (decide_eq_true (by show V.int (((i + 1 : Nat) : Int) * ((i + 1 : Nat) : Int)) = _; rw [e2, z]))
        refine ⟨ws, hD, by omega, fun x => ?_, s2⟩
        rw [mem x]
        refine ⟨fun ⟨s, ex, h1, h2, h3⟩ => ⟨s, ex, h1, by omega, h3⟩, fun ⟨s, ex, h1, h2, h3⟩ => ⟨s, ex, h1, ?_, h3⟩⟩
        rcases Nat.lt_or_ge s (i + 1) with y | y
        · omega
        · have : s = i + 1 := by omega
          rw [this] at h3
          exact (e' h3).elim
    rintro H2 ⟨ws, hD, lw, mem, s2⟩
    refine ⟨.ref D, rfl, Nat.zero_le _, fun e ne => ?_⟩
    have se := same_upd (o := .lst []) ne
    refine ⟨.list (ws.map PyData.int), .list [], .lst (SqL.of (se _ _ hD)) (dpInts ws), .lst (SqL.of upd_same) .nil, shapedL ws, shapedL [], _, rfl, ?_⟩
    rw [eqv_nil]
    have hD3 := se _ _ hD
    have s3 := s2.trans se
    generalize upd H2 e (.lst []) = H3 at hD3 s3 ⊢
    clear hD se ne
    cases ws with
    | nil =>
      refine iteT (no H3 s3 fun z => ?_)
      obtain ⟨v', ds, _, _, e2, _⟩ := shows_len z
      have v1 : 1 ≤ v' := by
        rcases Nat.eq_zero_or_pos v' with y | y
        · subst y
          omega
        · exact y
      have := (mem (v' : Int)).mpr ⟨v', rfl, v1, by have := Nat.le_mul_of_pos_left v' v1; omega, by omega⟩
      simp at this
    | cons x ws =>
      refine iteF ?_
      obtain ⟨t, rfl, t1, tn, tt⟩ := (mem x).mp List.mem_cons_self
      have hv3 := hv.same s3
      refine ⟨v, rfl, _, _, _, _, isT d, rfl, .ty "tuple", hv3.ty, kit_ty (kitT d), _, rfl, ?_⟩
      have notT : isT d = false → Q (.bl false) H3 := fun e => no H3 s3 fun z => by
        obtain ⟨v', ds, rfl, _⟩ := shows_len z
        cases e
      cases d with
      | bool b => exact iteT (notT rfl)
      | int i => exact iteT (notT rfl)
      | none => exact iteT (notT rfl)
      | str x => exact iteT (notT rfl)
      | list x => exact iteT (notT rfl)
      | dict x => exact iteT (notT rfl)
      | tuple ds =>
        refine iteF ?_
        obtain ⟨a, xs, rfl, hs, ha, l40, fit⟩ := hv3.tup
        have lx := DpAll.len ha
        refine ⟨.ref a, rfl, a, _, rfl, .inr hs, .int n, rfl, rfl, _, rfl, ?_⟩
        dsimp only
        by_cases hl : xs.length = n
        · rw [decide_eq_true (show V.int (xs.length : Int) = V.int (n : Int) by rw [hl])]
          refine iteF ?_
          have hl' : ds.length = T.length := by omega
          refine ⟨.ref a, rfl, a, rfl, ⟨_, hs⟩, for_it (walk_tup (K := K) (a := a) (xs := xs)) (fun i σ H' => ∃ (y4 y6 : Option V), σ = [some (.ref p), some (.ref a), some (.int n), some (.ref D), y4, none, y6, none, none] ∧ Same H3 H' ∧ (ds.take i).all (pairD t) = true) ⟨none, _, rfl, Same.refl _, by simp⟩ (fun i σ H' _ h => ?_) ?_ ?_⟩
          · obtain ⟨_, _, _, sm, _⟩ := h
            exact Nm.Same.seqT sm hs
          · rintro i x σ H4 H5 hi ⟨y4, y6, rfl, sm, al⟩ ⟨rfl, hx⟩
            obtain ⟨r, hri, dp⟩ := DpAll.at ha hx
            have dp1 := dpS sm _ _ dp
            have fr := fit r (List.mem_of_getElem? hri)
            have nop : pairD t r = false → ∀ H', Same H3 H' → Q (.bl false) H' := fun e H' s' => no H' (s3.trans s') fun z => by
              obtain ⟨v', ds', e1, _, e2, al'⟩ := shows_len z
              cases e1
              have : v' = t := sq_inj (by omega)
              subst this
              rw [all_no hri e] at al'
              cases al'
            refine ⟨x, rfl, _, _, _, _, isT r, rfl, .ty "tuple", tyD dp1, kit_ty (kitT r), _, rfl, ?_⟩
            cases r with
            | bool b => exact iteT (nop rfl _ sm)
            | int i => exact iteT (nop rfl _ sm)
            | none => exact iteT (nop rfl _ sm)
            | str x => exact iteT (nop rfl _ sm)
            | list x => exact iteT (nop rfl _ sm)
            | dict x => cases dp
            | tuple es =>
              refine iteF ?_
              cases dp1 with
              | @tup c zs _ hc hz =>
              have fl : es.length ≤ 40 := by
                unfold Fit at fr
                exact fr.1
              have lz := DpAll.len hz
              refine ⟨.ref c, rfl, c, _, rfl, .inr hc, rfl, _, rfl, ?_⟩
              dsimp only
              by_cases h2 : zs.length = 2
              · rw [decide_eq_true (show V.int (zs.length : Int) = V.int 2 by rw [h2]; rfl)]
                refine iteF ?_
                refine ⟨.ref c, rfl, c, rfl, ⟨_, hc⟩, fun D2 nD2 => ?_⟩
                have sD2 := same_upd (o := .lst []) nD2
                refine lc_tup (K := K) (a := c) (xs := zs) (fun i H6 => H6 D2 = some (.lst (((es.take i).map (belowD t)).map V.bl)) ∧ Same H5 H6) ⟨upd_same, sD2⟩ (fun i H6 _ h => Nm.Same.seqT h.2 hc) ?_ ?_
                · rintro m y H6 hy ⟨hD6, s6⟩
                  obtain ⟨e, hei, de⟩ := DpAll.at hz hy
                  refine ⟨rfl, yesI ⟨y, rfl, .ref D, rfl, D, _, 0, _, rfl, rfl, SqL.of (s6 _ _ (sm _ _ hD3)), atI_nat (j := 0) rfl, y, e, t, rfl, dpS s6 _ _ de, _, hD6, ?_, ?_, ?_⟩⟩
                  · rw [List.length_map, List.length_map, List.length_take]
                    exact lenLine (by omega)
                  · rw [upd_same, List.take_add_one, hei, List.map_append, List.map_append]
                    rfl
                  · intro b o hb
                    rw [upd_ne (ne_of_none hb nD2)]
                    exact s6 _ _ hb
                rintro H6 ⟨hD6, s6⟩
                rw [lz] at hD6
                refine ⟨D2, _, rfl, SqL.of hD6, _, rfl, ?_⟩
                rw [all_take]
                have pe : pairD t (.tuple es) = es.all (belowD t) := by
                  rw [pair_all, decide_eq_true (by omega), Bool.true_and]
                cases hall : es.all (belowD t) with
                | false => exact iteT (nop (by rw [pe, hall]) _ (sm.trans s6))
                | true =>
                  refine iteF ⟨_, _, rfl, sm.trans s6, ?_⟩
                  rw [List.take_add_one, hri, List.all_append, al]
                  simp [pe, hall]
              · rw [decide_eq_false (show ¬ V.int (zs.length : Int) = V.int 2 from fun z => h2 (by have := V.int.inj z; omega))]
                refine iteT (nop ?_ _ sm)
                rw [pair_all, decide_eq_false (by omega), Bool.false_and]
          · rintro σ H4 ⟨y4, y6, rfl, sm, al⟩
            rw [lx, List.take_length] at al
            have tT : t * t = T.length := by omega
            have iff := shows_iff rule tT hl' al
            obtain ⟨rs, rfl, hP⟩ := dp_pairs ha al
            obtain ⟨ps, eps⟩ : ∃ ps, ps = ds.map toP := ⟨_, rfl⟩
            rw [← eps] at hP iff
            have lps : ps.length = n := by rw [eps, List.length_map]; omega
            have hs4 := Nm.Same.seqT sm hs
            have bad : ∀ a b : Nat, ¬ OkAt T ps a b → ∀ H', Same H4 H' → Q (.bl false) H' := fun a b e H' s' => no H' (s3.trans (sm.trans s')) fun z => e (iff.mp z a b)
            refine ⟨.ref a, rfl, a, _, rfl, hs4, for_it (walkET (K := K) (a := a) (xs := rs.map V.ref)) (fun i σ H' => ∃ (y4 y5 y6 y7 y8 : Option V), σ = [some (.ref p), some (.ref a), some (.int n), some (.ref D), y4, y5, y6, y7, y8] ∧ Same H4 H' ∧ ∀ a b : Nat, a < i → OkAt T ps a b) ⟨_, _, _, _, _, rfl, Same.refl _, fun a b h => absurd h (Nat.not_lt_zero _)⟩ (fun i σ H' _ h => ?_) ?_ ?_⟩
            · obtain ⟨_, _, _, _, _, _, sm', _⟩ := h
              exact Nm.Same.seqT sm' hs4
            · rintro i x σ H5 H6 hi ⟨y4, y5, y6, y7, y8, rfl, s5, inv⟩ ⟨Tp, u, w', rfl, nTp, rfl, ea, eb⟩
              obtain rfl : V.int (i : Nat) = u := Option.some.inj ea
              obtain ⟨c, hc, rfl⟩ := ref_at eb
              obtain ⟨qa, hqa, hcell⟩ := paired_get hP hc
              have il : i < n := by
                have := (List.getElem?_eq_some_iff.mp hqa).1
                omega
              have sT := same_upd (o := .tup [.int (i : Nat), .ref c]) nTp
              have hTp : upd H5 Tp (.tup [.int (i : Nat), .ref c]) Tp = some (.tup [.int (i : Nat), .ref c]) := upd_same
              have s6 := s5.trans sT
              generalize upd H5 Tp (.tup [.int (i : Nat), .ref c]) = H7 at sT hTp s6 ⊢
              refine ⟨Tp, _, rfl, SqT.of hTp, rfl, _, _, rfl, _, _, rfl, rfl, ?_⟩
              refine ⟨.ref a, rfl, a, _, rfl, Nm.Same.seqT s6 hs4, for_it (walkET (K := K) (a := a) (xs := rs.map V.ref)) (fun j σ H' => ∃ (y7 y8 : Option V), σ = [some (.ref p), some (.ref a), some (.int n), some (.ref D), y4, some (.int (i : Nat)), some (.ref c), y7, y8] ∧ Same H4 H' ∧ ∀ b : Nat, b < j → OkAt T ps i b) ⟨_, _, rfl, s6, fun b h => absurd h (Nat.not_lt_zero _)⟩ (fun j σ H' _ h => ?_) ?_ ?_⟩
              · obtain ⟨_, _, _, sm', _⟩ := h
                exact Nm.Same.seqT sm' hs4
              · rintro j x σ H8 H9 hj ⟨y7, y8, rfl, s8, inv2⟩ ⟨Tp2, u, w', rfl, nTp2, rfl, ea, eb⟩
                obtain rfl : V.int (j : Nat) = u := Option.some.inj ea
                obtain ⟨c2, hc2, rfl⟩ := ref_at eb
                obtain ⟨qb, hqb, hcell2⟩ := paired_get hP hc2
                have sT2 := same_upd (o := .tup [.int (j : Nat), .ref c2]) nTp2
                have hTp2 : upd H8 Tp2 (.tup [.int (j : Nat), .ref c2]) Tp2 = some (.tup [.int (j : Nat), .ref c2]) := upd_same
                have s9 := s8.trans sT2
                generalize upd H8 Tp2 (.tup [.int (j : Nat), .ref c2]) = H10 at sT2 hTp2 s9 ⊢
                have hA := Nm.Same.seqT (sm.trans s9) hcell
                have hB := Nm.Same.seqT (sm.trans s9) hcell2
                have hT10 := s9 _ _ (sm _ _ (s3 _ _ hp))
                obtain ⟨cr, hcr⟩ : ∃ cr, rs0[i]? = some cr := ⟨_, List.getElem?_eq_getElem (by rw [List.length_map] at l0; omega)⟩
                obtain ⟨row, hrow, hrc⟩ := paired_get hR hcr
                have hrow10 := s9 _ _ (sm _ _ (s3 _ _ hrc))
                have eD : T.getD i [] = row := by rw [List.getD_eq_getElem?_getD, hrow]; rfl
                have ai : atI (rs0.map V.ref) (i : Int) = some (.ref cr) := atI_nat (by rw [List.getElem?_map, hcr]; rfl)
                refine ⟨Tp2, _, rfl, SqT.of hTp2, rfl, _, _, rfl, _, _, rfl, rfl, ?_⟩
                have step : (i ≠ j → qa ≠ qb) → (((j : Int) ∈ row) ↔ qb.1 = qa.2) → OkAt T ps i j := fun h1 h2 qa' qb' e1 e2 => by
                  rw [hqa] at e1
                  rw [hqb] at e2
                  cases e1
                  cases e2
                  rw [eD]
                  exact ⟨h1, h2⟩
                refine ⟨.int i, rfl, .int j, rfl, rfl, _, rfl, ?_⟩
                by_cases hij : i = j
                · rw [decide_eq_true (show V.int (i : Int) = V.int (j : Int) by rw [hij])]
                  refine iteF (iteF ?_)
                  have hne : i ≠ j → qa ≠ qb := fun z => (z hij).elim
                  refine ⟨.int j, rfl, .ref p, rfl, .int i, rfl, p, _, (i : Int), _, rfl, rfl, SqT.of hT10, ai, _, _, rfl, .inr (SqT.of hrow10), rfl, flat_ints row, .ref c2, rfl, c2, _, 0, _, rfl, rfl, hB, rfl, .ref c, rfl, c, _, 1, _, rfl, rfl, hA, rfl, rfl, rfl, _, rfl, ?_⟩
                  dsimp only
                  rw [show (if false = true then !inV (V.int (j : Int)) (row.map V.int) else inV (V.int (j : Int)) (row.map V.int)) = decide ((j : Int) ∈ row) from inV_int _ _]
                  by_cases hm : ((j : Int) ∈ row ↔ qb.1 = qa.2)
                  · rw [decide_eq_true (show V.bl (decide ((j : Int) ∈ row)) = V.bl (decide (V.int qb.1 = V.int qa.2)) from congrArg V.bl (decide_eq_decide.mpr (hm.trans ⟨fun z => congrArg V.int z, V.int.inj⟩)))]
                    refine iteF ⟨_, _, rfl, s9, fun b' hb' => ?_⟩
                    rcases Nat.lt_or_ge b' j with y | y
                    · exact inv2 b' y
                    · have : b' = j := by omega
                      subst this
                      exact step hne hm
                  · rw [decide_eq_false (show ¬ V.bl (decide ((j : Int) ∈ row)) = V.bl (decide (V.int qb.1 = V.int qa.2)) from fun z => hm ((decide_eq_decide.mp (V.bl.inj z)).trans ⟨V.int.inj, fun z => congrArg V.int z⟩))]
                    exact iteT (bad i j (fun ok => hm (by have z := (ok qa qb hqa hqb).2; rw [eD] at z; exact z)) _ s9)
                · rw [decide_eq_false (show ¬ V.int (i : Int) = V.int (j : Int) from fun z => hij (by have := V.int.inj z; omega))]
                  refine iteT ⟨.ref c, rfl, .ref c2, rfl, prD qa, prD qb, dp_pr hA, dp_pr hB, shaped_pr _, shaped_pr _, _, rfl, ?_⟩
                  rw [eqv_pr]
                  by_cases hq : qa = qb
                  · rw [decide_eq_true hq]
                    exact iteT (bad i j (fun ok => (ok qa qb hqa hqb).1 hij hq) _ s9)
                  · rw [decide_eq_false hq]
                    refine iteF ?_
                    have hne : i ≠ j → qa ≠ qb := fun _ => hq
                    refine ⟨.int j, rfl, .ref p, rfl, .int i, rfl, p, _, (i : Int), _, rfl, rfl, SqT.of hT10, ai, _, _, rfl, .inr (SqT.of hrow10), rfl, flat_ints row, .ref c2, rfl, c2, _, 0, _, rfl, rfl, hB, rfl, .ref c, rfl, c, _, 1, _, rfl, rfl, hA, rfl, rfl, rfl, _, rfl, ?_⟩
                    dsimp only
                    rw [show (if false = true then !inV (V.int (j : Int)) (row.map V.int) else inV (V.int (j : Int)) (row.map V.int)) = decide ((j : Int) ∈ row) from inV_int _ _]
                    by_cases hm : ((j : Int) ∈ row ↔ qb.1 = qa.2)
                    · rw [decide_eq_true (show V.bl (decide ((j : Int) ∈ row)) = V.bl (decide (V.int qb.1 = V.int qa.2)) from congrArg V.bl (decide_eq_decide.mpr (hm.trans ⟨fun z => congrArg V.int z, V.int.inj⟩)))]
                      refine iteF ⟨_, _, rfl, s9, fun b' hb' => ?_⟩
                      rcases Nat.lt_or_ge b' j with y | y
                      · exact inv2 b' y
                      · have : b' = j := by omega
                        subst this
                        exact step hne hm
                    · rw [decide_eq_false (show ¬ V.bl (decide ((j : Int) ∈ row)) = V.bl (decide (V.int qb.1 = V.int qa.2)) from fun z => hm ((decide_eq_decide.mp (V.bl.inj z)).trans ⟨V.int.inj, fun z => congrArg V.int z⟩))]
                      exact iteT (bad i j (fun ok => hm (by have z := (ok qa qb hqa hqb).2; rw [eD] at z; exact z)) _ s9)
              · rintro σ H8 ⟨y7, y8, rfl, s8, inv2⟩
                refine ⟨_, _, _, _, _, rfl, s8, fun a' b' h => ?_⟩
                rcases Nat.lt_or_ge a' i with y | y
                · exact inv a' b' y
                · have : a' = i := by omega
                  subst this
                  rcases Nat.lt_or_ge b' (rs.map V.ref).length with z | z
                  · exact inv2 b' z
                  · intro qa' qb' _ e2
                    have := (List.getElem?_eq_some_iff.mp e2).1
                    rw [List.length_map] at z
                    have := Paired.length hP
                    omega
            · rintro σ H5 ⟨y4, y5, y6, y7, y8, rfl, s5, inv⟩
              refine q true H5 ⟨fun _ => iff.mpr fun a' b' => ?_, fun _ => rfl⟩ (s3.trans (sm.trans s5))
              rcases Nat.lt_or_ge a' (rs.map V.ref).length with z | z
              · exact inv a' b' z
              · intro qa' qb' e1 _
                have := (List.getElem?_eq_some_iff.mp e1).1
                rw [List.length_map] at z
                have := Paired.length hP
                omega
        · rw [decide_eq_false (show ¬ V.int (xs.length : Int) = V.int (n : Int) from fun z => hl (by have := V.int.inj z; omega))]
          refine iteT (no H3 s3 fun z => ?_)
          obtain ⟨v', ds', e1, e2, _⟩ := shows_len z
          cases e1
          omega
end
end Nm

/-! sorted of tuples of ints of any lengths -/
namespace TSA
open PySem PyProof.Rows TS
def lexB : List Int → List Int → Bool
  | [], [] => false
  | [], _ :: _ => true
  | _ :: _, [] => false
  | x :: xs, y :: ys => if x = y then lexB xs ys else decide (x < y)
theorem lexB_cons (x y : Int) (xs ys : List Int) : lexB (x :: xs) (y :: ys) = if x = y then lexB xs ys else decide (x < y) := by rw [lexB]
theorem lexB_total : ∀ a b : List Int, lexB a b = false → lexB b a = false → a = b
  | [], [], _, _ => rfl
  | [], _ :: _, h, _ => by simp [lexB] at h
  | _ :: _, [], _, h => by simp [lexB] at h
  | x :: xs, y :: ys, h1, h2 => by
    unfold lexB at h1 h2
    by_cases e : x = y
    · rw [if_pos e] at h1
      rw [if_pos e.symm] at h2
      rw [e, lexB_total xs ys h1 h2]
    · rw [if_neg e] at h1
      rw [if_neg (Ne.symm e)] at h2
      have a := of_decide_eq_false h1
      have b := of_decide_eq_false h2
      omega
def pad : Nat → List Int → List Int
  | 0, _ => []
  | N + 1, [] => 0 :: pad N []
  | N + 1, x :: xs => (x + 1) :: pad N xs
theorem pad_len : ∀ (N : Nat) (ns : List Int), (pad N ns).length = N
  | 0, _ => rfl
  | N + 1, [] => by simp [pad, pad_len N]
  | N + 1, x :: xs => by simp [pad, pad_len N]
theorem pad_bd {B : Int} (hB : 0 ≤ B) : ∀ (N : Nat) (ns : List Int), Bd B ns → Bd (B + 1) (pad N ns)
  | 0, _, _ => fun m hm => by cases hm
  | N + 1, [], h => fun m hm => by
    rcases List.mem_cons.mp hm with e | e
    · omega
    · exact pad_bd hB N [] h m e
  | N + 1, x :: xs, h => fun m hm => by
    rcases List.mem_cons.mp hm with e | e
    · have := h.head
      omega
    · exact pad_bd hB N xs h.tail m e
def rk (N : Nat) (B : Int) (ns : List Int) : Int := code (B + 1) (pad N ns)
theorem rk_lex {B : Int} (hB : 0 ≤ B) : ∀ (N : Nat) (ns ms : List Int), ns.length ≤ N → ms.length ≤ N → Bd B ns → Bd B ms → decide (rk N B ns < rk N B ms) = lexB ns ms
  | N, [], [], _, _, _, _ => decide_eq_false (Int.lt_irrefl _)
  | 0, [], y :: ys, _, h, _, _ => by simp at h
  | 0, x :: xs, _, h, _, _, _ => by simp at h
  | N + 1, [], y :: ys, _, _, h1, h2 => by
    have z : rk (N + 1) B [] < rk (N + 1) B (y :: ys) := code_lt (d := 0) (e := y + 1) (r := pad N []) (q := pad N ys) (by rw [pad_len, pad_len]) (pad_bd hB N [] h1) (pad_bd hB N ys h2.tail) (by have := h2.head; omega)
    rw [decide_eq_true z]
    rfl
  | N + 1, x :: xs, [], _, _, h1, h2 => by
    have z : rk (N + 1) B [] < rk (N + 1) B (x :: xs) := code_lt (d := 0) (e := x + 1) (r := pad N []) (q := pad N xs) (by rw [pad_len, pad_len]) (pad_bd hB N [] h2) (pad_bd hB N xs h1.tail) (by have := h1.head; omega)
    rw [decide_eq_false (by omega)]
    rfl
  | N + 1, x :: xs, y :: ys, l1, l2, h1, h2 => by
    have ih := rk_lex hB N xs ys (by simpa using l1) (by simpa using l2) h1.tail h2.tail
    have lp : (pad N xs).length = (pad N ys).length := by rw [pad_len, pad_len]
    unfold lexB
    by_cases e : x = y
    · subst e
      rw [if_pos rfl, ← ih]
      exact decide_eq_decide.mpr (code_same (d := x + 1) lp)
    · rw [if_neg e]
      refine decide_eq_decide.mpr ⟨fun z => ?_, fun z => code_lt (d := x + 1) (e := y + 1) lp (pad_bd hB N xs h1.tail) (pad_bd hB N ys h2.tail) (by omega)⟩
      rcases Int.lt_trichotomy x y with q | q | q
      · exact q
      · exact (e q).elim
      · have := code_lt (d := y + 1) (e := x + 1) lp.symm (pad_bd hB N ys h2.tail) (pad_bd hB N xs h1.tail) (by omega)
        have z' : code (B + 1) ((x + 1) :: pad N xs) < code (B + 1) ((y + 1) :: pad N ys) := z
        omega
/-- what is sorted -/
def TupsA (h : Heap) (N : Nat) (B : Int) (vs : List Value) : Prop := ∀ v, v ∈ vs → ∃ ns, TupInts h v ns ∧ ns.length ≤ N ∧ Bd B ns
theorem TupsA.keeps {h h' : Heap} {N : Nat} {B : Int} {vs : List Value} (x : TupsA h N B vs) (k : ∀ b o, h.get? b = some o → o.cls = .type "tuple" → h'.get? b = some o) : TupsA h' N B vs := fun v hv =>
  let ⟨ns, t, r⟩ := x v hv; ⟨ns, t.keeps k, r⟩
def KatAny (h : Heap) : List Value → List (Option Value) → Prop
  | [], [] => True
  | v :: vs, f :: fs => (∃ a o xs n, v = .ref a ∧ h.get? a = some o ∧ o.cls = .type "tuple" ∧ o.data = .seq xs n ∧ xs[0]? = f) ∧ KatAny h vs fs
  | _, _ => False
theorem at_drop {ns : List Int} {i : Nat} (h : i < ns.length) : ns.drop i = ns.getD i 0 :: ns.drop (i + 1) := by
  rw [List.drop_eq_getElem_cons h, List.getD_eq_getElem?_getD, List.getElem?_eq_getElem h]
  rfl
theorem lexAt_eq (ns ms : List Int) : ∀ (k i : Nat), k = min ns.length ms.length - i → i ≤ min ns.length ms.length →
    Ob.lexAt (fun j => ns.getD j 0 == ms.getD j 0) (fun j => decide (ns.getD j 0 < ms.getD j 0)) (decide (ns.length < ms.length)) i k = lexB (ns.drop i) (ms.drop i)
  | 0, i, hk, hi => by
    rw [Ob.lexAt_zero]
    rcases Nat.lt_or_ge ns.length ms.length with h | h
    · have e : i = ns.length := by omega
      rw [decide_eq_true h, e, List.drop_length, at_drop h]
      rfl
    · have e : i = ms.length := by omega
      rw [decide_eq_false (by omega), e, List.drop_length]
      cases ns.drop ms.length <;> rfl
  | k + 1, i, hk, hi => by
    rw [Ob.lexAt_succ, lexAt_eq ns ms k (i + 1) (by omega) (by omega), at_drop (show i < ns.length by omega), at_drop (show i < ms.length by omega)]
    rw [lexB_cons]
    show (if (ns.getD i 0 == ms.getD i 0) = true then _ else _) = _
    by_cases e : ns.getD i 0 = ms.getD i 0
    · rw [if_pos (beq_iff_eq.mpr e), if_pos e]
    · rw [if_neg (fun z => e (beq_iff_eq.mp z)), if_neg e]
section
variable {prog : Program} {w : World} {A : Around} {E : Value → Shared → Prop} {s : Shared}
theorem firsts_any {M : Model} : ∀ (vs : List Value) (fs : List (Option Value)) {Q : List (Option Value) → Shared → Prop}, KatAny s.heap vs fs → Q fs s → wpAny M A (vs.mapM firstOfTuple') Q E s
  | [], [], _, _, h => by rw [List.mapM_nil]; exact wpAny_pure h
  | [], _ :: _, _, t, _ => t.elim
  | _ :: _, [], _, t, _ => t.elim
  | v :: vs, f :: fs, Q, t, h => by
    obtain ⟨⟨a, o, xs, n, rfl, ho, hc, hd, hf⟩, t⟩ := t
    rw [List.mapM_cons]
    refine wpAny_bind ?_
    rw [PySem.W.kas_first_eq]
    refine wpAny_bind (PySem.W.Looks.here (show PySem.W.Looks M s.heap (typeOf (.ref a)) o.cls from (PySem.W.Looks.ld ho).andThen .now) ?_)
    rw [hc, if_neg (by first | decide | simp)]
    refine wpAny_bind (listItems_at ho hd (wpAny_pure ?_))
    rw [hf]
    exact wpAny_bind (firsts_any vs fs (Q := fun bs s' => wpAny M A (pure (f :: bs)) Q E s') t (wpAny_pure h))
theorem any_of {h : Heap} {N : Nat} {B : Int} : ∀ vs : List Value, TupsA h N B vs → ∃ fs, KatAny h vs fs ∧ fs.length = vs.length ∧ ∀ (i : Nat) (v : Value), vs[i]? = some v → ∃ ns, TupInts h v ns ∧ (fs[i]? = some none ↔ ns = [])
  | [], _ => ⟨[], trivial, rfl, fun i v h => by simp at h⟩
  | v :: vs, x => by
    obtain ⟨fs, k, hl, hi⟩ := any_of vs fun u hu => x u (List.mem_cons_of_mem _ hu)
    obtain ⟨ns, t, hn, _⟩ := x v (List.mem_cons_self ..)
    have t0 := t
    obtain ⟨a, xs, rfl, ⟨o, ho, hc, n, hdt⟩, i⟩ := t0
    refine ⟨xs[0]? :: fs, ⟨⟨a, o, xs, n, rfl, ho, hc, hdt, rfl⟩, k⟩, by simp [hl], fun j u hu => ?_⟩
    cases j with
    | zero =>
      cases hu
      refine ⟨ns, t, ?_⟩
      have l := i.length
      rw [Array.length_toList] at l
      show some xs[0]? = some none ↔ ns = []
      rw [Option.some.injEq, Array.getElem?_eq_none_iff, ← List.length_eq_zero_iff]
      omega
    | succ j => exact hi j u (by simpa using hu)
theorem lexK {b : Bool} {Q : Bool → Shared → Prop} {xs ys : List Value} {ns ms : List Int} (i : Nat) (hx : IntsAre xs ns) (hy : IntsAre ys ms) (h : Q (lexB ns ms) s) : PySem.W.KatLex prog w A b (decide (ns.length < ms.length)) Q (xs.zip ys) i s := by
  induction hx generalizing ys ms i with
  | nil =>
    cases hy with
    | nil => exact PySem.W.kat_nil (by rw [decide_eq_false (by simp)]; exact h)
    | cons q u hy => exact PySem.W.kat_nil (by rw [decide_eq_true (by simp)]; exact h)
  | @cons p t xs ns hx ih =>
    cases hy with
    | nil => exact PySem.W.kat_nil (by rw [decide_eq_false (by simp)]; exact h)
    | @cons q u ys ms hy =>
      have el : decide ((p :: ns).length < (q :: ms).length) = decide (ns.length < ms.length) := decide_eq_decide.mpr (by simp)
      rw [el]
      show PySem.W.KatLex prog w A b _ Q ((Value.int p t, Value.int q u) :: xs.zip ys) i s
      refine PySem.W.kat_cons (wpAny_eqBool_int ?_)
      unfold lexB at h
      by_cases e : p = q
      · subst e
        rw [if_pos rfl] at h
        rw [beq_self_eq_true]
        refine PySem.W.kat_yes ?_
        have h' : Q (lexB ns ms) s := h
        first
          | exact ih (i + 1) hy h'
          | exact ih _ _ (i + 1) hy h'
      · rw [if_neg e] at h
        rw [show (p == q) = false from beq_eq_false_iff_ne.mpr e]
        exact PySem.W.kat_no (oneLt_ints _ h)
theorem ints_at {xs : List Value} {ns : List Int} (h : IntsAre xs ns) : ∀ (j : Nat) (hj : j < xs.length), ∃ t, xs[j] = Value.int (ns.getD j 0) t := by
  induction h with
  | nil => intro j hj; simp at hj
  | @cons p t xs ns hx ih =>
    intro j hj
    cases j with
    | zero => exact ⟨t, rfl⟩
    | succ j => exact ih j (by simpa using hj)
theorem rc_tup {x y : Addr} {xs ys : Array Value} {ns ms : List Int} (hu : A.units < cLine) (tx : IsTup s.heap x xs) (ty : IsTup s.heap y ys) (ix : IntsAre xs.toList ns) (iy : IntsAre ys.toList ms) :
    (∀ j (h1 : j < xs.size) (h2 : j < ys.size), PySem.SeqAt.EqAt A.in1 s xs[j] ys[j] (ns.getD j 0 == ms.getD j 0)) ∧
    (∀ j (h1 : j < xs.size) (h2 : j < ys.size), (ns.getD j 0 == ms.getD j 0) = false → Ob.RcOp .Lt A.in1 s xs[j] ys[j] (decide (ns.getD j 0 < ms.getD j 0))) ∧
    Ob.lexAt (fun j => ns.getD j 0 == ms.getD j 0) (fun j => decide (ns.getD j 0 < ms.getD j 0)) (decide (xs.size < ys.size)) 0 (min xs.size ys.size) = lexB ns ms := by
  have l1 := ix.length
  have l2 := iy.length
  rw [Array.length_toList] at l1 l2
  have g : ∀ (zs : Array Value) (ks : List Int), IntsAre zs.toList ks → ∀ j (h : j < zs.size), ∃ t, zs[j] = Value.int (ks.getD j 0) t := fun zs ks h j hj => by
    obtain ⟨t, e⟩ := ints_at h j (by rw [Array.length_toList]; exact hj)
    exact ⟨t, by rw [← e]; exact (Array.getElem_toList hj).symm⟩
  refine ⟨fun j h1 h2 => ?_, fun j h1 h2 _ => ?_, ?_⟩
  · obtain ⟨t, e1⟩ := g xs ns ix j h1
    obtain ⟨u, e2⟩ := g ys ms iy j h2
    rw [e1, e2]
    exact PySem.SeqAt.EqAt.int_int _ _ _ _
  · obtain ⟨t, e1⟩ := g xs ns ix j h1
    obtain ⟨u, e2⟩ := g ys ms iy j h2
    rw [e1, e2]
    exact Ob.RcOp.lt_int _ _ _ _
  · have z := lexAt_eq ns ms (min ns.length ms.length) 0 (by omega) (by omega)
    rw [List.drop_zero, List.drop_zero] at z
    rw [l1, l2]
    exact z
theorem cmp_tup {N : Nat} {B : Int} {vs : List Value} (hB : 0 ≤ B) (b : Bool) (x : TupsA s.heap N B vs) (r : Value → Int) (hr : ∀ v, v ∈ vs → ∀ ns, TupInts s.heap v ns → r v = rk N B ns) : Cmp prog w A s (tuples' b) (pairsOf vs) r := by
  intro p q hp hq Q' E' hQ
  rw [pairsOf_toList] at hp hq
  obtain ⟨ns, tp, lp, bp⟩ := x _ (mem_zip_self hp).2
  obtain ⟨ms, tq, lq, bq⟩ := x _ (mem_zip_self hq).2
  rw [hr _ (mem_zip_self hp).2 _ tp, hr _ (mem_zip_self hq).2 _ tq, rk_lex hB N ns ms lp lq bp bq] at hQ
  obtain ⟨a, xs, e1, ⟨o, ho, hc, n, hdt⟩, i⟩ := tp
  obtain ⟨a', ys, e2, ⟨o', ho', hc', n', hdt'⟩, i'⟩ := tq
  rw [e1, e2]
  refine PySem.W.kat_lt ho hdt ho' hdt' ?_
  have l1 := i.length
  have l2 := i'.length
  rw [Array.length_toList] at l1 l2
  rw [l1, l2]
  exact lexK 0 i i' hQ
theorem cmp_gen {N : Nat} {B : Int} {vs : List Value} (hB : 0 ≤ B) (hu : A.units < cLine) (x : TupsA s.heap N B vs) (r : Value → Int) (hr : ∀ v, v ∈ vs → ∀ ns, TupInts s.heap v ns → r v = rk N B ns) : Cmp prog w A s general' (pairsOf vs) r := by
  intro p q hp hq Q' E' hQ
  rw [pairsOf_toList] at hp hq
  obtain ⟨ns, tp, lp, bp⟩ := x _ (mem_zip_self hp).2
  obtain ⟨ms, tq, lq, bq⟩ := x _ (mem_zip_self hq).2
  rw [hr _ (mem_zip_self hp).2 _ tp, hr _ (mem_zip_self hq).2 _ tq, rk_lex hB N ns ms lp lq bp bq] at hQ
  obtain ⟨a, xs, e1, tx, i⟩ := tp
  obtain ⟨a', ys, e2, ty, i'⟩ := tq
  rw [e1, e2]
  obtain ⟨r1, r2, r3⟩ := rc_tup (A := A) hu tx ty i i'
  have z := Ob.RcOp.tuples_lt (A := A) tx ty hu r1 r2 prog w E' (PySem.W.BoolBack Q')
  rw [r3] at z
  exact PySem.W.kat_one _ _ (z hQ)
theorem cmp_one {N : Nat} {B : Int} {vs : List Value} (hB : 0 ≤ B) (hu : A.units < cLine) (x : TupsA s.heap N B vs) (r : Value → Int) (hr : ∀ v, v ∈ vs → ∀ ns, TupInts s.heap v ns → r v = rk N B ns) : Cmp prog w A s oneType' (pairsOf vs) r := by
  intro p q hp hq Q' E' hQ
  rw [pairsOf_toList] at hp hq
  obtain ⟨ns, tp, lp, bp⟩ := x _ (mem_zip_self hp).2
  obtain ⟨ms, tq, lq, bq⟩ := x _ (mem_zip_self hq).2
  rw [hr _ (mem_zip_self hp).2 _ tp, hr _ (mem_zip_self hq).2 _ tq, rk_lex hB N ns ms lp lq bp bq] at hQ
  obtain ⟨a, xs, e1, tx, i⟩ := tp
  obtain ⟨a', ys, e2, ty, i'⟩ := tq
  rw [e1, e2]
  obtain ⟨r1, r2, r3⟩ := rc_tup (A := A) hu tx ty i i'
  obtain ⟨⟨cls, dd, data, sl⟩, ho, hc, n, hd⟩ := id tx
  obtain ⟨⟨cls2, dd2, data2, sl2⟩, ho2, hc2, n2, hd2⟩ := id ty
  simp only at hc hd hc2 hd2
  subst hc hd hc2 hd2
  rw [keyLt'_oneType, oneLt'_eq]
  simp only [if_true]
  refine wpAny_bind (wpAny_cRoomFor hu ?_)
  refine wpAny_bind (wpAny_callSpecialIfBound?_slot ⟨_, ho, rfl⟩ F.slot_tuple_lt (call_meets F.slot_tuple_lt ⟨_, ho, rfl⟩ F.entry_tuple_lt (F.args_tuple_lt_2 _ _) (Ob.tuple_ltAt a a' xs ys n n2 dd dd2 sl sl2 _ _) ⟨ho, ho2, r1, r2, ?_⟩))
  rw [r3]
  exact wpAny_truthy_bool hQ
theorem kind_any {N : Nat} {B : Int} {vs : List Value} (hB : 0 ≤ B) (hu : A.units < cLine) (h2 : 2 ≤ vs.length) (x : TupsA s.heap N B vs) (r : Value → Int) (hr : ∀ v, v ∈ vs → ∀ ns, TupInts s.heap v ns → r v = rk N B ns) (Q : SortKind → Shared → Prop)
    (h : ∀ κ, Cmp prog w A s κ (pairsOf vs) r → Q κ s) : wpAny (model prog w) A (keyKind' vs.toArray) Q E s := by
  obtain ⟨fs, k, hl, hi⟩ := any_of vs x
  by_cases hall : fs.all (fun f => f.isSome) = true
  · have k2 : ∀ (vs : List Value) (fs : List (Option Value)), KatAny s.heap vs fs → fs.all (fun f => f.isSome) = true → (∀ v ∈ vs, ∃ ns, TupInts s.heap v ns) → ∃ gs : List Value, PySem.W.KatTups s.heap vs gs ∧ gs.length = vs.length ∧ ∀ g ∈ gs, ∃ n t, g = Value.int n t := by
      intro vs
      induction vs with
      | nil =>
        intro fs k ha _
        exact ⟨[], PySem.W.KatTups.nil, rfl, fun g hg => by simp at hg⟩
      | cons v vs ih =>
        intro fs k ha ht
        cases fs with
        | nil => exact k.elim
        | cons f fs =>
          obtain ⟨⟨a, o, xs, n, rfl, ho, hc, hd, hf⟩, k⟩ := k
          rw [List.all_cons, Bool.and_eq_true] at ha
          obtain ⟨gs, kt, lg, hg⟩ := ih fs k ha.2 fun u hu => ht u (List.mem_cons_of_mem _ hu)
          obtain ⟨y, ey⟩ : ∃ y, f = some y := Option.isSome_iff_exists.mp ha.1
          subst ey
          obtain ⟨ns, a', xs', e, ⟨o', ho', hc', n', hd'⟩, i⟩ := ht _ List.mem_cons_self
          cases e
          rw [ho] at ho'
          cases ho'
          rw [hd] at hd'
          cases hd'
          obtain ⟨m, t, hy⟩ := i.all y (by
            have := Array.mem_of_getElem? hf
            exact Array.mem_toList_iff.mpr this)
          refine ⟨y :: gs, PySem.W.KatTups.cons ho hc hd hf kt, by simp [lg], fun g hg' => ?_⟩
          rcases List.mem_cons.mp hg' with rfl | hg'
          · exact ⟨m, t, hy⟩
          · exact hg g hg'
    obtain ⟨gs, kt, lg, hg⟩ := k2 vs fs k hall fun v hv => let ⟨ns, t, _⟩ := x v hv; ⟨ns, t⟩
    refine PySem.W.kat_kind (T := Value.type "int") kt (by omega) (fun f hf => ?_) rfl (h _ (cmp_tup hB _ x r hr))
    obtain ⟨n, t, rfl⟩ := hg f hf
    exact PySem.W.Looks.of_pure rfl
  · rw [PyProof.Rows.kat_kind_eq, List.mapM_toArray, map_eq_pure_bind]
    refine wpAny_bind (wpAny_bind (firsts_any vs fs k (wpAny_pure ?_)))
    have hall' : ¬ ((fs.toArray.all fun x => x.isSome) = true) := by simpa using hall
    rw [if_neg hall']
    split
    · exact wpAny_pure (h _ (cmp_gen hB hu x r hr))
    · rw [oneTypeOnly'_eq, List.mapM_toArray, map_eq_pure_bind]
      refine wpAny_bind (wpAny_bind (wpAny_bind (PySem.W.kas_mapM (r := Value.type "tuple") _ (fun v hv Q' hq => ?_) (wpAny_pure ?_))))
      · obtain ⟨ns, ⟨a, xs, rfl, ⟨o, ho, hc, _⟩, _⟩, _⟩ := x v hv
        refine PySem.W.Looks.here (show PySem.W.Looks (model prog w) s.heap (typeOf (.ref a)) o.cls from (PySem.W.Looks.ld ho).andThen .now) ?_
        rw [hc]
        exact hq
      · obtain ⟨v, vs', rfl⟩ : ∃ v vs', vs = v :: vs' := by
          cases vs with
          | nil => simp at h2
          | cons v vs' => exact ⟨v, vs', rfl⟩
        have hall2 : ((List.map (fun _ => Value.type "tuple") (v :: vs')).toArray.all fun x => x == Value.type "tuple") = true := by
          simp only [List.all_toArray, List.all_map, List.all_eq_true]
          intro _ _
          rfl
        have h0 : (List.map (fun _ => Value.type "tuple") (v :: vs')).toArray[0]? = some (Value.type "tuple") := by simp
        rw [h0]
        simp only [hall2, if_true]
        exact wpAny_pure (wpAny_pure (h _ (cmp_one hB hu x r hr)))
/-- list.sort of a list of tuples of ints -/
theorem sort_any {a : Addr} {vs : List Value} {n N : Nat} {B : Int} {P : PySem.Fin → Shared → Prop} (hB : 0 ≤ B) (hu : A.units < cLine) (ho : s.heap.get? a = some (seqObj "list" vs.toArray n)) (h64 : vs.length < 64) (x : TupsA s.heap N B vs)
    (r : Value → Int) (hr : ∀ v, v ∈ vs → ∀ ns, TupInts s.heap v ns → r v = rk N B ns)
    (h : ∀ out : Array Value, out.toList.Perm vs → out.toList.Pairwise (fun u v => r u ≤ r v) → P (.done (.ret .none)) { s with heap := sortedHeap s.heap a vs out }) :
    wpAny (model prog w) A (Builtin.«list.sort» ⟨[.ref a], []⟩) P E s := by
  have keep : ∀ b o, s.heap.get? b = some o → o.cls = .type "tuple" → (midHeap s.heap a vs).get? b = some o := fun b o e hc => by
    refine midHeap_old ?_ e
    rintro rfl
    rw [ho] at e
    have e' : seqObj "list" vs.toArray n = o := Option.some.inj e
    rw [← e'] at hc
    have c' : Value.type "list" = Value.type "tuple" := hc
    injection c' with c''
    exact absurd c'' (by decide)
  refine SK.plain_sort (r := r) ho h64 (fun h2 Q hQ => ?_) fun ps out h1 h2 h3 => ?_
  · refine kind_any (s := { s with heap := midHeap s.heap a vs }) hB hu h2 (x.keeps keep) r (fun v hv ns t => ?_) Q hQ
    obtain ⟨ns0, t0, _⟩ := x v hv
    have e : ns = ns0 := t.ints.symm.trans (t0.keeps keep).ints
    rw [e]
    exact hr v hv ns0 t0
  · obtain ⟨p, o⟩ := out_rank h1 h2 h3
    exact h out p o
end
end TSA

namespace TSA
open PySem PyProof.Rows TS
theorem perm_map_inv {α β : Type} {f : α → β} {l m : List β} (h : l.Perm m) : ∀ ks : List α, m = ks.map f → ∃ ls : List α, ls.Perm ks ∧ l = ls.map f := by
  induction h with
  | nil =>
    intro ks e
    have : ks = [] := by
      cases ks with
      | nil => rfl
      | cons a k => cases e
    exact ⟨[], by rw [this], rfl⟩
  | cons x _ ih =>
    intro ks e
    cases ks with
    | nil => cases e
    | cons a ks =>
      injection e with e1 e2
      obtain ⟨ls, p, e3⟩ := ih ks e2
      exact ⟨a :: ls, p.cons a, by rw [e3, e1]; rfl⟩
  | swap x y l =>
    intro ks e
    cases ks with
    | nil => cases e
    | cons a ks =>
      cases ks with
      | nil => cases e
      | cons b ks =>
        injection e with e1 e2
        injection e2 with e2 e3
        exact ⟨b :: a :: ks, List.Perm.swap a b ks, by rw [e1, e2, e3]; rfl⟩
  | trans _ _ ih1 ih2 =>
    intro ks e
    obtain ⟨l2, p2, e2⟩ := ih2 ks e
    obtain ⟨l1, p1, e1⟩ := ih1 l2 e2
    exact ⟨l1, p1.trans p2, e1⟩
theorem le_lex {N : Nat} {B : Int} (hB : 0 ≤ B) {u v : List Int} (lu : u.length ≤ N) (lv : v.length ≤ N) (bu : Bd B u) (bv : Bd B v) (h : rk N B u ≤ rk N B v) : lexB v u = false := by
  rw [← rk_lex hB N v u lv lu bv bu]
  exact decide_eq_false (by omega)
section
variable {prog : Program} {w : World} {A : Around} {E : Value → Shared → Prop} {s : Shared}
theorem call_sort_any {a : Addr} {vs : List Value} {n N : Nat} {B : Int} {Q : Value → Shared → Prop} (hB : 0 ≤ B) (hu : A.units + 1 < cLine) (ho : s.heap.get? a = some (seqObj "list" vs.toArray n)) (h64 : vs.length < 64) (x : TupsA s.heap N B vs)
    (h : ∀ out : Array Value, out.toList.Perm vs → out.toList.Pairwise (fun u v => rk N B (intsOf s.heap u) ≤ rk N B (intsOf s.heap v)) → Q .none { s with heap := sortedHeap s.heap a vs out }) :
    wpAny (model prog w) A (call (.builtin "list.sort") [.ref a]) Q E s :=
  wpAny_call_entry slot_list_sort ⟨_, ho, rfl⟩ entry_list_sort (sort_any hB (by simpa using hu) ho h64 x (fun v => rk N B (intsOf s.heap v)) (fun v _ ns t => by
    show rk N B (intsOf s.heap v) = rk N B ns
    rw [t.ints]) fun out h1 h2 => ⟨_, rfl, h out h1 h2⟩) (args_list_sort _)
theorem sorted_lst {l : Addr} {vs : List Value} {N : Nat} {B : Int} {Q : Value → Shared → Prop} (hB : 0 ≤ B) (hu : A.units + 2 < cLine) (hl : s.heap.IsList l vs.toArray) (h64 : vs.length < 64) (x : TupsA s.heap N B vs)
    (h : ∀ out : Array Value, out.toList.Perm vs → out.toList.Pairwise (fun u v => rk N B (intsOf s.heap u) ≤ rk N B (intsOf s.heap v)) → Q (.ref (s.heap.objs.size + 1)) { s with heap := sortedAll s.heap vs out }) :
    wpAny (model prog w) A (call (.builtin "sorted") [.ref l]) Q E s := by
  refine Calls.call_function_entry kind_sorted plain_sorted entry_sorted (args_sorted1 _) ?_
  unfold Builtin.«sorted»
  refine wpAny_bind (m := checkCount "sorted" 1 1 _) (wpAny_pure ?_)
  refine wpAny_bind (collect_list hl ?_ (by rw [sizeLine_eq]; omega))
  refine wpAny_bind (wpAny_newList ?_ (by rw [sizeLine_eq]; omega))
  have hsz : ((s.heap.push (seqObj "list" #[] 0)).update s.heap.objs.size (Obj.mapSeq (· ++ vs.toArray))).objs.size = s.heap.objs.size + 1 := by
    rw [Heap.size_update, size_push']
  have hoL : (((s.heap.push (seqObj "list" #[] 0)).update s.heap.objs.size (Obj.mapSeq (· ++ vs.toArray))).push (seqObj "list" vs.toArray 0)).get? (s.heap.objs.size + 1) = some (seqObj "list" vs.toArray 0) := by
    rw [← hsz]; exact Heap.get?_push_size _ rfl
  have keep : ∀ b o, s.heap.get? b = some o → o.cls = .type "tuple" → (((s.heap.push (seqObj "list" #[] 0)).update s.heap.objs.size (Obj.mapSeq (· ++ vs.toArray))).push (seqObj "list" vs.toArray 0)).get? b = some o := fun b o q _ => by
    have hlt : b < s.heap.objs.size := Heap.lt_size q
    rw [Heap.get?_push_ne _ _ _ (by rw [hsz]; exact Nat.ne_of_lt (Nat.lt_succ_of_lt hlt)), Heap.get?_update_ne _ _ _ _ (Nat.ne_of_lt hlt), Heap.get?_push_ne _ _ _ (Nat.ne_of_lt hlt)]
    exact q
  show wpAny _ _ _ _ _ { s with heap := ((s.heap.push (seqObj "list" #[] 0)).update s.heap.objs.size (Obj.mapSeq (· ++ vs.toArray))).push (seqObj "list" vs.toArray 0) }
  rw [hsz]
  refine wpAny_bind (wpAny_holding (wpAny_call_entry slot_list_sort ⟨_, hoL, rfl⟩ entry_list_sort (sort_any hB (by simp; omega) hoL h64 (x.keeps keep) (fun v => rk N B (intsOf s.heap v)) (fun v hv ns t => ?_) fun out a1 a2 => ⟨_, rfl, ?_⟩) (args_list_sort _)))
  · obtain ⟨ns0, t0, _⟩ := x v hv
    have e : ns = ns0 := t.ints.symm.trans (t0.keeps keep).ints
    rw [e]
    show rk N B (intsOf s.heap v) = rk N B ns0
    rw [t0.ints]
  · exact wpAny_pure ⟨_, rfl, h out a1 a2⟩
end
end TSA
namespace L2
open PySem PySem.Spec PyProof.Rows
section
variable {P : Program} {w : World} {A : Around} {E : Value → Shared → Prop} {s : Shared}
theorem sorted_setA {a : Addr} {L : List (Addr × List Int)} {es : Array (Int × Value)} {ep : Nat} {t : SetTable} {Q : Value → Shared → Prop} (R : SetTR P w s.heap a L es ep t) (hh : A.handled = none) (hu : A.units + 2 < cLine)
    {N : Nat} {B : Int} (hB0 : 0 ≤ B) (hB : ∀ p ∈ L, p.2.length ≤ N ∧ TS.Bd B p.2)
    (hQ : ∀ s' p (out : Array Value) (c : Nat) (L' : List (Addr × List Int)), (∀ b o, s.heap.get? b = some o → s'.heap.get? b = some o) → s'.gens = s.gens → s'.os = s.os → s.heap.objs.size ≤ p →
      s'.heap.get? p = some (seqObj "list" out c) → out.toList = L'.map (fun q => Value.ref q.1) → L'.Perm L → L'.Pairwise (fun q r => TSA.rk N B q.2 ≤ TSA.rk N B r.2) → Q (.ref p) s') :
    wpAny (model P w) A (call (.builtin "sorted") [.ref a]) Q E s := by
  obtain ⟨o, ho, hex, hd⟩ := R.ob
  have hsz := R.size
  have hfew := R.few
  refine Calls.call_function_entry kind_sorted plain_sorted entry_sorted (args_sorted1 _) ?_
  unfold Builtin.«sorted»
  refine wpAny_bind (m := checkCount "sorted" 1 1 _) (wpAny_pure ?_)
  refine wpAny_bind (collect_set (A := A.in1) hh ⟨o, ho, hex.1, hd⟩ R.fits (by unfold scanBound; omega) R.tab.ris R.led fun s1 vs k1 hz g1 o1 pm => ?_)
  have hes : es.toList.map (·.2) = L.map fun q => Value.ref q.1 := by
    rw [R.rows]
    unfold rowsOf
    rw [List.map_map] <;> rfl
  rw [hes] at pm
  have hvl : vs.length < 64 := by rw [pm.length_eq, List.length_map]; exact hfew
  refine wpAny_bind (wpAny_newList ?_ (by rw [sizeLine_eq]; omega))
  have hoL : (s1.heap.push (seqObj "list" vs.toArray 0)).get? s1.heap.objs.size = some (seqObj "list" vs.toArray 0) := Heap.get?_push_size _ rfl
  have tk : ∀ q ∈ L, TS.TupInts (s1.heap.push (seqObj "list" vs.toArray 0)) (.ref q.1) q.2 := fun q hq => tupInts_of (P := P) (w := w) (isT_keep (R.tup q hq) fun b u e => Heap.get?_push_of_some _ (k1 b u e))
  have x : TSA.TupsA (s1.heap.push (seqObj "list" vs.toArray 0)) N B vs := fun v hv => by
    obtain ⟨q, hq, e⟩ := List.mem_map.mp (pm.mem_iff.mp hv)
    rw [← e]
    exact ⟨q.2, tk q hq, (hB q hq).1, (hB q hq).2⟩
  refine wpAny_bind (wpAny_holding (TSA.call_sort_any (s := { s1 with heap := s1.heap.push (seqObj "list" vs.toArray 0) }) hB0 (by simp; omega) hoL hvl x fun out a1 a2 => ?_))
  obtain ⟨c, hc⟩ := sortedHeap_at (vs := vs) (out := out) hoL
  obtain ⟨L', pL, e'⟩ := TSA.perm_map_inv (a1.trans pm) L rfl
  have pw : L'.Pairwise (fun q r => TSA.rk N B q.2 ≤ TSA.rk N B r.2) := by
    rw [e'] at a2
    refine List.Pairwise.imp_of_mem (fun {q r} hq hr hle => ?_) (List.pairwise_map.mp a2)
    have f1 : TS.intsOf (s1.heap.push (seqObj "list" vs.toArray 0)) (.ref q.1) = q.2 := (tk q (pL.mem_iff.mp hq)).ints
    have f2 : TS.intsOf (s1.heap.push (seqObj "list" vs.toArray 0)) (.ref r.1) = r.2 := (tk r (pL.mem_iff.mp hr)).ints
    rw [← f1, ← f2]
    exact hle
  refine wpAny_pure ⟨_, rfl, hQ _ s1.heap.objs.size out c L' (fun b u e => ?_) g1 o1 hz hc e' pL pw⟩
  have q := k1 b u e
  have hlt := Heap.lt_size q
  show (sortedHeap (s1.heap.push (seqObj "list" vs.toArray 0)) s1.heap.objs.size vs out).get? b = some u
  rw [sortedHeap_old (Nat.ne_of_lt hlt) (by rw [size_push']; exact Nat.lt_succ_of_lt hlt)]
  exact Heap.get?_push_of_some _ q
end
end L2
namespace GL
open PySem PySem.Spec PyProof.Rows L2
section
variable {X : Cx}
/-- small tuples -/
def Bd64 (ns : List Int) : Prop := ns.length ≤ 64 ∧ TS.Bd 64 ns
/-- sorted(S), S a set of tuples of ints -/
def rSortedSA (K : PySem.W.Frag) (P : Program) (w : World) : List V → Hp → VK → Prop := fun vs H Q => ∃ (a : Addr) (L : List (Addr × List Int)), vs = [V.ref a] ∧ H a = some (SetTO P w a L) ∧ (∀ p ∈ L, SqT K H p.1 (p.2.map V.int)) ∧ (∀ p ∈ L, Bd64 p.2) ∧
  ∀ (L' : List (Addr × List Int)) (p : Addr), L'.Perm L → (L'.map (·.2)).Nodup → L'.length < 64 → L'.Pairwise (fun q r => TSA.lexB r.2 q.2 = false) → H p = none → Q (.ref p) (upd H p (.lst (L'.map fun q => V.ref q.1)))
theorem cr_sortedSA {K : PySem.W.Frag} (hc : X.calm = true) (hu : X.A.units + 64 < cLine) (hK : X.K = K := by rfl) : CallR X (.builtin "sorted") (rSortedSA K X.prog X.w) := by
  subst hK
  intro pins s σ H vs us Q I r h
  obtain ⟨a, L, rfl, ha, hk, hB, q⟩ := h
  have R0 : SetT0 X.prog X.w s.heap a L := (I.hok a _ ha).1
  obtain ⟨es, ep, t, R⟩ := R0.full fun p hp => I.isT (hk p hp)
  rw [Vals.ref1 r]
  refine sorted_setA R (I.ok.hd hc) (by omega) (N := 64) (B := 64) (by decide) hB fun s' p out c L' k g o hp hg hout pm pw => ?_
  have hfew : L'.length < 64 := by rw [pm.length_eq]; exact R.few
  have hlen : (L'.map fun q => V.ref q.1).length ≤ sizeLine := by rw [List.length_map, sizeLine_eq]; omega
  have hn : H p = none := I.hok.fresh hp
  have hv : Vals (L'.map fun q => V.ref q.1) out.toList := by rw [hout]; exact vals_of_refs L'
  have J : Inv X pins σ (upd H p (.lst (L'.map fun q => V.ref q.1))) { s with heap := s'.heap, gens := s'.gens, drawn := s'.drawn, toks := s'.toks } :=
    I.call (ch := []) (Un.laid k hp hn) (I.hok.laid k hp ⟨hlen, out.toList, c, hv, hg⟩) (by rw [g]; exact I.bare) (fun _ z => nomatch z)
  have e : s' = { s with heap := s'.heap, gens := s'.gens, drawn := s'.drawn, toks := s'.toks } := by
    cases s'
    cases s
    cases o
    rfl
  rw [e]
  refine ⟨.ref p, _, J, rfl, q L' p pm ((pm.map (·.2)).nodup_iff.mpr R.nd) hfew (pw.imp_of_mem fun {u v} hu hv h => ?_) hn⟩
  have b1 := hB u (pm.mem_iff.mp hu)
  have b2 := hB v (pm.mem_iff.mp hv)
  exact TSA.le_lex (by decide) b1.1 b2.1 b1.2 b2.2 h
/-- sorted(l), l a list of tuples of ints -/
def rSortedLA (K : PySem.W.Frag) : List V → Hp → VK → Prop := fun vs H Q => ∃ (a : Addr) (ks : List (Addr × List Int)), vs = [V.ref a] ∧ SqL K H a (ks.map fun p => V.ref p.1) ∧ ks.length < 64 ∧ (∀ p ∈ ks, SqT K H p.1 (p.2.map V.int) ∧ Bd64 p.2) ∧
  ∀ (ls : List (Addr × List Int)) (p : Addr), ls.Perm ks → ls.Pairwise (fun q r => TSA.lexB r.2 q.2 = false) → H p = none → Q (.ref p) (upd H p (.lst (ls.map fun q => V.ref q.1)))
theorem cr_sortedLA {K : PySem.W.Frag} (hu : X.A.units + 64 < cLine) (hK : X.K = K := by rfl) : CallR X (.builtin "sorted") (rSortedLA K) := by
  subst hK
  intro pins s σ H vs us Q I r h
  obtain ⟨a, ks, rfl, hs, h64, hx, q⟩ := h
  obtain ⟨its, rv, hl, hz⟩ := I.list hs
  rw [Vals.ref1 r]
  have eits := refs_of_vals rv
  have tin : ∀ p ∈ ks, TS.TupInts s.heap (.ref p.1) p.2 := fun p hp => tupI_raw I (hx p hp).1
  refine TSA.sorted_lst (N := 64) (B := 64) (by decide) (by omega) hl.isList (by rw [eits, List.length_map]; exact h64) (fun v hv => ?_) fun out h1 h2 => ?_
  · rw [eits] at hv
    obtain ⟨p, hp, rfl⟩ := List.mem_map.mp hv
    exact ⟨p.2, tin p hp, (hx p hp).2.1, (hx p hp).2.2⟩
  · obtain ⟨ep, he'⟩ := PyProof.Rows.sortedAll_at s.heap its out
    obtain ⟨ls, pm, el⟩ := TSA.perm_map_inv h1 ks eits
    have hv : Vals (ls.map fun q => V.ref q.1) out.toList := by rw [el]; exact vals_of_refs ls
    have hlen : (ls.map fun q => V.ref q.1).length ≤ sizeLine := by rw [List.length_map, pm.length_eq, sizeLine_eq]; omega
    refine ⟨.ref _, upd H (s.heap.objs.size + 1) (.lst (ls.map fun q => V.ref q.1)), I.laid (t' := s.toks) (fun _ _ => PyProof.Rows.sortedAll_old) (Nat.le_succ _) ⟨hlen, out.toList, ep, hv, he'⟩, rfl, q ls _ pm ?_ (I.hok.fresh (Nat.le_succ _))⟩
    rw [el, List.pairwise_map] at h2
    refine h2.imp_of_mem fun {u v} hu hv h => ?_
    have b1 := (hx u (pm.mem_iff.mp hu))
    have b2 := (hx v (pm.mem_iff.mp hv))
    rw [(tin u (pm.mem_iff.mp hu)).ints, (tin v (pm.mem_iff.mp hv)).ints] at h
    exact TSA.le_lex (by decide) b1.2.1 b2.2.1 b1.2.2 b2.2.2 h
end
end GL

namespace Nm
open PySem PySem.Spec PyProof.Rows L2 GL
/-! ### names of any rule -/
def Named (T : List (List Int)) : Prop := ∃ (v : Nat) (ps : List (Int × Int)), HasPs T v ps
theorem shows_named {T : List (List Int)} {d : PyData} (rule : IsRule T) (h : ShowsP T d) : Named T := by
  obtain ⟨v, ds, rfl, hv, al, nd, eq⟩ := h
  have lT := rule.2.1
  have l1 := rule.1
  have v1 : 1 ≤ v := by
    rcases Nat.eq_zero_or_pos v with z | z
    · subst z
      omega
    · exact z
  have v4 : v ≤ 4 := by
    rcases Nat.lt_or_ge 4 v with z | z
    · have := sq_lt z
      omega
    · exact z
  have lp : (ds.map toP).length = v * v := by rw [hv, ← eq, ofPrs_len]
  refine ⟨v, ds.map toP, v1, v4, ?_, eq.symm⟩
  refine perm_of_sub nd (fun q hq => ?_) (by rw [lp, prsTo_length]; exact Nat.le_refl _)
  obtain ⟨x, hx, rfl⟩ := List.mem_map.mp hq
  exact prs_mem.mpr (pair_bd (List.all_eq_true.mp al x hx))
/-- the last group with the mark, among the first i -/
def lastTo (gs : List (List Int)) : Nat → Int → Option Nat
  | 0, _ => none
  | i + 1, x => if x ∈ gs.getD i [] then some i else lastTo gs i x
theorem lastTo_lt {gs : List (List Int)} {x : Int} : ∀ {i j : Nat}, lastTo gs i x = some j → j < i ∧ x ∈ gs.getD j []
  | 0, j, h => by cases h
  | i + 1, j, h => by
    unfold lastTo at h
    split at h
    · cases h
      exact ⟨by omega, ‹_›⟩
    · have := lastTo_lt h
      exact ⟨by omega, this.2⟩
theorem lastTo_one {gs : List (List Int)} {x : Int} {k : Nat} (hk : x ∈ gs.getD k []) (one : ∀ j, x ∈ gs.getD j [] → j = k) : ∀ {i : Nat}, k < i → lastTo gs i x = some k
  | 0, h => by omega
  | i + 1, h => by
    unfold lastTo
    by_cases e : x ∈ gs.getD i []
    · rw [if_pos e, one i e]
    · rw [if_neg e]
      have : k ≠ i := fun z => e (z ▸ hk)
      exact lastTo_one hk one (by omega)
def ownD (gs : List (List Int)) (x : Int) : PyData := match lastTo gs gs.length x with
  | some j => .int (j : Nat)
  | none => .none
def ownV (gs : List (List Int)) (x : Int) : V := match lastTo gs gs.length x with
  | some j => .int (j : Nat)
  | none => .non
theorem own_dp {K : PySem.W.Frag} {H : Hp} (gs : List (List Int)) (x : Int) : Dp K H (ownV gs x) (ownD gs x) := by
  unfold ownV ownD
  cases lastTo gs gs.length x with
  | none => exact .non
  | some j => exact .int _
def nmD1 (T gs : List (List Int)) (m : Nat) : PyData := .tuple [ownD gs (m : Int), .int (gIx gs (T.getD m []))]
def nmD (T gs : List (List Int)) : PyData := .tuple ((List.range T.length).map fun m => nmD1 T gs m)
theorem gs_few {T gs : List (List Int)} (gnd : gs.Nodup) (gm : ∀ row, row ∈ gs ↔ row ∈ T) : gs.length ≤ T.length := by
  rcases Nat.lt_or_ge T.length gs.length with h | h
  · have := (perm_of_sub gnd (fun r hr => (gm r).mp hr) (Nat.le_of_lt h)).length_eq
    omega
  · exact h
theorem nm_fit {T gs : List (List Int)} (rule : IsRule T) (gnd : gs.Nodup) (gm : ∀ row, row ∈ gs ↔ row ∈ T) : Fit 3 (nmD T gs) := by
  have lT := rule.2.1
  have lg := gs_few gnd gm
  unfold nmD Fit
  refine ⟨by rw [List.length_map, List.length_range]; omega, fun x hx => ?_⟩
  obtain ⟨m, hm, rfl⟩ := List.mem_map.mp hx
  have ml := List.mem_range.mp hm
  unfold nmD1 Fit
  refine ⟨by show 2 ≤ 40; decide, fun y hy => ?_⟩
  simp only [List.mem_cons, List.not_mem_nil, or_false] at hy
  rcases hy with rfl | rfl
  · unfold ownD
    cases e : lastTo gs gs.length (m : Int) with
    | none => unfold Fit; trivial
    | some j =>
      have := (lastTo_lt e).1
      unfold Fit
      omega
  · unfold Fit gIx
    have : gs.idxOf (T.getD m []) ≤ gs.length := List.idxOf_le_length
    omega
theorem nm_names {T gs : List (List Int)} (gnd : gs.Nodup) (gm : ∀ row, row ∈ gs ↔ row ∈ T) (h : Named T) : ShowsP T (nmD T gs) := by
  obtain ⟨v, ps, N⟩ := h
  have l1 := N.len
  have lT := N.lenT
  have e : nmD T gs = .tuple ((nmPs gs ps (v * v)).map prD) := by
    unfold nmD
    refine congrArg PyData.tuple (List.ext_getElem? fun m => ?_)
    by_cases hm : m < v * v
    · have hq : ps[m]? = some (ps[m]'(by omega)) := List.getElem?_eq_getElem (by omega)
      generalize (ps[m]'(by omega)) = q at hq
      have b := N.bd (List.mem_of_getElem? hq)
      have hrow := N.row hq
      rw [List.getElem?_map, List.getElem?_range (by omega), List.getElem?_map]
      unfold nmPs
      rw [List.getElem?_map, hq]
      refine congrArg some ?_
      show PyData.tuple [ownD gs (m : Int), .int (gIx gs (T.getD m []))] = .tuple [.int (gIx gs (rowTo ps q.1 (v * v))), .int (gIx gs (rowTo ps q.2 (v * v)))]
      have hin : (m : Int) ∈ gs.getD (gs.idxOf (rowTo ps q.1 (v * v))) [] := by
        rw [List.getD_eq_getElem?_getD, g_at N gnd gm b.1]
        exact mem_rowTo.mpr ⟨m, hm, ⟨q, hq, rfl⟩, rfl⟩
      have own : lastTo gs gs.length (m : Int) = some (gs.idxOf (rowTo ps q.1 (v * v))) := by
        refine lastTo_one hin (fun j hj => ?_) (by rw [gs_len N gnd gm]; exact g_lt N gnd gm b.1)
        rcases hg : gs[j]? with _ | row
        · rw [List.getD_eq_getElem?_getD, hg] at hj
          simp at hj
        · rw [List.getD_eq_getElem?_getD, hg] at hj
          exact g_own N gnd gm hg hq hj
      unfold ownD
      rw [own, List.getD_eq_getElem?_getD, hrow]
      rfl
    · rw [List.getElem?_eq_none (by rw [List.length_map, List.length_range]; omega), List.getElem?_eq_none (by rw [List.length_map, nm_len N gnd gm]; omega)]
  rw [e]
  refine ⟨v, (nmPs gs ps (v * v)).map prD, rfl, lT.symm, ?_, ?_, ?_⟩
  · rw [List.all_eq_true]
    intro d hd
    obtain ⟨q, hq, rfl⟩ := List.mem_map.mp hd
    have z := nm_bd N gnd gm q hq
    show ((decide (0 ≤ q.1) && decide (q.1 < (v : Int))) && (decide (0 ≤ q.2) && decide (q.2 < (v : Int)))) = true
    rw [decide_eq_true z.1.1, decide_eq_true z.1.2, decide_eq_true z.2.1, decide_eq_true z.2.2]
    rfl
  · have z : ((nmPs gs ps (v * v)).map prD).map toP = nmPs gs ps (v * v) := by
      rw [List.map_map]
      have : (toP ∘ prD) = id := by
        funext q
        rfl
      rw [this, List.map_id]
    rw [z]
    exact nm_nd N gnd gm
  · have z : ((nmPs gs ps (v * v)).map prD).map toP = nmPs gs ps (v * v) := by
      rw [List.map_map]
      have : (toP ∘ prD) = id := by
        funext q
        rfl
      rw [this, List.map_id]
    rw [z]
    exact nm_eq N gnd gm
/-- the different rows, in order -/
structure Gs (T gs : List (List Int)) : Prop where
  nd : gs.Nodup
  mem : ∀ row, row ∈ gs ↔ row ∈ T
  up : gs.Pairwise fun q r => TSA.lexB r q = false
theorem Gs.uniq {T gs hs : List (List Int)} (g : Gs T gs) (h : Gs T hs) : gs = hs :=
  ((List.perm_ext_iff_of_nodup g.nd h.nd).mpr fun x => (g.mem x).trans (h.mem x).symm).eq_of_pairwise (fun x y _ _ a b => TSA.lexB_total x y b a) g.up h.up
theorem good64 {n : Nat} {row : List Int} (g : Good n row) (h : n ≤ 16) : Bd64 row := by
  have l := g.len
  refine ⟨by omega, fun m hm => ?_⟩
  have := g.2 m hm
  omega
section
variable {P : Program} {w : World} {K : PySem.W.Frag} {mg : Str → Option Value} {base : Heap}
def spNamesA (K : PySem.W.Frag) : Sp := fun vs H Q _ => ∃ (p : Addr) (T : List (List Int)), vs = [.ref p] ∧ Tbl H p T ∧ IsRule T ∧
  ∀ gs, Gs T gs → (∀ (t : Addr) (H' : Hp), Same H H' → Dp K H' (.ref t) (nmD T gs) → ShowsP T (nmD T gs) → Q (.ref t) H') ∧ (¬ ShowsP T (nmD T gs) → ∀ H', Same H H' → Q .non H')
set_option maxHeartbeats 4000000 in
theorem ok_namesA {f fB fO fS fI fD fW : Addr} {fd dB dO dS dI dD dW : FuncData} {k : Nat} (F : Fun K "names_of" "names_of" sNamesOf f fd) (N : Nam K mg fB fO fS fI fD fW dB dO dS dI dD dW) (B : LibJ mg) (mset : mg "set" = none) (msort : mg "sorted" = none) (menum : mg "enumerate" = none) :
    FnOk P w K mg base CX0 (k + 5) f fd ["rule"] (spNamesA K) := by
  have GW : FnOk P w K mg base CX0 (k + 4) fW dW ["rule", "value"] (spShowsA K) := ok_showsA N B mset
  refine F.ok scNamesOf (fun vs H Q E h => ?_) (fun cdv A outer s H vs Q E hr h => ?_)
  · obtain ⟨p, T, rfl, _⟩ := h
    rfl
  · obtain ⟨p, T, rfl, hT, rule, q⟩ := h
    have hu := hu_of hr
    have hu65 : A.units + 3 + 65 < cLine := by have := hr.un; simp at this; omega
    refine ⟨_, pss_cons (ps_set (i := 1) scNamesOf.nd rfl (.inr rfl) (pe_callB (cr_sortedSA (K := K) rfl hr.units) (by rfl) msort (by decide +kernel) (pa_cons (pe_callTy (setTT (K := K) rfl hr.units) (by rfl) mset (by decide +kernel) (pa_cons (pv 0) pa_nil)) pa_nil)))
      (pss_cons (ps_set (i := 2) scNamesOf.nd rfl (.inr rfl) pe_dnewK)
      (pss_cons (ps_for PassesOwn.never rfl (piEnumK (K := K) (by rfl) menum (pa_cons (pv 1) pa_nil))
          (pgTupK (K := K) rfl (pgs_cons (pg_name (i := 3) scNamesOf.nd rfl (.inl rfl)) (pgs_cons (pg_name (i := 4) scNamesOf.nd rfl (.inl rfl)) pgs_nil)))
          (pss_one (ps_for PassesOwn.never rfl (piTupK (K := K) (pv 4)) (pg_name (i := 5) scNamesOf.nd rfl (.inl rfl)) (pss_one (ps_dput hu (pv 2) (pv 5) (pv 3) rfl)))))
      (pss_cons (ps_set (i := 6) scNamesOf.nd rfl (.inl rfl) (pe_callTy (tupOfK (K := K)) (by rfl) B.tuple (by decide +kernel) (pa_cons
          (pe_lc (own := [("mark", 5)]) (g := gName 5) (by rfl) scNamesOf.nd (pi_range1 (by rfl) B.range (pa_cons (pe_callB (lenK (K := K)) (by rfl) B.len PySem.boot_len (pa_cons (pv 0) pa_nil)) pa_nil))
            (blkOk_by (own := [("mark", 5)]) (N := nNamesOf) (sc := defScope sNamesOf) (by decide +kernel))
            (fun _ _ _ _ _ => pg_name (i := 5) scNamesOf.nd rfl (Or.inl rfl)) (fun _ _ _ _ _ => pts_nil)
            (fun _ _ _ _ _ => pe_tup (pa_cons (pe_dget1 hu (pv 2) (pv 5) ⟨rfl, rfl, rfl, rfl⟩)
              (pa_cons (bmK (K := K) PySem.F.plainAttrs_list PySem.F.slot_list_index PySem.F.type_list_index (indexDK (K := K) hu65) (pv 1) (pa_cons (pe_ix (ixTupK (K := K)) (pv 0) (pv 5) (fun _ _ => rfl)) pa_nil)) pa_nil)))) pa_nil)))
      (pss_one (ps_ret (pe_ifExp (pt_val (pe_call GW hr (by rfl) N.gW N.W.kp N.bW .nil pass0 (pa_cons (pv 0) (pa_cons (pv 6) pa_nil)))) (pv 6) pe_non)))))), ?_⟩
    have hT0 := hT
    obtain ⟨rs, hp, hR⟩ := hT0
    have lr : rs.length = T.length := Paired.length hR
    have n1 := rule.1
    have n16 := rule.2.1
    have zat := zip_at hR
    refine ⟨.ref p, rfl, p, rs.zip T, rfl, by rw [zip_refs lr]; exact SqT.of hp, fun z hz => SqT.of (zat z hz), ?_, fun S L nS sub all nodup => ?_⟩
    · rw [List.length_zip]
      omega
    generalize hHS : upd H S _ = HS
    have sS : Same H HS := by
      rw [← hHS]
      exact same_upd nS
    have hL : ∀ z ∈ L, H z.1 = some (.tup (z.2.map V.int)) := fun z hz => zat z (sub z hz)
    have mL : ∀ row, row ∈ L.map (·.2) ↔ row ∈ T := fun row => by
      refine ⟨fun h => ?_, fun h => ?_⟩
      · obtain ⟨z, hz, e⟩ := List.mem_map.mp h
        have z2 := List.mem_map_of_mem (f := (·.2)) (sub z hz)
        rw [zip_snd lr] at z2
        rw [← e]
        exact z2
      · rw [← zip_snd lr] at h
        obtain ⟨z, hz, e⟩ := List.mem_map.mp h
        rw [← e]
        exact all z hz
    refine ⟨S, L, rfl, ?_, fun z hz => SqT.of (sS _ _ (hL z hz)), fun z hz => good64 (rule.2.2 z.2 ((mL z.2).mp (List.mem_map_of_mem hz))) n16, fun L' g pmL nd' len' up ng => ?_⟩
    · rw [← hHS]
      exact upd_same
    have hL' : ∀ z ∈ L', H z.1 = some (.tup (z.2.map V.int)) := fun z hz => hL z (pmL.mem_iff.mp hz)
    obtain ⟨gs, egs⟩ : ∃ gs, gs = L'.map (·.2) := ⟨_, rfl⟩
    have gnd : gs.Nodup := by rw [egs]; exact nd'
    have gm : ∀ row, row ∈ gs ↔ row ∈ T := fun row => by
      rw [egs, (pmL.map (·.2)).mem_iff]
      exact mL row
    have G : Gs T gs := ⟨gnd, gm, by rw [egs, List.pairwise_map]; exact up⟩
    have lgs := gs_few gnd gm
    have lL : L'.length = gs.length := by rw [egs, List.length_map]
    have q' := q gs G
    have sg : Same HS (upd HS g (.lst (L'.map fun q => V.ref q.1))) := same_upd ng
    have hg : upd HS g (.lst (L'.map fun q => V.ref q.1)) g = some (.lst (L'.map fun q => V.ref q.1)) := upd_same
    have sHg := sS.trans sg
    generalize upd HS g (.lst (L'.map fun q => V.ref q.1)) = H1 at hg sHg ⊢
    clear sg ng hHS sS
    refine fun d nd => ?_
    have s1 := same_upd (o := .dK []) nd
    refine ⟨.ref g, rfl, g, _, rfl, SqL.of (s1 _ _ hg), for_it (walk_enum (K := K) (a := g) (xs := L'.map fun q => V.ref q.1)) (fun i σ H' => ∃ (y3 y4 y5 : Option V) (kvs : List (Key × V)), σ = [some (.ref p), some (.ref g), some (.ref d), y3, y4, y5, none] ∧
        H' d = some (.dK kvs) ∧ kvs.length ≤ 16 * i ∧ Same H1 H' ∧ ∀ x : Int, valV kvs (.inl x) = (lastTo gs i x).map fun j => V.int (j : Nat))
      ⟨none, none, none, [], rfl, upd_same, Nat.le_refl _, s1, fun x => rfl⟩ (fun i σ H' _ h => ?_) ?_ ?_⟩
    · obtain ⟨_, _, _, _, _, _, _, sm, _⟩ := h
      exact SqL.of (sm _ _ hg)
    · rintro i x σ H2 H3 hi ⟨y3, y4, y5, kvs, rfl, hd, lk, sm, inv⟩ ⟨Tp, a, b, rfl, nTp, rfl, ea, eb⟩
      obtain rfl : V.int (i : Nat) = a := Option.some.inj ea
      rw [List.length_map, lL] at hi
      obtain ⟨z, hz, rfl⟩ : ∃ z, L'[i]? = some z ∧ b = .ref z.1 := by
        have eb : (L'.map fun q => V.ref q.1)[i]? = some b := eb
        rw [List.getElem?_map] at eb
        rcases e : L'[i]? with _ | z
        · rw [e] at eb
          cases eb
        · rw [e] at eb
          exact ⟨z, rfl, (Option.some.inj eb).symm⟩
      have hgi : gs[i]? = some z.2 := by rw [egs, List.getElem?_map, hz]; rfl
      have gz : gs.getD i [] = z.2 := by rw [List.getD_eq_getElem?_getD, hgi]; rfl
      have hcell := sm _ _ (sHg _ _ (hL' z (List.mem_of_getElem? hz)))
      have gz2 := rule.2.2 z.2 ((gm _).mp (List.mem_of_getElem? hgi))
      have lz := gz2.len
      have sT := same_upd (o := .tup [.int (i : Nat), .ref z.1]) nTp
      have sm2 := sm.trans sT
      have hd2 := sT _ _ hd
      have hc2 := sT _ _ hcell
      have hTp : upd H2 Tp (.tup [.int (i : Nat), .ref z.1]) Tp = some (.tup [.int (i : Nat), .ref z.1]) := upd_same
      generalize upd H2 Tp (.tup [.int (i : Nat), .ref z.1]) = H3 at sT sm2 hd2 hc2 hTp ⊢
      refine ⟨Tp, _, rfl, SqT.of hTp, rfl, _, _, rfl, _, _, rfl, rfl, ?_⟩
      refine ⟨.ref z.1, rfl, z.1, rfl, ⟨_, SqT.of hc2⟩, for_it (walk_tup (K := K) (a := z.1) (xs := z.2.map V.int)) (fun t σ H' => ∃ (y5 : Option V) (kv2 : List (Key × V)), σ = [some (.ref p), some (.ref g), some (.ref d), some (.int (i : Nat)), some (.ref z.1), y5, none] ∧
          H' d = some (.dK kv2) ∧ kv2.length ≤ 16 * i + t ∧ Same H1 H' ∧ H' z.1 = some (.tup (z.2.map V.int)) ∧
          ∀ x : Int, valV kv2 (.inl x) = if x ∈ z.2.take t then some (V.int (i : Nat)) else (lastTo gs i x).map fun j => V.int (j : Nat))
        ⟨_, kvs, rfl, hd2, by omega, sm2, hc2, fun x => by rw [List.take_zero, if_neg (by simp)]; exact inv x⟩ (fun t σ H' _ h => ?_) ?_ ?_⟩
      · obtain ⟨_, _, _, _, _, _, hc', _⟩ := h
        exact SqT.of hc'
      · rintro t x σ H4 H5 ht ⟨y5, kv2, rfl, hd4, lk2, sm4, hc4, inv2⟩ ⟨rfl, hx⟩
        obtain ⟨y, hy, rfl⟩ := int_at hx
        rw [List.length_map] at ht
        refine ⟨.int (i : Nat), rfl, .ref d, rfl, .int y, rfl, d, _, rfl, DPut.k (k := .inl y) hd4 (lenLine (by omega)), _, _, rfl, upd_same, Nat.le_trans (putK_length _ _ _) (by omega), ?_, ?_, ?_⟩
        · intro b o hb
          rw [upd_ne (ne_of_none hb nd)]
          exact sm4 _ _ hb
        · rw [upd_ne (ne_of hc4 hd4 (by intro z; cases z))]
          exact hc4
        · intro x'
          rw [valV_put, List.take_add_one, hy]
          by_cases e : x' = y
          · subst e
            rw [if_pos rfl, if_pos (by simp)]
          · rw [if_neg (fun z => e (Sum.inl.inj z)), inv2 x']
            by_cases e2 : x' ∈ z.2.take t
            · rw [if_pos e2, if_pos (List.mem_append_left _ e2)]
            · rw [if_neg e2, if_neg (fun z => ?_)]
              rcases List.mem_append.mp z with h | h
              · exact e2 h
              · exact e (by simpa using h)
      · rintro σ H4 ⟨y5, kv2, rfl, hd4, lk2, sm4, hc4, inv2⟩
        rw [List.length_map] at lk2 inv2
        rw [List.take_length] at inv2
        refine ⟨_, _, _, kv2, rfl, hd4, by omega, sm4, fun x => ?_⟩
        rw [inv2 x, lastTo, gz]
        by_cases e : x ∈ z.2
        · rw [if_pos e, if_pos e]
          rfl
        · rw [if_neg e, if_neg e]
    · rintro σ H2 ⟨y3, y4, y5, kvs, rfl, hd, lk, sm, inv⟩
      rw [List.length_map, lL] at inv
      have own : ∀ x : Int, valV kvs (.inl x) = (lastTo gs gs.length x).map fun j => V.int (j : Nat) := inv
      have hp2 := sm _ _ (sHg _ _ hp)
      have en : ((rs.map V.ref).length : Int).toNat = T.length := by
        rw [List.length_map]
        omega
      refine ⟨.ref p, rfl, p, _, rfl, .inr (SqT.of hp2), _, rfl, ?_, ?_, fun D nD => ?_⟩
      · rw [List.length_map]
        omega
      · rw [List.length_map]
        omega
      rw [en]
      have sD := same_upd (o := .lst []) nD
      refine lc_range (lo := 0) (n := T.length) (fun m H3 => ∃ ts : List Addr, H3 D = some (.lst (ts.map V.ref)) ∧ Paired (fun (a : Addr) (i : Nat) => H3 a = some (.tup [ownV gs (i : Int), .int (gIx gs (T.getD i []))])) ts (List.range m) ∧ ts.length = m ∧ Same H2 H3) ⟨[], upd_same, .nil, rfl, sD⟩ ?_ ?_
      · rintro m H3 hm ⟨ts, hD, hP, lt, s3⟩
        have hrm : rs[m]? = some (rs[m]'(by omega)) := List.getElem?_eq_getElem (by omega)
        obtain ⟨row, hrw, hcell⟩ := paired_get hR hrm
        have hcell3 := s3 _ _ (sm _ _ (sHg _ _ hcell))
        have eD : T.getD m [] = row := by rw [List.getD_eq_getElem?_getD, hrw]; rfl
        have rin : row ∈ gs := (gm _).mpr (List.mem_of_getElem? hrw)
        have gidx := List.idxOf_lt_length_iff.mpr rin
        have gat : gs[gs.idxOf row]? = some row := by rw [List.getElem?_eq_getElem gidx, List.getElem_idxOf gidx]
        refine ⟨rfl, yesI ⟨.ref d, rfl, d, rfl, .inl ⟨_, .inl (s3 _ _ hd)⟩, .int (0 + m), rfl, _, DGet.k (k := .inl (0 + (m : Int))) (s3 _ _ hd), ?_⟩⟩
        rw [Int.zero_add, own (m : Int)]
        have ev : ((lastTo gs gs.length (m : Int)).map fun j => V.int (j : Nat)).getD .non = ownV gs (m : Int) := by
          unfold ownV
          cases lastTo gs gs.length (m : Int) <;> rfl
        rw [ev]
        refine ⟨.ref g, rfl, .inl ⟨rfl, _, SqL.of (s3 _ _ (sm _ _ hg))⟩, .ref p, rfl, .int (m : Int), rfl, p, _, (m : Int), .ref (rs[m]'(by omega)), rfl, rfl, SqT.of (s3 _ _ hp2), ?_, ?_⟩
        · exact atI_nat (by rw [List.getElem?_map, hrm]; rfl)
        refine ⟨g, .ref (rs[m]'(by omega)), rowD row, gs.map rowD, gs.idxOf row, rowD row, rfl, rfl, ?_, dpRow hcell3, shapedLT gs, shapedRow _, ?_, ?_, ?_, ?_⟩
        · rw [egs]
          exact .lst (SqL.of (s3 _ _ (sm _ _ hg))) (dpRowsL L' fun z hz => s3 _ _ (sm _ _ (sHg _ _ (hL' z hz))))
        · rw [List.getElem?_map, gat]
          rfl
        · rw [eqv_row]
          exact decide_eq_true rfl
        · intro j z' hj hz'
          rw [List.getElem?_map] at hz'
          rcases e : gs[j]? with _ | r0
          · rw [e] at hz'
            cases hz'
          · rw [e] at hz'
            cases hz'
            rw [eqv_row]
            refine decide_eq_false fun e2 => ?_
            obtain ⟨hl, ee⟩ := List.getElem?_eq_some_iff.mp e
            rw [← e2, ← ee, gnd.idxOf_getElem j hl] at hj
            omega
        refine ⟨by show 2 ≤ sizeLine; decide, fun t nt => ?_⟩
        have eg : gIx gs (T.getD m []) = ((gs.idxOf row : Nat) : Int) := by rw [eD]; rfl
        have st := same_upd (o := .tup [ownV gs (m : Int), .int ((gs.idxOf row : Nat) : Int)]) nt
        have hD' := st _ _ hD
        refine ⟨_, hD', by rw [List.length_map]; exact lenLine (by omega), ts ++ [t], ?_, ?_, ?_, ?_⟩
        · rw [upd_same, List.map_append]
          rfl
        · rw [List.range_succ]
          refine Paired.mapP (paired_append (Paired.mapP hP fun a i e => st _ _ e) (.cons ?_ .nil)) fun a i e => KT.lst hD' _ _ e
          rw [eg]
          exact upd_same
        · rw [List.length_append, lt]
          rfl
        · intro b o hb
          rw [upd_ne (ne_of_none hb nD)]
          exact st _ _ (s3 _ _ hb)
      · rintro H3 ⟨ts, hD, hP, lt, s3⟩
        refine ⟨D, _, rfl, .inl ⟨SqL.of hD, fun t nt => ?_⟩⟩
        have st := same_upd (o := .tup (ts.map V.ref)) nt
        have s23 := s3.trans st
        have sAll := sHg.trans (sm.trans s23)
        have hT6 := hT.same sAll
        have dpA : ∀ (Hx : Hp) (ts : List Addr) (is : List Nat), Paired (fun (a : Addr) (i : Nat) => Hx a = some (.tup [ownV gs (i : Int), .int (gIx gs (T.getD i []))])) ts is → DpAll K Hx (ts.map V.ref) (is.map fun m => nmD1 T gs m) := by
          intro Hx ts is h
          induction h with
          | nil => exact .nil
          | cons h t ih => exact .cons (.tup (SqT.of h) (.cons (own_dp gs _) (.cons (.int _) .nil))) ih
        have dpN : Dp K (upd H3 t (.tup (ts.map V.ref))) (.ref t) (nmD T gs) := .tup (SqT.of upd_same) (dpA _ _ _ (Paired.mapP hP fun a i e => st _ _ e))
        refine ⟨.ref p, rfl, .ref t, rfl, p, .ref t, T, nmD T gs, rfl, hT6, by omega, .inl ⟨dpN, nm_fit rule gnd gm⟩, fun b H7 hb s7 => ⟨_, rfl, ?_⟩⟩
        cases b with
        | true => exact iteT ⟨.ref t, rfl, q'.1 t H7 (sAll.trans s7) (dpS s7 _ _ dpN) (hb.mp rfl)⟩
        | false => exact iteF (q'.2 (fun z => (by have := hb.mpr z; cases this)) H7 (sAll.trans s7))
end
end Nm

namespace Nm
open PySem PySem.Spec PyProof.Rows L2 GL
/-! ### which rules have names -/
def rowsAt (T : List (List Int)) (row : List Int) : List (List Int) := row.map fun s => T.getD s.toNat []
structure Hn (T gs : List (List Int)) : Prop where
  sq : gs.length * gs.length = T.length
  part : gs.flatten.Perm (rangeI T.length)
  each : ∀ row ∈ gs, (rowsAt T row).Perm gs
theorem apart {gs : List (List Int)} (nd : gs.flatten.Nodup) {i j : Nat} {a b : List Int} {x : Int} (ha : gs[i]? = some a) (hb : gs[j]? = some b) (xa : x ∈ a) (xb : x ∈ b) : i = j := by
  have pw := (List.pairwise_flatten.mp nd).2
  obtain ⟨hi, ea⟩ := List.getElem?_eq_some_iff.mp ha
  obtain ⟨hj, eb⟩ := List.getElem?_eq_some_iff.mp hb
  rcases Nat.lt_trichotomy i j with h | h | h
  · have z := (List.pairwise_iff_getElem.mp pw) i j hi hj h x (by rw [ea]; exact xa) x (by rw [eb]; exact xb)
    exact (z rfl).elim
  · exact h
  · have z := (List.pairwise_iff_getElem.mp pw) j i hj hi h x (by rw [eb]; exact xb) x (by rw [ea]; exact xa)
    exact (z rfl).elim
def ownI (gs : List (List Int)) (x : Int) : Nat := gs.findIdx fun row => decide (x ∈ row)
theorem hn_named {T gs : List (List Int)} (rule : IsRule T) (G : Gs T gs) (h : Hn T gs) : Named T := by
  have nd : gs.flatten.Nodup := h.part.nodup_iff.mpr (nodup_rangeI _)
  have own : ∀ m : Nat, m < T.length → ∃ row, gs[ownI gs (m : Int)]? = some row ∧ (m : Int) ∈ row := fun m hm => by
    have : (m : Int) ∈ gs.flatten := h.part.mem_iff.mpr (mem_rangeI.mpr ⟨by omega, by omega⟩)
    obtain ⟨row, hr, hx⟩ := List.mem_flatten.mp this
    have lt : ownI gs (m : Int) < gs.length := List.findIdx_lt_length_of_exists ⟨row, hr, decide_eq_true hx⟩
    have := List.findIdx_getElem (w := lt)
    exact ⟨_, List.getElem?_eq_getElem lt, of_decide_eq_true this⟩
  have tin : ∀ m : Nat, m < T.length → T.getD m [] ∈ gs := fun m hm => (G.mem _).mpr (by rw [List.getD_eq_getElem?_getD, List.getElem?_eq_getElem hm]; exact List.getElem_mem hm)
  have idx : ∀ r ∈ gs, gs[gs.idxOf r]? = some r := fun r hr => by
    have lt := List.idxOf_lt_length_iff.mpr hr
    rw [List.getElem?_eq_getElem lt, List.getElem_idxOf lt]
  obtain ⟨ds, eds⟩ : ∃ ds, ds = (List.range T.length).map fun (m : Nat) => prD (((ownI gs (m : Int) : Nat) : Int), gIx gs (T.getD m [])) := ⟨_, rfl⟩
  have lds : ds.length = T.length := by rw [eds, List.length_map, List.length_range]
  have al : ds.all (pairD gs.length) = true := by
    rw [List.all_eq_true]
    intro d hd
    rw [eds] at hd
    obtain ⟨m, hm, rfl⟩ := List.mem_map.mp hd
    have ml := List.mem_range.mp hm
    obtain ⟨row, h1, _⟩ := own m ml
    have l1 := (List.getElem?_eq_some_iff.mp h1).1
    have l2 := List.idxOf_lt_length_iff.mpr (tin m ml)
    show ((decide (0 ≤ ((ownI gs (m : Int) : Nat) : Int)) && decide (((ownI gs (m : Int) : Nat) : Int) < (gs.length : Int))) && (decide (0 ≤ gIx gs (T.getD m [])) && decide (gIx gs (T.getD m []) < (gs.length : Int)))) = true
    unfold gIx
    rw [decide_eq_true (by omega), decide_eq_true (by omega), decide_eq_true (by omega), decide_eq_true (by omega)]
    rfl
  refine shows_named rule ((shows_iff rule h.sq lds al).mpr fun a b => ?_)
  intro qa qb ha hb
  have get : ∀ (m : Nat) (q : Int × Int), (ds.map toP)[m]? = some q → m < T.length ∧ q = (((ownI gs (m : Int) : Nat) : Int), gIx gs (T.getD m [])) := fun m q hq => by
    have ml := (List.getElem?_eq_some_iff.mp hq).1
    rw [List.length_map, lds] at ml
    rw [eds, List.getElem?_map, List.getElem?_map, List.getElem?_range ml] at hq
    exact ⟨ml, (Option.some.inj hq).symm⟩
  obtain ⟨la, ea⟩ := get a qa ha
  obtain ⟨lb, eb⟩ := get b qb hb
  obtain ⟨ra, h1, h2⟩ := own a la
  obtain ⟨rb, h3, h4⟩ := own b lb
  refine ⟨fun ne e => ne ?_, ?_⟩
  · rw [ea, eb] at e
    have e1 : ownI gs (a : Int) = ownI gs (b : Int) := by
      have := congrArg Prod.fst e
      simp only at this
      omega
    have e2 : T.getD a [] = T.getD b [] := by
      have := congrArg Prod.snd e
      unfold gIx at this
      simp only at this
      have z : gs.idxOf (T.getD a []) = gs.idxOf (T.getD b []) := by omega
      have y := idx _ (tin a la)
      rw [z, idx _ (tin b lb)] at y
      exact (Option.some.inj y).symm
    rw [e1, h3] at h1
    have er : rb = ra := Option.some.inj h1
    rw [er] at h3 h4
    have nr : (rowsAt T ra).Nodup := (h.each ra (List.mem_of_getElem? h3)).nodup_iff.mpr G.nd
    obtain ⟨i, hi⟩ := List.mem_iff_getElem?.mp h2
    obtain ⟨j, hj⟩ := List.mem_iff_getElem?.mp h4
    have gi : (rowsAt T ra)[i]? = some (T.getD a []) := by
      unfold rowsAt
      rw [List.getElem?_map, hi]
      show some (T.getD ((a : Int)).toNat []) = _
      rw [Int.toNat_natCast]
    have gj : (rowsAt T ra)[j]? = some (T.getD b []) := by
      unfold rowsAt
      rw [List.getElem?_map, hj]
      show some (T.getD ((b : Int)).toNat []) = _
      rw [Int.toNat_natCast]
    have ij : i = j := (List.getElem?_inj (List.getElem?_eq_some_iff.mp gi).1 nr).mp (by rw [gi, gj, e2])
    subst ij
    rw [hi] at hj
    have := Option.some.inj hj
    omega
  · rw [ea, eb]
    show (b : Int) ∈ T.getD a [] ↔ ((ownI gs (b : Int) : Nat) : Int) = gIx gs (T.getD a [])
    have ia := idx _ (tin a la)
    unfold gIx
    refine ⟨fun hb => ?_, fun e => ?_⟩
    · rw [apart nd h3 ia h4 hb]
    · have e' : ownI gs (b : Int) = gs.idxOf (T.getD a []) := by omega
      rw [e', ia] at h3
      cases h3
      exact h4
theorem named_hn {T gs : List (List Int)} (rule : IsRule T) (G : Gs T gs) (h : Named T) : Hn T gs := by
  obtain ⟨v, ps, N⟩ := h
  have gl := gs_len N G.nd G.mem
  have lT := N.lenT
  have lp := N.len
  have rowAt : ∀ (s : Nat) (q : Int × Int), ps[s]? = some q → T.getD s [] = rowTo ps q.2 (v * v) := fun s q hq => by
    rw [List.getD_eq_getElem?_getD, N.row hq]
    rfl
  refine ⟨by rw [gl, lT], ?_, fun row hr => ?_⟩
  · have nd : gs.flatten.Nodup := by
      refine List.pairwise_flatten.mpr ⟨fun l hl => (rule.2.2 l ((G.mem l).mp hl)).nodup, ?_⟩
      refine List.pairwise_iff_getElem.mpr fun i j hi hj lt x hx y hy e => ?_
      subst e
      have g := (rule.2.2 _ ((G.mem _).mp (List.getElem_mem hi))).2 x hx
      have hq : ps[x.toNat]? = some (ps[x.toNat]'(by omega)) := List.getElem?_eq_getElem (by omega)
      have ex : ((x.toNat : Nat) : Int) = x := by omega
      have e1 := g_own N G.nd G.mem (List.getElem?_eq_getElem hi) hq (by rw [ex]; exact hx)
      have e2 := g_own N G.nd G.mem (List.getElem?_eq_getElem hj) hq (by rw [ex]; exact hy)
      omega
    refine (List.perm_ext_iff_of_nodup nd (nodup_rangeI _)).mpr fun x => ?_
    rw [List.mem_flatten, mem_rangeI]
    refine ⟨fun ⟨l, hl, hx⟩ => (rule.2.2 l ((G.mem l).mp hl)).2 x hx, fun b => ?_⟩
    have hq : ps[x.toNat]? = some (ps[x.toNat]'(by omega)) := List.getElem?_eq_getElem (by omega)
    have bq := N.bd (List.mem_of_getElem? hq)
    exact ⟨_, g_in N G.nd G.mem bq.1, mem_rowTo.mpr ⟨x.toNat, by omega, ⟨_, hq, rfl⟩, by omega⟩⟩
  · obtain ⟨m, hm, erow⟩ := N.rows.mp ((G.mem row).mp hr)
    have good := rule.2.2 row ((G.mem row).mp hr)
    have at_row : ∀ x ∈ row, ∃ q, ps[x.toNat]? = some q ∧ q.1 = m := fun x hx => by
      rw [erow] at hx
      obtain ⟨i, hi, hq, rfl⟩ := mem_rowTo.mp hx
      rw [Int.toNat_natCast]
      exact hq
    refine (List.perm_ext_iff_of_nodup ?_ G.nd).mpr fun g => ?_
    · unfold rowsAt
      refine List.pairwise_map.mpr (good.nodup.imp_of_mem fun {x y} hx hy ne e => ne ?_)
      obtain ⟨qx, h1, h2⟩ := at_row x hx
      obtain ⟨qy, h3, h4⟩ := at_row y hy
      rw [rowAt _ _ h1, rowAt _ _ h3] at e
      have e2 : qx.2 = qy.2 := N.inj (N.bd (List.mem_of_getElem? h1)).2 e
      have eq : qx = qy := Prod.ext (h2.trans h4.symm) e2
      subst eq
      have i1 := (List.getElem?_eq_some_iff.mp h1).1
      have := (List.getElem?_inj i1 N.nd).mp (h1.trans h3.symm)
      have g1 := good.2 x hx
      have g2 := good.2 y hy
      omega
    · unfold rowsAt
      rw [List.mem_map]
      refine ⟨fun ⟨x, hx, e⟩ => ?_, fun hg => ?_⟩
      · have g1 := good.2 x hx
        rw [← e, G.mem, List.getD_eq_getElem?_getD, List.getElem?_eq_getElem (by omega)]
        exact List.getElem_mem _
      · obtain ⟨m', hm', eg⟩ := N.rows.mp ((G.mem g).mp hg)
        obtain ⟨s, hs⟩ := N.has hm hm'
        have sl := (List.getElem?_eq_some_iff.mp hs).1
        refine ⟨(s : Int), by rw [erow]; exact mem_rowTo.mpr ⟨s, by omega, ⟨_, hs, rfl⟩, rfl⟩, ?_⟩
        rw [Int.toNat_natCast, rowAt _ _ hs, eg]
theorem hn_iff {T gs : List (List Int)} (rule : IsRule T) (G : Gs T gs) : Hn T gs ↔ Named T := ⟨hn_named rule G, named_hn rule G⟩
end Nm

/-! sum(l, ()), l a list of tuples of ints -/
namespace GL
open PySem PySem.Spec PyProof.Rows L2
section
variable {prog : Program} {w : World} {A : Around} {E : Value → Shared → Prop} {s : Shared}
theorem cat_any {t b : Addr} {vs ws : List Value} {Q : Value → Shared → Prop} (ht : IsTup s.heap t vs.toArray) (hb : IsTup s.heap b ws.toArray) (hsz : vs.length + ws.length ≤ sizeLine)
    (h : ∀ (T : Addr) (h' : Heap), (∀ c o, s.heap.get? c = some o → h'.get? c = some o) → IsTup h' T (vs ++ ws).toArray → (T = t ∨ T = b ∨ s.heap.objs.size ≤ T) → Q (.ref T) { s with heap := h' }) :
    wpAny (model prog w) A (binaryOp .Add (.ref t) (.ref b)) Q E s := by
  cases vs with
  | nil => exact cat_tup0 ht hb (h b s.heap (fun _ _ q => q) hb (.inr (.inl rfl)))
  | cons v vs =>
    refine HT.cat_tup ht hb (by simp) (fun e => ?_) (fun _ => ?_) hsz
    · subst e
      exact h t s.heap (fun _ _ q => q) (by rw [List.append_nil]; exact ht) (.inl rfl)
    · exact h _ _ (fun c o q => Heap.get?_push_of_some _ q) (IsTup.new _ _) (.inr (.inr (Nat.le_refl _)))
theorem tup_stay {h h' : Heap} {a I S l : Addr} {i c : Nat} {xs ys : Array Value} (ht : IsTup h a xs) (hI : h.IsListIter I l i) (hS : h.get? S = some { cls := .type "list", dict := none, data := .seq ys c, slots := #[] })
    (k : ∀ b o, b ≠ I → b ≠ S → h.get? b = some o → h'.get? b = some o) : IsTup h' a xs := by
  obtain ⟨o, ho, hc, hd⟩ := ht
  refine ⟨o, k a o (fun e => ?_) (fun e => ?_) ho, hc, hd⟩
  · subst e
    obtain ⟨o', ho', hc', _⟩ := hI
    rw [ho] at ho'
    cases ho'
    rw [hc] at hc'
    exact absurd hc' (by decide)
  · subst e
    rw [ho] at hS
    cases hS
    have c' : Value.type "list" = Value.type "tuple" := hc
    injection c' with c''
    exact absurd c'' (by decide)
theorem sum_loopT {l I S : Addr} {items : Array Value} {R : Result → Shared → Prop} (ks : List (Addr × List Value)) (hh : A.handled = none) (hlI : l ≠ I) (hSI : S ≠ I) (hSl : S ≠ l) (hit : items.toList = ks.map fun p => Value.ref p.1) (hz : ((ks.map (·.2)).flatten).length ≤ sizeLine) :
    ∀ (k i : Nat) (s : Shared) (T : Addr) (acc : List Value) (c : Nat), ks.length - i = k → i ≤ ks.length → s.heap.IsListIter I l i ∧ s.heap.IsList l items → s.heap.get? S = some { cls := .type "list", dict := none, data := .seq #[.ref T] c, slots := #[] } →
    IsTup s.heap T acc.toArray → acc = (((ks.take i).map (·.2)).flatten) → (∀ p ∈ ks, IsTup s.heap p.1 p.2.toArray) →
    (∀ (h' : Heap) (tk : Nat) (T' : Addr), (∀ b o, b ≠ I → b ≠ S → s.heap.get? b = some o → h'.get? b = some o) → IsTup h' T' ((ks.map (·.2)).flatten).toArray → (T' = T ∨ (∃ p ∈ ks, T' = p.1) ∨ S < T') → R (.ok (.ret (.ref T'))) { s with heap := h', toks := tk }) →
    codeAny (model prog w) A (.builtin "sum.loop" ⟨[.ref I, .ref S, rawInt 2, rawInt 0], []⟩) R s := by
  have W := Walks.list (prog := prog) (w := w) (A := A.in1) hh I l hlI items
  have size0 : items.size = ks.length := by
    have z := congrArg List.length hit
    rw [Array.length_toList, List.length_map] at z
    exact z
  intro k
  induction k with
  | zero =>
    intro i s T acc c hk hi hst hS hT eacc hks hR
    have hin : i = items.size := by omega
    subst hin
    refine codeAny_builtin F.entry_sum_loop ?_
    rw [Around.under_plainId F.plain_sum_loop _]
    show wpAny _ A.in1 (seqItems? (.ref S) >>= _) _ _ s
    refine wpAny_bind (wpAny_seqItems hS rfl ?_)
    show wpAny _ A.in1 (tryCatch (pyNext (.ref I)) _ >>= _) _ _ s
    refine wpAny_bind (wpAny_tryCatch (W.done s _ _ hst fun h' tk hk' => ?_))
    have hk2 : ∀ b o, b ≠ I → b ≠ S → s.heap.get? b = some o → h'.get? b = some o := fun b o n1 _ e => hk' b o (by simpa using n1) e
    refine wpAny_pure (hR h' tk T hk2 ?_ (.inl rfl))
    rw [size0, List.take_length] at eacc
    rw [← eacc]
    exact tup_stay hT hst.1 hS hk2
  | succ k ih =>
    intro i s T acc c hk hi hst hS hT eacc hks hR
    have hlt : i < items.size := by omega
    refine codeAny_builtin F.entry_sum_loop ?_
    rw [Around.under_plainId F.plain_sum_loop _]
    show wpAny _ A.in1 (seqItems? (.ref S) >>= _) _ _ s
    refine wpAny_bind (wpAny_seqItems hS rfl ?_)
    show wpAny _ A.in1 (tryCatch (pyNext (.ref I)) _ >>= _) _ _ s
    refine wpAny_bind (wpAny_tryCatch (W.item i s _ _ hlt hst fun v h' tk hP hst' hk' => ?_))
    obtain ⟨p, hp, rfl⟩ : ∃ p, ks[i]? = some p ∧ v = .ref p.1 := by
      have z : items.toList[i]? = some v := by
        rw [Array.getElem?_toList]
        exact hP
      rw [hit, List.getElem?_map] at z
      rcases hq : ks[i]? with _ | p
      · rw [hq] at z
        cases z
      · rw [hq] at z
        exact ⟨p, rfl, (Option.some.inj z).symm⟩
    have pm := List.mem_of_getElem? hp
    have hk2 : ∀ b o, b ≠ I → b ≠ S → s.heap.get? b = some o → h'.get? b = some o := fun b o n1 _ e => hk' b o (by simpa using n1) e
    have hS' := hk' S _ (by simpa using hSI) hS
    have hT' := tup_stay hT hst.1 hS hk2
    have hb' := tup_stay (hks p pm) hst.1 hS hk2
    have eacc2 : acc ++ p.2 = (((ks.take (i + 1)).map (·.2)).flatten) := by
      rw [List.take_add_one, hp, List.map_append, List.flatten_append, ← eacc]
      simp
    have lacc : acc.length + p.2.length ≤ sizeLine := by
      have e1 : (acc ++ p.2).length ≤ ((ks.map (·.2)).flatten).length := by
        rw [eacc2]
        have z : ks = ks.take (i + 1) ++ ks.drop (i + 1) := (List.take_append_drop _ _).symm
        have z2 := congrArg (fun q : List (Addr × List Value) => ((q.map (·.2)).flatten).length) z
        simp only [List.map_append, List.flatten_append, List.length_append] at z2
        omega
      rw [List.length_append] at e1
      omega
    show wpAny _ A.in1 ((holding [Value.ref p.1] (binaryOp .Add (.ref T) (.ref p.1))).attempt >>= _) _ _ _
    refine wpAny_bind (wpAny_attempt (wpAny_holding (cat_any (s := { s with heap := h', toks := tk }) hT' hb' lacc fun T2 h2 k2 t2 kn => ?_)))
    have hS2 := k2 S _ hS'
    show wpAny _ A.in1 (updateSeq S (fun _ => #[.ref T2]) >>= _) _ _ _
    refine wpAny_bind ?_
    refine wpAny_updateSeq hS2 rfl ?_
    have hS3 := Heap.get?_update_self (Obj.mapSeq fun _ => #[Value.ref T2]) hS2 rfl
    refine wpAny_bind (wpAny_letGo ?_)
    refine wpAny_bind ?_
    have up : ∀ b o, b ≠ S → h2.get? b = some o → ((h2.update S (Obj.mapSeq fun _ => #[Value.ref T2])).update S (Obj.mapSeq fun _ => #[Value.ref T2])).get? b = some o := fun b o n e =>
      (Heap.get?_update_other _ _ (Ne.symm n)).trans ((Heap.get?_update_other _ _ (Ne.symm n)).trans e)
    have tkeep : ∀ (a : Addr) (zs : Array Value), IsTup h2 a zs → IsTup ((h2.update S (Obj.mapSeq fun _ => #[Value.ref T2])).update S (Obj.mapSeq fun _ => #[Value.ref T2])) a zs := fun a zs ht => by
      obtain ⟨o, ho, hc, hd⟩ := ht
      refine ⟨o, up a o (fun e => ?_) ho, hc, hd⟩
      subst e
      rw [ho] at hS2
      cases hS2
      have c' : Value.type "list" = Value.type "tuple" := hc
      injection c' with c''
      exact absurd c'' (by decide)
    have tk2 : ∀ (a : Addr) (zs : Array Value), IsTup h' a zs → IsTup h2 a zs := fun a zs ⟨o, ho, hc, hd⟩ => ⟨o, k2 a o ho, hc, hd⟩
    refine wpAny_updateSeq hS3 rfl (wpAny_pure ⟨plainId_quiet F.plain_sum_loop _, ih (i + 1) _ T2 (acc ++ p.2) _ (by omega) (by omega) (W.frame _ _ _ hst' fun b hb o e => ?_) (Heap.get?_update_self _ hS3 rfl) (tkeep _ _ t2) eacc2 (fun q hq => tkeep _ _ (tk2 _ _ (tup_stay (hks q hq) hst.1 hS hk2))) fun h'' tk'' T'' hk'' t'' kn'' => ?_⟩)
    · have nb : b ≠ S := fun z => by
        subst z
        simp only [List.mem_cons, List.not_mem_nil, or_false] at hb
        rcases hb with z | z
        · exact hSI z
        · exact hSl z
      exact up b o nb (k2 b o e)
    · refine hR h'' tk'' T'' (fun b o n1 n2 e => hk'' b o n1 n2 (up b o n2 (k2 b o (hk2 b o n1 n2 e)))) t'' ?_
      rcases kn'' with e | e | e
      · rcases kn with z | z | z
        · exact .inl (e.trans z)
        · exact .inr (.inl ⟨p, pm, e.trans z⟩)
        · refine .inr (.inr ?_)
          have lt : S < h'.objs.size := Heap.lt_size hS'
          rw [e]
          exact Nat.lt_of_lt_of_le lt z
      · exact .inr (.inl e)
      · exact .inr (.inr e)
theorem args_sum2 (a b : Value) : argsOk "sum" ⟨[a, b], []⟩ := by unfold argsOk; kernel_rfl
theorem call_sumT {l e : Addr} {items : Array Value} {Q : Value → Shared → Prop} (ks : List (Addr × List Value)) (hh : A.handled = none) (hl : s.heap.IsList l items) (hit : items.toList = ks.map fun p => Value.ref p.1) (he : IsTup s.heap e #[])
    (hks : ∀ p ∈ ks, IsTup s.heap p.1 p.2.toArray) (hz : ((ks.map (·.2)).flatten).length ≤ sizeLine)
    (h : ∀ (h' : Heap) (tk : Nat) (T : Addr), (∀ b o, s.heap.get? b = some o → h'.get? b = some o) → IsTup h' T ((ks.map (·.2)).flatten).toArray → (T = e ∨ (∃ p ∈ ks, T = p.1) ∨ s.heap.objs.size ≤ T) → Q (.ref T) { s with heap := h', toks := tk }) :
    wpAny (model prog w) A (call (.builtin "sum") [.ref l, .ref e]) Q E s := by
  refine call_function_tree F.kind_sum F.plain_sum F.entry_sum (args_sum2 _ _) ?_
  unfold Builtin.«sum»
  simp only [List.length_cons, List.length_nil]
  rw [if_neg (by decide)]
  refine wpAny_bind (wpAny_of_eq (show Builtin.Builtins.bindParams "sum" ["start"] 0 ⟨[.ref e], []⟩ = pure [some (.ref e)] from rfl) ?_)
  refine wpAny_bind (wpAny_pyIter_list hl ?_)
  have ll : l < s.heap.objs.size := by
    obtain ⟨o, ho, _⟩ := hl
    exact Heap.lt_size ho
  have le : e < s.heap.objs.size := by
    obtain ⟨o, ho, _⟩ := he
    exact Heap.lt_size ho
  refine wpAny_bind (wpAny_pure ?_)
  have he1 : IsTup (s.heap.push { cls := .type "list_iterator", data := .fields #[.ref l, .int 0 0] }) e #[] := by
    obtain ⟨o, ho, r⟩ := he
    exact ⟨o, Heap.get?_push_of_some _ ho, r⟩
  simp only [List.forIn_cons, List.forIn_nil]
  refine wpAny_bind (wpAny_bind (wpAny_bind (wpAny_isInstance (T := "tuple") (b := false) he1.typeIs F.sub_tuple_str ?_)))
  simp only [Bool.false_eq_true, if_false]
  refine wpAny_pure (wpAny_bind (wpAny_bind (wpAny_isInstance (T := "tuple") (b := false) he1.typeIs F.sub_tuple_bytes ?_)))
  simp only [Bool.false_eq_true, if_false]
  refine wpAny_pure (wpAny_bind (wpAny_bind (wpAny_isInstance (T := "tuple") (b := false) he1.typeIs F.sub_tuple_bytearray ?_)))
  simp only [Bool.false_eq_true, if_false]
  refine wpAny_pure (wpAny_pure ?_)
  refine wpAny_bind (wpAny_newObj_type ?_)
  have sz1 : (s.heap.push { cls := .type "list_iterator", data := .fields #[.ref l, .int 0 0] }).objs.size = s.heap.objs.size + 1 := Heap.size_push _ _
  have keep : ∀ b o, s.heap.get? b = some o → ((s.heap.push { cls := .type "list_iterator", data := .fields #[.ref l, .int 0 0] }).push { cls := .type "list", data := .seq #[.ref e] }).get? b = some o := fun b o q => Heap.get?_push_of_some _ (Heap.get?_push_of_some _ q)
  have tkeep : ∀ (a : Addr) (zs : Array Value), IsTup s.heap a zs → IsTup ((s.heap.push { cls := .type "list_iterator", data := .fields #[.ref l, .int 0 0] }).push { cls := .type "list", data := .seq #[.ref e] }) a zs := fun a zs ⟨o, ho, r⟩ => ⟨o, keep a o ho, r⟩
  refine wpAny_pure ⟨plainId_quiet F.plain_sum_loop _, sum_loopT (I := s.heap.objs.size) ks hh (Nat.ne_of_lt ll) (by rw [sz1]; exact Nat.succ_ne_self _) (by rw [sz1]; exact (Nat.ne_of_lt (Nat.lt_succ_of_lt ll)).symm) hit hz ks.length 0 _ e [] 0 (Nat.sub_zero _) (Nat.zero_le _)
    ⟨⟨_, Heap.get?_push_of_some _ (Heap.get?_push_size _ rfl), rfl, rfl⟩, hl.at fun o q => keep l o q⟩ (Heap.get?_push_size _ rfl) (tkeep _ _ he) (by simp) (fun p hp => tkeep _ _ (hks p hp)) fun h' tk T hk ht kn => ?_⟩
  refine h h' tk T (fun b o q => ?_) ht ?_
  · have lt := Heap.lt_size q
    exact hk b o (Nat.ne_of_lt lt) (by rw [sz1]; exact Nat.ne_of_lt (Nat.lt_succ_of_lt lt)) (keep b o q)
  · rcases kn with z | z | z
    · exact .inl z
    · exact .inr (.inl z)
    · rw [sz1] at z
      exact .inr (.inr (Nat.le_of_lt (Nat.lt_trans (Nat.lt_succ_self _) z)))
end
section
variable {X : Cx}
/-- sum(l, ()) of a list of tuples of ints -/
def rSumT (K : PySem.W.Frag) : List V → Hp → VK → Prop := fun vs H Q => ∃ (l e : Addr) (ks : List (Addr × List Int)), vs = [V.ref l, V.ref e] ∧ SqL K H l (ks.map fun p => V.ref p.1) ∧ SqT K H e [] ∧ (∀ p ∈ ks, SqT K H p.1 (p.2.map V.int)) ∧ ((ks.map (·.2)).flatten).length ≤ 1000 ∧
  ∀ (T : Addr) (H' : Hp), Same H H' → SqT K H' T (((ks.map (·.2)).flatten).map V.int) → Q (.ref T) H'
theorem ints_uniq : ∀ {a b : List Int} {us : List Value}, Vals (a.map V.int) us → Vals (b.map V.int) us → a = b
  | [], [], _, _, _ => rfl
  | [], _ :: _, _, h1, h2 => by cases h1; cases h2
  | _ :: _, [], _, h1, h2 => by cases h1; cases h2
  | x :: a, y :: b, _, h1, h2 => by
    cases h1 with
    | cons r1 t1 =>
      cases h2 with
      | cons r2 t2 =>
        obtain ⟨_, e1⟩ := r1
        obtain ⟨_, e2⟩ := r2
        rw [e1] at e2
        cases e2
        rw [ints_uniq t1 t2]
theorem sumT {K : PySem.W.Frag} (hc : X.calm = true) (hK : X.K = K := by rfl) : CallR X (.builtin "sum") (rSumT K) := by
  subst hK
  intro pins s σ H vs us Q I r h
  obtain ⟨l, e, ks, rfl, hl, he, hk, hz, q⟩ := h
  obtain rfl : us = [.ref l, .ref e] := by
    cases r with
    | cons r1 t =>
      cases t with
      | cons r2 t =>
        cases t
        cases r1
        cases r2
        rfl
  obtain ⟨its, rv, pl, _⟩ := I.list hl
  obtain ⟨ite, re, te, _⟩ := I.tuple he
  cases re
  -- the items of each
  have each : ∀ ks : List (Addr × List Int), (∀ p ∈ ks, SqT X.K H p.1 (p.2.map V.int)) → ∃ js : List (Addr × List Value), js.map (·.1) = ks.map (·.1) ∧ (∀ p ∈ js, IsTup s.heap p.1 p.2.toArray) ∧ Vals (((ks.map (·.2)).flatten).map V.int) ((js.map (·.2)).flatten) ∧
      ∀ p ∈ js, ∃ k ∈ ks, p.1 = k.1 ∧ Vals (k.2.map V.int) p.2 := by
    intro ks
    induction ks with
    | nil => intro _; exact ⟨[], rfl, fun p hp => (by cases hp), .nil, fun p hp => (by cases hp)⟩
    | cons k ks ih =>
      intro hk
      obtain ⟨js, e1, e2, e3, e4⟩ := ih fun p hp => hk p (List.mem_cons_of_mem _ hp)
      obtain ⟨it, r1, t1, _⟩ := I.tuple (hk k List.mem_cons_self)
      refine ⟨(k.1, it) :: js, by rw [List.map_cons, List.map_cons, e1], fun p hp => ?_, ?_, fun p hp => ?_⟩
      · rcases List.mem_cons.mp hp with z | z
        · rw [z]
          exact t1
        · exact e2 p z
      · rw [List.map_cons, List.map_cons, List.flatten_cons, List.flatten_cons, List.map_append]
        exact r1.append e3
      · rcases List.mem_cons.mp hp with z | z
        · rw [z]
          exact ⟨k, List.mem_cons_self, rfl, r1⟩
        · obtain ⟨k', hk', r'⟩ := e4 p z
          exact ⟨k', List.mem_cons_of_mem _ hk', r'⟩
  obtain ⟨js, e1, e2, e3, e4⟩ := each ks hk
  have eits := refs_of_vals rv
  have ej : its.toArray.toList = js.map fun p => Value.ref p.1 := by
    have z : its = (ks.map (·.1)).map Value.ref := by rw [eits, List.map_map]; rfl
    rw [z, ← e1, List.map_map]
    rfl
  have lj := e3.length
  rw [List.length_map] at lj
  refine call_sumT js (I.ok.hd hc) pl.isList ej te e2 (by rw [← lj]; exact Nat.le_trans hz (by decide)) fun h' tk T hkp ht kn => ?_
  have I1 : Inv X pins σ H { s with heap := h', toks := tk } := I.kept hkp
  have uniq : ∀ (a : Addr) (xs ys : List Value), IsTup h' a xs.toArray → IsTup h' a ys.toArray → xs = ys := fun a xs ys ⟨o, ho, _, n, hd⟩ ⟨o', ho', _, n', hd'⟩ => by
    rw [ho] at ho'
    cases ho'
    rw [hd] at hd'
    injection hd' with hd' _
    have := congrArg Array.toList hd'
    simpa using this
  have keepT : ∀ (a : Addr) (zs : Array Value), IsTup s.heap a zs → IsTup h' a zs := fun a zs ⟨o, ho, r⟩ => ⟨o, hkp a o ho, r⟩
  rcases kn with z | ⟨p, hp, z⟩ | z
  · subst z
    have e := uniq _ _ _ ht (keepT _ _ te)
    rw [e] at e3
    have e5 : ((ks.map (·.2)).flatten) = [] := by
      have := e3.length
      rw [List.length_map] at this
      exact List.length_eq_zero_iff.mp (by simpa using this)
    exact ⟨.ref T, H, I1, rfl, q T H (Same.refl _) (by rw [e5]; exact he)⟩
  · obtain ⟨k, hk', ek, rk⟩ := e4 p hp
    subst z
    have e := uniq _ _ _ ht (keepT _ _ (e2 p hp))
    rw [e] at e3
    have e5 := ints_uniq e3 rk
    exact ⟨.ref p.1, H, I1, rfl, q p.1 H (Same.refl _) (by rw [e5, ek]; exact hk k hk')⟩
  · have I2 : Inv X pins σ (upd H T (.tup (((ks.map (·.2)).flatten).map V.int))) { s with heap := h', toks := tk } :=
      I.laid (t' := tk) hkp z ⟨by rw [List.length_map]; exact Nat.le_trans hz (by decide), _, e3, ht⟩
    have nT := I.hok.fresh z
    exact ⟨.ref T, _, I2, rfl, q T _ (fun b o hb => by rw [upd_ne (ne_of_none hb nT)]; exact hb) (SqT.of upd_same)⟩
end
end GL

/-! sorted(t), t a tuple of ints; x not in t, data of any depth -/
namespace PyProof.Rows
open PySem
section
variable {prog : Program} {w : World} {A : Around} {E : Value → Shared → Prop} {s : Shared}
theorem collect_tupA {l : Addr} {vs : List Value} {Q : List Value → Shared → Prop} (hl : IsTup s.heap l vs.toArray)
    (h : Q vs { s with heap := (s.heap.push (seqObj "list" #[] 0)).update s.heap.objs.size (Obj.mapSeq (· ++ vs.toArray)) }) (hsz : vs.length ≤ sizeLine) :
    wpAny (model prog w) A (collect (.ref l)) Q E s := by
  obtain ⟨o, ho, hc, n, hd⟩ := id hl
  unfold collect
  refine wpAny_bind (wpAny_runValue (codeAny_builtin entry_proto_collect' ?_))
  show wpAny _ _ (do again (.builtin "list.__iadd__" ⟨[← newList [], .ref l], []⟩)) _ _ s
  refine wpAny_bind (wpAny_newList (wpAny_pure ⟨Code.quiet_builtin _ (by decide +kernel), codeAny_builtin entry_list_iadd' ?_⟩))
  show wpAny _ _ (Builtin.List.listExtendWith (.ref s.heap.objs.size) (.ref l) (.ref s.heap.objs.size)) _ _ { s with heap := s.heap.push (seqObj "list" #[] 0) }
  unfold Builtin.List.listExtendWith
  have ho' : (s.heap.push (seqObj "list" #[] 0)).get? l = some o := Heap.get?_push_of_some _ ho
  refine wpAny_bind (wpAny_typeOf (T := "tuple") ⟨o, ho', hc⟩ ?_)
  have ht : (Value.type "tuple" == Value.type "tuple") = true := by rfl
  rw [if_pos (by rw [ht]; simp)]
  refine wpAny_bind (listItems_at ho' hd ?_)
  refine wpAny_bind (listItems_at (xs := #[]) (n := 0) (Heap.get?_push_size _ rfl) rfl ?_)
  rw [if_neg (by simp)]
  refine wpAny_bind (listUpdate_at (xs := #[]) (n := 0) (Heap.get?_push_size _ rfl) rfl ?_ (Nat.zero_le _) (by show (#[] ++ vs.toArray).size ≤ sizeLine + 1; simp only [Array.size_append, List.size_toArray, List.length_nil]; omega))
  refine wpAny_pure ?_
  show wpAny (model prog w) A (do
      let o ← load s.heap.objs.size
      match o.data with
      | .seq xs _ => pure xs.toList
      | _ => unsupported "internal:collect") Q E { s with heap := (s.heap.push (seqObj "list" #[] 0)).update s.heap.objs.size (Obj.mapSeq (· ++ vs.toArray)) }
  refine wpAny_bind (wpAny_load (get?_update_seq (Heap.get?_push_size _ rfl) _) ?_)
  show wpAny _ _ (pure ((#[] : Array Value) ++ vs.toArray).toList) Q E _
  rw [show ((#[] : Array Value) ++ vs.toArray).toList = vs by simp]
  exact wpAny_pure h
theorem sorted_tupI {l : Addr} {vs : List Value} {ns : List Int} {Q : Value → Shared → Prop} (hl : IsTup s.heap l vs.toArray) (hI : IntsAre vs ns) (hz : vs.length ≤ sizeLine)
    (h : ∀ (out : Array Value) (ns' : List Int), IntsAre out.toList ns' → ns'.Perm ns → ns'.Pairwise (· ≤ ·) → Q (.ref (s.heap.objs.size + 1)) { s with heap := sortedAll s.heap vs out }) :
    wpAny (model prog w) A (call (.builtin "sorted") [.ref l]) Q E s := by
  refine Calls.call_function_entry kind_sorted plain_sorted entry_sorted (args_sorted1 _) ?_
  unfold Builtin.«sorted»
  refine wpAny_bind (m := checkCount "sorted" 1 1 _) (wpAny_pure ?_)
  refine wpAny_bind (collect_tupA hl ?_ hz)
  refine wpAny_bind (wpAny_newList ?_ hz)
  have hsz : ((s.heap.push (seqObj "list" #[] 0)).update s.heap.objs.size (Obj.mapSeq (· ++ vs.toArray))).objs.size = s.heap.objs.size + 1 := by
    rw [Heap.size_update, size_push']
  have hoL : (((s.heap.push (seqObj "list" #[] 0)).update s.heap.objs.size (Obj.mapSeq (· ++ vs.toArray))).push (seqObj "list" vs.toArray 0)).get? (s.heap.objs.size + 1) = some (seqObj "list" vs.toArray 0) := by
    rw [← hsz]; exact Heap.get?_push_size _ rfl
  show wpAny _ _ _ _ _ { s with heap := ((s.heap.push (seqObj "list" #[] 0)).update s.heap.objs.size (Obj.mapSeq (· ++ vs.toArray))).push (seqObj "list" vs.toArray 0) }
  rw [hsz]
  refine wpAny_bind (wpAny_holding (wpAny_call_entry slot_list_sort ⟨_, hoL, rfl⟩ entry_list_sort (SrtO.list_sort_ord SrtO.swo_int hoL hz (fun h2 => SrtO.ints_sortable hI h2) fun out a1 a2 => ⟨_, rfl, ?_⟩) (args_list_sort _)))
  obtain ⟨k1, k2, k3⟩ := SrtO.ints_out hI a1 a2
  exact wpAny_pure ⟨_, rfl, h out.toArray (out.map SrtO.iv) k1 k2 k3⟩
end
end PyProof.Rows
namespace GL
open PySem PySem.Spec PyProof.Rows L2
section
variable {X : Cx}
def rSortedTI (K : PySem.W.Frag) : List V → Hp → VK → Prop := fun vs H Q => ∃ (a : Addr) (ns : List Int), vs = [V.ref a] ∧ SqT K H a (ns.map V.int) ∧
  ∀ (ns' : List Int) (p : Addr), ns'.Perm ns → ns'.Pairwise (· ≤ ·) → H p = none → Q (.ref p) (upd H p (.lst (ns'.map V.int)))
theorem cr_sortedTI {K : PySem.W.Frag} (hK : X.K = K := by rfl) : CallR X (.builtin "sorted") (rSortedTI K) := by
  subst hK
  intro pins s σ H vs us Q I r h
  obtain ⟨a, ns, rfl, hs, q⟩ := h
  obtain ⟨its, rv, hl, hz⟩ := I.tuple hs
  rw [Vals.ref1 r]
  have hi := rv.ints
  refine sorted_tupI hl hi (by rw [← rv.length]; exact hz) fun out ns' h1 h2 h3 => ?_
  obtain ⟨ep, he'⟩ := PyProof.Rows.sortedAll_at s.heap its out
  have hlen : (ns'.map V.int).length ≤ sizeLine := by
    rw [List.length_map, h2.length_eq]
    rw [List.length_map] at hz
    exact hz
  exact ⟨.ref _, upd H (s.heap.objs.size + 1) (.lst (ns'.map V.int)), I.laid (t' := s.toks) (fun _ _ => PyProof.Rows.sortedAll_old) (Nat.le_succ _) ⟨hlen, out.toList, ep, vals_of_ints h1, he'⟩, rfl, q _ _ h2 h3 (I.hok.fresh (Nat.le_succ _))⟩
def rNotInT (K : PySem.W.Frag) : R2 := fun x y H Q => ∃ d ds, Dp K H x d ∧ Dp K H y (.tuple ds) ∧ SeqAt.shaped d = true ∧ SeqAt.shaped (.tuple ds) = true ∧ Q (.bl (!ds.any fun z => PyData.eqv z d)) H
theorem op_notInT {K : PySem.W.Frag} (hu : X.A.units + 65 < cLine) (hK : X.K = K := by rfl) : OpR X (compareOp .NotIn) (rNotInT K) := by
  subst hK
  intro pins s σ H x y v u Q I rx ry h
  obtain ⟨d, ds, hd, he, sd, se, q⟩ := h
  obtain ⟨as, r1⟩ := Dp.reads I d x v hd rx
  obtain ⟨bs, r2⟩ := Dp.reads I (.tuple ds) y u he ry
  exact SeqAt.notIn_tuple_reads r2 r1 (SeqAt.canLay_of_shaped se) (SeqAt.canLay_of_shaped sd) (room_in_shaped sd hu) ⟨.bl _, H, I, rfl, q⟩
end
end GL

namespace GL
open PySem PySem.Spec PyProof.Rows L2
theorem eqDK {X : Cx} {K : PySem.W.Frag} (hu : X.A.units + 64 < cLine) (hK : X.K = K := by rfl) : OpR X (compareOp .Eq) (rEqD K) := by
  subst hK
  exact op_eqD hu
theorem neDK {X : Cx} {K : PySem.W.Frag} (hu : X.A.units + 64 < cLine) (hK : X.K = K := by rfl) : OpR X (compareOp .NotEq) (rNeD K) := by
  subst hK
  exact op_neD hu
end GL
namespace Nm
open PySem PySem.Spec PyProof.Rows L2 GL
abbrev sHasNames : Stmt := topS 21
abbrev nHas : List Str := ["_law_table_here", "_law_rows", "_law_row", "_law_sign"]
theorem scHas : FnScope nHas ["_law_table_here"] (defScope sHasNames) := ⟨rfl, rfl, rfl, by decide +kernel, rfl, by decide +kernel, by decide +kernel⟩
theorem eqvLT (A B : List (List Int)) : PyData.eqv (.list (A.map rowD)) (.list (B.map rowD)) = decide (A = B) := by
  rw [PyData.eqv]
  exact eqvRows A B
theorem eqvL (a b : List Int) : PyData.eqv (.list (a.map PyData.int)) (.list (b.map PyData.int)) = decide (a = b) := by
  rw [PyData.eqv]
  exact eqvI a b
section
variable {P : Program} {w : World} {K : PySem.W.Frag} {mg : Str → Option Value} {base : Heap}
def spHas (K : PySem.W.Frag) : Sp := fun vs H Q _ => ∃ (p : Addr) (T : List (List Int)), vs = [.ref p] ∧ Tbl H p T ∧ IsRule T ∧ ∀ (b : Bool) (H' : Hp), (b = true ↔ Named T) → Same H H' → Q (.bl b) H'
set_option maxHeartbeats 4000000 in
theorem ok_has {f : Addr} {fd : FuncData} {k : Nat} (F : Fun K "_law_has_names" "_law_has_names" sHasNames f fd) (B : LibJ mg) (mset : mg "set" = none) (msort : mg "sorted" = none) (msum : mg "sum" = none) (mlist : mg "list" = none) :
    FnOk P w K mg base CX0 (k + 1) f fd ["_law_table_here"] (spHas K) := by
  refine F.ok scHas (fun vs H Q E h => ?_) (fun cdv A outer s H vs Q E hr h => ?_)
  · obtain ⟨p, T, rfl, _⟩ := h
    rfl
  · obtain ⟨p, T, rfl, hT, rule, q⟩ := h
    refine ⟨_, pss_cons (ps_set (i := 1) scHas.nd rfl (.inr rfl) (pe_callB (cr_sortedSA (K := K) rfl hr.units) (by rfl) msort (by decide +kernel) (pa_cons (pe_callTy (setTT (K := K) rfl hr.units) (by rfl) mset (by decide +kernel) (pa_cons (pv 0) pa_nil)) pa_nil)))
      (pss_cons (ps_if (pt_cmpR op_ne (pe_op op_mul (pe_callB (lenK (K := K)) (by rfl) B.len PySem.boot_len (pa_cons (pv 1) pa_nil)) (pe_callB (lenK (K := K)) (by rfl) B.len PySem.boot_len (pa_cons (pv 1) pa_nil))) (pe_callB (lenK (K := K)) (by rfl) B.len PySem.boot_len (pa_cons (pv 0) pa_nil)) (nomark _)) (pss_one (ps_ret pe_bl)) pss_nil)
      (pss_cons (ps_if (pt_cmpR (neDK (K := K) hr.units) (pe_callB (cr_sortedTI (K := K)) (by rfl) msort (by decide +kernel) (pa_cons (pe_callB (sumT (K := K) rfl) (by rfl) msum (by decide +kernel) (pa_cons (pv 1) (pa_cons (pe_tup pa_nil) pa_nil))) pa_nil))
          (pe_listRg (by rfl) (by rfl) mlist (prg_1 (by rfl) B.range (pe_callB (lenK (K := K)) (by rfl) B.len PySem.boot_len (pa_cons (pv 0) pa_nil)))) (nomark _)) (pss_one (ps_ret pe_bl)) pss_nil)
      (pss_one (ps_ret (pe_callB (allK (K := K) rfl) (by rfl) B.all (by decide +kernel) (pa_cons
        (pe_lc (own := [("_law_row", 2)]) (g := gName 2) (by rfl) scHas.nd (piLstK (K := K) (pv 1))
          (blkOk_by (own := [("_law_row", 2)]) (N := nHas) (sc := defScope sHasNames) (by decide +kernel))
          (fun _ _ _ _ _ => pg_name (i := 2) scHas.nd rfl (Or.inl rfl)) (fun _ _ _ _ _ => pts_nil)
          (fun _ _ _ _ _ => pe_cmpR (eqDK (K := K) hr.units) (pe_callB (cr_sortedLA (K := K) hr.units) (by rfl) msort (by decide +kernel) (pa_cons
            (pe_lc (own := [("_law_sign", 3)]) (g := gName 3) (by rfl) scHas.nd (piTupK (K := K) (pv 2))
              (blkOk_by (own := [("_law_sign", 3)]) (N := nHas) (sc := relS (lcSc (retArg ((defBody sHasNames).getD 3 (.Pass ⟨0, 0, 0, 0⟩)))) (defScope sHasNames)) (by decide +kernel))
              (fun _ _ _ _ _ => pg_name (i := 3) scHas.nd rfl (Or.inl rfl)) (fun _ _ _ _ _ => pts_nil)
              (fun _ _ _ _ _ => pe_ix (ixTupK (K := K)) (pv 0) (pv 3) (fun _ _ => rfl))) pa_nil)) (pv 1) (nomark _))) pa_nil)))))), ?_⟩
    have hT0 := hT
    obtain ⟨rs, hp, hR⟩ := hT0
    have lr : rs.length = T.length := Paired.length hR
    have n1 := rule.1
    have n16 := rule.2.1
    have zat := zip_at hR
    refine ⟨.ref p, rfl, p, rs.zip T, rfl, by rw [zip_refs lr]; exact SqT.of hp, fun z hz => SqT.of (zat z hz), ?_, fun S L nS sub all nodup => ?_⟩
    · rw [List.length_zip]
      omega
    generalize hHS : upd H S _ = HS
    have sS : Same H HS := by
      rw [← hHS]
      exact same_upd nS
    have hL : ∀ z ∈ L, H z.1 = some (.tup (z.2.map V.int)) := fun z hz => zat z (sub z hz)
    have mL : ∀ row, row ∈ L.map (·.2) ↔ row ∈ T := fun row => by
      refine ⟨fun h => ?_, fun h => ?_⟩
      · obtain ⟨z, hz, e⟩ := List.mem_map.mp h
        have z2 := List.mem_map_of_mem (f := (·.2)) (sub z hz)
        rw [zip_snd lr] at z2
        rw [← e]
        exact z2
      · rw [← zip_snd lr] at h
        obtain ⟨z, hz, e⟩ := List.mem_map.mp h
        rw [← e]
        exact all z hz
    refine ⟨S, L, rfl, ?_, fun z hz => SqT.of (sS _ _ (hL z hz)), fun z hz => good64 (rule.2.2 z.2 ((mL z.2).mp (List.mem_map_of_mem hz))) n16, fun L' g pmL nd' len' up ng => ?_⟩
    · rw [← hHS]
      exact upd_same
    have hL' : ∀ z ∈ L', H z.1 = some (.tup (z.2.map V.int)) := fun z hz => hL z (pmL.mem_iff.mp hz)
    obtain ⟨gs, egs⟩ : ∃ gs, gs = L'.map (·.2) := ⟨_, rfl⟩
    have gnd : gs.Nodup := by rw [egs]; exact nd'
    have gm : ∀ row, row ∈ gs ↔ row ∈ T := fun row => by
      rw [egs, (pmL.map (·.2)).mem_iff]
      exact mL row
    have G : Gs T gs := ⟨gnd, gm, by rw [egs, List.pairwise_map]; exact up⟩
    have iff := hn_iff rule G
    have lgs := gs_few gnd gm
    have lL : L'.length = gs.length := by rw [egs, List.length_map]
    have no : ∀ H', Same H H' → ¬ Hn T gs → Q (.bl false) H' := fun H' s' h => q false H' ⟨fun z => (by cases z), fun z => (h (iff.mpr z)).elim⟩ s'
    have sg : Same HS (upd HS g (.lst (L'.map fun q => V.ref q.1))) := same_upd ng
    have hg : upd HS g (.lst (L'.map fun q => V.ref q.1)) g = some (.lst (L'.map fun q => V.ref q.1)) := upd_same
    have sHg := sS.trans sg
    generalize upd HS g (.lst (L'.map fun q => V.ref q.1)) = H1 at hg sHg ⊢
    clear sg ng hHS sS
    have hp1 := sHg _ _ hp
    have hc1 : ∀ z ∈ L', H1 z.1 = some (.tup (z.2.map V.int)) := fun z hz => sHg _ _ (hL' z hz)
    have ll : ((L'.map fun q => V.ref q.1).length : Int) = ((gs.length : Nat) : Int) := by rw [List.length_map, lL]
    have lt : ((rs.map V.ref).length : Int) = ((T.length : Nat) : Int) := by rw [List.length_map, lr]
    refine ⟨.ref g, rfl, g, _, rfl, .inl (SqL.of hg), .ref g, rfl, g, _, rfl, .inl (SqL.of hg), _, _, rfl, rfl, .inl ⟨by omega, by omega⟩, .ref p, rfl, p, _, rfl, .inr (SqT.of hp1), rfl, _, rfl, ?_⟩
    dsimp only
    rw [ll, lt]
    have e2 : (gs.length : Int) * (gs.length : Int) = ((gs.length * gs.length : Nat) : Int) := by norm_cast
    by_cases h1 : gs.length * gs.length = T.length
    · rw [decide_eq_true (show V.int ((gs.length : Int) * (gs.length : Int)) = V.int (T.length : Int) by rw [e2, h1])]
      refine iteF ?_
      have g4 : gs.length ≤ 4 := by
        rcases Nat.lt_or_ge 4 gs.length with z | z
        · have := sq_lt z
          omega
        · exact z
      have fl : gs.flatten.length ≤ 64 := by
        have each : ∀ ls : List (List Int), (∀ l ∈ ls, l.length ≤ 16) → ls.flatten.length ≤ 16 * ls.length := by
          intro ls
          induction ls with
          | nil => intro _; simp
          | cons l ls ih =>
            intro h
            have h1 := h l List.mem_cons_self
            have h2 := ih fun x hx => h x (List.mem_cons_of_mem _ hx)
            rw [List.flatten_cons, List.length_append, List.length_cons]
            omega
        have := each gs fun l hl => Nat.le_trans (rule.2.2 l ((gm l).mp hl)).len n16
        omega
      refine ⟨.ref g, rfl, Nat.zero_le _, fun e ne => ?_⟩
      have se := same_upd (o := .tup []) ne
      refine ⟨g, e, L', rfl, SqL.of (se _ _ hg), SqT.of upd_same, fun z hz => SqT.of (se _ _ (hc1 z hz)), by rw [← egs]; omega, fun Tt H2 s2 hTt => ?_⟩
      rw [← egs] at hTt
      refine ⟨Tt, gs.flatten, rfl, hTt, fun ns' o pm srt no' => ?_⟩
      have so := same_upd (o := .lst (ns'.map V.int)) no'
      have s12 := se.trans (s2.trans so)
      refine ⟨.ref p, rfl, p, _, rfl, .inr (SqT.of (s12 _ _ hp1)), _, rfl, ?_, fun S2 nS2 => ?_⟩
      · rw [lt]
        exact RgOk.of_le (by decide) (by omega) (by decide) (by omega)
      rw [lt, rgV_range]
      have sS2 := same_upd (o := .lst ((rangeI T.length).map V.int)) nS2
      have s13 := s12.trans sS2
      have hO := sS2 _ _ (upd_same (H := H2) (a := o) (o := .lst (ns'.map V.int)))
      refine ⟨.list (ns'.map PyData.int), .list ((rangeI T.length).map PyData.int), .lst (SqL.of hO) (dpInts ns'), .lst (SqL.of upd_same) (dpInts _), shapedL ns', shapedL _, _, rfl, ?_⟩
      rw [eqvL]
      have partIff : ns' = rangeI T.length ↔ gs.flatten.Perm (rangeI T.length) := by
        refine ⟨fun z => by rw [← z]; exact pm.symm, fun z => ?_⟩
        exact (pm.trans z).eq_of_pairwise (fun x y _ _ a b => by omega) srt ((rangeI_asc _).imp fun h => Int.le_of_lt h)
      generalize upd (upd H2 o (.lst (ns'.map V.int))) S2 (.lst ((rangeI T.length).map V.int)) = H3 at s13 ⊢
      by_cases h2 : gs.flatten.Perm (rangeI T.length)
      · rw [decide_eq_true (partIff.mpr h2)]
        refine iteF ?_
        have hg3 := s13 _ _ hg
        have hp3 := s13 _ _ hp1
        have hc3 : ∀ z ∈ L', H3 z.1 = some (.tup (z.2.map V.int)) := fun z hz => s13 _ _ (hc1 z hz)
        have hR3 := (hR.same sHg).same s13
        refine ⟨.ref g, rfl, g, rfl, ⟨_, SqL.of hg3⟩, fun D nD => ?_⟩
        have sD := same_upd (o := .lst []) nD
        refine lc_list (K := K) (a := g) (xs := L'.map fun q => V.ref q.1) (fun i H4 => H4 D = some (.lst (((gs.take i).map fun row => decide ((rowsAt T row).Perm gs)).map V.bl)) ∧ Same H3 H4) ⟨upd_same, sD⟩ (fun i H4 _ h => SqL.of (h.2 _ _ hg3)) ?_ ?_
        · rintro i x H4 hx ⟨hD, s4⟩
          obtain ⟨z, hz, rfl⟩ : ∃ z, L'[i]? = some z ∧ x = .ref z.1 := by
            rw [List.getElem?_map] at hx
            rcases e : L'[i]? with _ | z
            · rw [e] at hx
              cases hx
            · rw [e] at hx
              exact ⟨z, rfl, (Option.some.inj hx).symm⟩
          have hgi : gs[i]? = some z.2 := by rw [egs, List.getElem?_map, hz]; rfl
          have good := rule.2.2 z.2 ((gm _).mp (List.mem_of_getElem? hgi))
          have lz := good.len
          have hc4 := s4 _ _ (hc3 z (List.mem_of_getElem? hz))
          refine ⟨rfl, yesI ⟨.ref z.1, rfl, z.1, rfl, ⟨_, SqT.of hc4⟩, fun D2 nD2 => ?_⟩⟩
          have sD2 := same_upd (o := .lst []) nD2
          refine lc_tup (K := K) (a := z.1) (xs := z.2.map V.int) (fun j H5 => ∃ ts : List Addr, H5 D2 = some (.lst (ts.map V.ref)) ∧ Rows H5 ts ((rowsAt T z.2).take j) ∧ ts.length = j ∧ Same H4 H5) ⟨[], upd_same, .nil, rfl, sD2⟩ (fun j H5 _ h => ?_) ?_ ?_
          · obtain ⟨_, _, _, _, s5⟩ := h
            exact SqT.of (s5 _ _ hc4)
          · rintro j y H5 hy ⟨ts, hD2, hR5, lts, s5⟩
            obtain ⟨m, hm, rfl⟩ := int_at hy
            have mb := good.2 m (List.mem_of_getElem? hm)
            have jl := (List.getElem?_eq_some_iff.mp hm).1
            obtain ⟨c, hc⟩ : ∃ c, rs[m.toNat]? = some c := ⟨_, List.getElem?_eq_getElem (by omega)⟩
            obtain ⟨row, hrow, hcell⟩ := paired_get hR3 hc
            have hcell5 := s5 _ _ (s4 _ _ hcell)
            refine ⟨rfl, yesI ⟨.ref p, rfl, .int m, rfl, p, _, m, .ref c, rfl, rfl, SqT.of (s5 _ _ (s4 _ _ hp3)), ?_, _, hD2, ?_, ts ++ [c], ?_, ?_, ?_, ?_⟩⟩
            · have z := atI_nat (xs := rs.map V.ref) (j := m.toNat) (v := .ref c) (by rw [List.getElem?_map, hc]; rfl)
              rw [show ((m.toNat : Nat) : Int) = m by omega] at z
              exact z
            · rw [List.length_map]
              exact lenLine (by omega)
            · rw [upd_same, List.map_append]
              rfl
            · have er : (rowsAt T z.2)[j]? = some row := by
                unfold rowsAt
                rw [List.getElem?_map, hm]
                show some (T.getD m.toNat []) = some row
                rw [List.getD_eq_getElem?_getD, hrow]
                rfl
              rw [List.take_add_one, er]
              exact Rows.kt (paired_append hR5 (.cons hcell5 .nil)) (KT.lst hD2)
            · rw [List.length_append, lts]
              rfl
            · intro b o' hb
              rw [upd_ne (ne_of_none hb nD2)]
              exact s5 _ _ hb
          · rintro H5 ⟨ts, hD2, hR5, lts, s5⟩
            have lra : (rowsAt T z.2).length = z.2.length := by unfold rowsAt; rw [List.length_map]
            rw [List.length_map, ← lra, List.take_length] at hR5
            have lts2 : ts.length = (rowsAt T z.2).length := Paired.length hR5
            have zat5 := zip_at hR5
            refine ⟨D2, ts.zip (rowsAt T z.2), rfl, by rw [zip_refs lts2]; exact SqL.of hD2, by rw [List.length_zip]; omega, fun u hu' => ⟨SqT.of (zat5 u hu'), ?_⟩, fun ls o' pml srt' no2 => ?_⟩
            · have hm2 : u.2 ∈ rowsAt T z.2 := (List.of_mem_zip (a := u.1) (b := u.2) hu').2
              unfold rowsAt at hm2
              obtain ⟨x, hx, ex⟩ := List.mem_map.mp hm2
              have xb := good.2 x hx
              rw [← ex]
              refine good64 (rule.2.2 _ ?_) n16
              rw [List.getD_eq_getElem?_getD, List.getElem?_eq_getElem (by omega)]
              exact List.getElem_mem _
            have so2 := same_upd (o := .lst (ls.map fun q => V.ref q.1)) no2
            have s45 := s5.trans so2
            have ho5 : upd H5 o' (.lst (ls.map fun q => V.ref q.1)) o' = some (.lst (ls.map fun q => V.ref q.1)) := upd_same
            have hls : ∀ u ∈ ls, upd H5 o' (.lst (ls.map fun q => V.ref q.1)) u.1 = some (.tup (u.2.map V.int)) := fun u hu' => so2 _ _ (zat5 u (pml.mem_iff.mp hu'))
            have hg5 := s45 _ _ (s4 _ _ hg3)
            have hLc : ∀ u ∈ L', upd H5 o' (.lst (ls.map fun q => V.ref q.1)) u.1 = some (.tup (u.2.map V.int)) := fun u hu' => s45 _ _ (s4 _ _ (hc3 u hu'))
            refine ⟨.ref g, rfl, .list ((ls.map (·.2)).map rowD), .list (gs.map rowD), .lst (SqL.of ho5) (dpRowsL ls hls), by rw [egs]; exact .lst (SqL.of hg5) (dpRowsL L' hLc), shapedLT _, shapedLT gs, _, s45 _ _ hD, ?_, ?_, ?_⟩
            · rw [List.length_map, List.length_map, List.length_take]
              exact lenLine (by omega)
            · have pm2 : (ls.map (·.2)).Perm (rowsAt T z.2) := by
                have := pml.map (·.2)
                rw [zip_snd lts2] at this
                exact this
              have eqIff : ls.map (·.2) = gs ↔ (rowsAt T z.2).Perm gs := by
                refine ⟨fun y => by rw [← y]; exact pm2.symm, fun y => ?_⟩
                exact (pm2.trans y).eq_of_pairwise (fun x y _ _ a b => TSA.lexB_total x y b a) (by rw [List.pairwise_map]; exact srt') G.up
              rw [upd_same, eqvLT, List.take_add_one, hgi, List.map_append, List.map_append, decide_eq_decide.mpr eqIff]
              rfl
            · intro b o hb
              rw [upd_ne (ne_of_none hb nD)]
              exact s45 _ _ (s4 _ _ hb)
        · rintro H4 ⟨hD, s4⟩
          rw [List.length_map, lL] at hD
          refine ⟨D, _, rfl, SqL.of hD, ?_⟩
          rw [all_take]
          refine q _ H4 ?_ (sHg.trans (s13.trans s4))
          rw [List.all_eq_true, ← iff]
          refine ⟨fun z => ⟨h1, h2, fun row hr' => of_decide_eq_true (z row hr')⟩, fun z row hr' => decide_eq_true (z.each row hr')⟩
      · rw [decide_eq_false (fun z => h2 (partIff.mp z))]
        exact iteT (no H3 (sHg.trans s13) fun z => h2 z.part)
    · rw [decide_eq_false (show ¬ V.int ((gs.length : Int) * (gs.length : Int)) = V.int (T.length : Int) from fun z => h1 (by have := V.int.inj z; rw [e2] at this; omega))]
      exact iteT (no H1 sHg fun z => h1 z.sq)
end
end Nm

/-! a def of one parameter, called by its keyword -/
namespace GL
open PySem PySem.Spec PyProof.Rows L2
def tCallKw (sp : Sp) (te : TE) : TE := fun σ H Q => te σ H fun v H1 => sp [v] H1 Q E0
theorem bindKw {K : PySem.W.Frag} {x qual kx : Str} {st : Stmt} {f : Addr} {fd : FuncData} (F : Fun K x qual st f fd)
    (h : ∀ (kV doc pm : Value) (an : Option Addr) (cdv ct u : Value), bindArgs (PySem.W.fnOf x qual (defArgs st) (defBody st) (defScope st) .none kV doc pm an cdv ct) ⟨[], [(kx, u)]⟩ = pure [(kx, u)]) :
    ∀ (s : Shared) (u : Value), BindsTo s fd ⟨[], [(kx, u)]⟩ [(kx, u)] := by
  obtain ⟨oc, od, kV, doc, pm, an, cdv, ct, osl, rfl, lk, hcd⟩ := F.ex
  exact fun s u => .of_eq (h kV doc pm an cdv ct u)
theorem callKw {X : Cx} {k : Nat} {f : Addr} {fd : FuncData} {kx x : Str} {sp : Sp} {p pos kpos : Pos} {e : Expr} {te : TE} (F : FnOk X.prog X.w X.K X.mg X.base CX0 k f fd [kx] sp) (hr : Room k X.A) (hg : Gl X x) (hm : X.mg x = some (.ref f))
    (hk : PySem.W.keepIn X.K (.ref f) = true) (hb : ∀ (s : Shared) (u : Value), BindsTo s fd ⟨[], [(kx, u)]⟩ [(kx, u)]) (he : PE X e te)
    (hall : (backToKw pos (keywordEach [⟨some kx, e, kpos⟩] X.env)).all (·.1.isSome) = true := by rfl) (hks : (backToKw pos (keywordEach [⟨some kx, e, kpos⟩] X.env)).filterMap (·.1) = [kx] := by rfl)
    (hdb : (x == ("__debug__" : Str)) = false := by decide) (hpl : ((backTo pos (starEach [] X.env)).any (·.1) || (backToKw pos (keywordEach [⟨some kx, e, kpos⟩] X.env)).any (·.1.isNone)) = false := by rfl) :
    PE X (.Call (.Name x p) [] [⟨some kx, e, kpos⟩] pos) (tCallKw sp te) := by
  constructor
  intro pins s σ H Q I h
  apply wpAny_Call_Name_kw
  refine ld_glob I hg hm ?_ hdb
  refine PySem.W.callWith_KW0 (h₀ := X.base) I.ok.mod.kin hk hall ?_ hpl
  refine thn ((pk_cons he pk_nil).run pos pins s σ H (fun zs H1 => ∃ v, zs = [v] ∧ sp [v] H1 Q E0) I ?_) ?_
  · show te σ H _
    have z : tCallKw sp te σ H Q := h
    refine cast (congrArg (te σ H) ?_) z
    funext v H1
    refine propext ⟨fun y => ⟨v, rfl, y⟩, fun ⟨v', e1, y⟩ => ?_⟩
    cases e1
    exact y
  · rintro ws s2 ⟨zs, H2, I2, rz, v, rfl, q2⟩
    refine ⟨I2.kIn, ?_⟩
    rw [hks]
    cases rz with
    | cons r rr =>
      cases rr
      apply wpAny_call
      refine codeAny_mono (F.run X.A X.stack s2 H2 ⟨[], [(kx, _)]⟩ [_] [v] Q E0 hr I2.env0 (hb s2 _) (.cons r .nil) q2) fun res s' hq => ?_
      rcases res with e | fl
      · exact False.elim hq
      · rcases fl with _ | _ | _ | u
        all_goals first | exact False.elim hq | exact I2.after hq
end GL

/-! a def of two parameters, called by its keywords -/
namespace GL
open PySem PySem.Spec PyProof.Rows L2
def tCallKw2 (sp : Sp) (te tf : TE) : TE := fun σ H Q => te σ H fun v H1 => tf σ H1 fun u H2 => sp [v, u] H2 Q E0
theorem bindKw2 {K : PySem.W.Frag} {x qual kx ky : Str} {st : Stmt} {f : Addr} {fd : FuncData} (F : Fun K x qual st f fd)
    (h : ∀ (kV doc pm : Value) (an : Option Addr) (cdv ct u v : Value), bindArgs (PySem.W.fnOf x qual (defArgs st) (defBody st) (defScope st) .none kV doc pm an cdv ct) ⟨[], [(kx, u), (ky, v)]⟩ = pure [(kx, u), (ky, v)]) :
    ∀ (s : Shared) (u v : Value), BindsTo s fd ⟨[], [(kx, u), (ky, v)]⟩ [(kx, u), (ky, v)] := by
  obtain ⟨oc, od, kV, doc, pm, an, cdv, ct, osl, rfl, lk, hcd⟩ := F.ex
  exact fun s u v => .of_eq (h kV doc pm an cdv ct u v)
theorem callKw2 {X : Cx} {k : Nat} {f : Addr} {fd : FuncData} {kx ky x : Str} {sp : Sp} {p pos kpos lpos : Pos} {e g : Expr} {te tf : TE} (F : FnOk X.prog X.w X.K X.mg X.base CX0 k f fd [kx, ky] sp) (hr : Room k X.A) (hg : Gl X x) (hm : X.mg x = some (.ref f))
    (hk : PySem.W.keepIn X.K (.ref f) = true) (hb : ∀ (s : Shared) (u v : Value), BindsTo s fd ⟨[], [(kx, u), (ky, v)]⟩ [(kx, u), (ky, v)]) (he : PE X e te) (hf : PE X g tf)
    (hall : (backToKw pos (keywordEach [⟨some kx, e, kpos⟩, ⟨some ky, g, lpos⟩] X.env)).all (·.1.isSome) = true := by rfl) (hks : (backToKw pos (keywordEach [⟨some kx, e, kpos⟩, ⟨some ky, g, lpos⟩] X.env)).filterMap (·.1) = [kx, ky] := by rfl)
    (hdb : (x == ("__debug__" : Str)) = false := by decide) (hpl : ((backTo pos (starEach [] X.env)).any (·.1) || (backToKw pos (keywordEach [⟨some kx, e, kpos⟩, ⟨some ky, g, lpos⟩] X.env)).any (·.1.isNone)) = false := by rfl) :
    PE X (.Call (.Name x p) [] [⟨some kx, e, kpos⟩, ⟨some ky, g, lpos⟩] pos) (tCallKw2 sp te tf) := by
  constructor
  intro pins s σ H Q I h
  apply wpAny_Call_Name_kw
  refine ld_glob I hg hm ?_ hdb
  refine PySem.W.callWith_KW0 (h₀ := X.base) I.ok.mod.kin hk hall ?_ hpl
  refine thn ((pk_cons he (pk_cons hf pk_nil)).run pos pins s σ H (fun zs H1 => ∃ v u, zs = [v, u] ∧ sp [v, u] H1 Q E0) I ?_) ?_
  · show te σ H _
    have z : tCallKw2 sp te tf σ H Q := h
    refine cast (congrArg (te σ H) ?_) z
    funext v H1
    show tf σ H1 _ = tf σ H1 _
    refine congrArg (tf σ H1) ?_
    funext u H2
    refine propext ⟨fun y => ⟨v, u, rfl, y⟩, fun ⟨v', u', e1, y⟩ => ?_⟩
    cases e1
    exact y
  · rintro ws s2 ⟨zs, H2, I2, rz, v, u, rfl, q2⟩
    refine ⟨I2.kIn, ?_⟩
    rw [hks]
    cases rz with
    | cons r rr =>
      cases rr with
      | cons r2 rr =>
      cases rr
      apply wpAny_call
      refine codeAny_mono (F.run X.A X.stack s2 H2 ⟨[], [(kx, _), (ky, _)]⟩ [_, _] [v, u] Q E0 hr I2.env0 (hb s2 _ _) (.cons r (.cons r2 .nil)) q2) fun res s' hq => ?_
      rcases res with e | fl
      · exact False.elim hq
      · rcases fl with _ | _ | _ | u
        all_goals first | exact False.elim hq | exact I2.after hq
end GL
namespace Nm
open PySem PySem.Spec PyProof.Rows L2 GL
/-! ### named marks called otherwise, with values called otherwise -/
theorem prs_at {n : Nat} (h1 : 1 ≤ n) (h4 : n ≤ 4) {s : Nat} (hs : s < n * n) : (prsTo n n)[s]? = some (((s / n : Nat) : Int), ((s % n : Nat) : Int)) := by
  have e : prsTo n n = (List.range (n * n)).map fun (i : Nat) => (((i / n : Nat) : Int), ((i % n : Nat) : Int)) := by
    obtain rfl | rfl | rfl | rfl : n = 1 ∨ n = 2 ∨ n = 3 ∨ n = 4 := by omega
    all_goals decide +kernel
  rw [e, List.getElem?_map, List.getElem?_range hs]
  rfl
theorem toP_pr (ps : List (Int × Int)) : (ps.map prD).map toP = ps := by
  rw [List.map_map]
  have : (toP ∘ prD) = id := by
    funext q
    rfl
  rw [this, List.map_id]
theorem pairs_show {v : Nat} {T : List (List Int)} {order sw : List Int} {ps : List (Int × Int)} (h1 : 1 ≤ v) (h4 : v ≤ 4) (po : order.Perm (rangeI (v * v))) (psw : sw.Perm (rangeI v)) (c : Called (ofPrs (prsTo v v)) T order)
    (lp : ps.length = v * v) (hp : ∀ (s : Nat) (j : Int), order[s]? = some j → ps[j.toNat]? = some (at_ sw ((s / v : Nat) : Int), at_ sw ((s % v : Nat) : Int))) : ShowsP T (.tuple (ps.map prD)) ∧ IsRule T ∧ ∀ q ∈ ps, (0 ≤ q.1 ∧ q.1 < (v : Int)) ∧ 0 ≤ q.2 ∧ q.2 < (v : Int) := by
  have N0 : HasPs (ofPrs (prsTo v v)) v (prsTo v v) := ⟨h1, h4, .refl _, rfl⟩
  have rule := called_rule (named_rule h1 h4) (by rw [N0.lenT]; exact po) c
  have lT : T.length = v * v := by rw [c.1, N0.lenT]
  have lo := perm_len po
  have lsw := perm_len psw
  have ndo : order.Nodup := po.nodup_iff.mpr (nodup_rangeI _)
  have nds : sw.Nodup := psw.nodup_iff.mpr (nodup_rangeI _)
  have dm : ∀ s : Nat, s < v * v → s / v < v ∧ s % v < v := fun s hs => ⟨Nat.div_lt_of_lt_mul hs, Nat.mod_lt _ h1⟩
  have find : ∀ a : Nat, a < v * v → ∃ s : Nat, s < v * v ∧ order[s]? = some (a : Int) := fun a ha => by
    obtain ⟨s, hs⟩ := List.mem_iff_getElem?.mp (po.mem_iff.mpr (mem_rangeI.mpr ⟨(by omega : (0 : Int) ≤ (a : Int)), (by omega)⟩))
    exact ⟨s, by have := (List.getElem?_eq_some_iff.mp hs).1; omega, hs⟩
  have bd : ∀ q ∈ ps, (0 ≤ q.1 ∧ q.1 < (v : Int)) ∧ 0 ≤ q.2 ∧ q.2 < (v : Int) := fun q hq => by
    obtain ⟨a, ha⟩ := List.mem_iff_getElem?.mp hq
    have al := (List.getElem?_eq_some_iff.mp ha).1
    obtain ⟨s, hs, ho⟩ := find a (by omega)
    have z := hp s a ho
    rw [Int.toNat_natCast, ha] at z
    cases z
    have d := dm s hs
    exact ⟨perm_in psw (Int.natCast_nonneg _) (by omega), perm_in psw (Int.natCast_nonneg _) (by omega)⟩
  refine ⟨(shows_iff (v := v) rule lT.symm (by rw [List.length_map, lp, lT]) ?_).mpr fun a b => ?_, rule, bd⟩
  · rw [List.all_eq_true]
    intro d hd
    obtain ⟨q, hq, rfl⟩ := List.mem_map.mp hd
    have z := bd q hq
    show ((decide (0 ≤ q.1) && decide (q.1 < (v : Int))) && (decide (0 ≤ q.2) && decide (q.2 < (v : Int)))) = true
    rw [decide_eq_true z.1.1, decide_eq_true z.1.2, decide_eq_true z.2.1, decide_eq_true z.2.2]
    rfl
  · rw [toP_pr]
    intro qa qb ha hb
    have al := (List.getElem?_eq_some_iff.mp ha).1
    have bl := (List.getElem?_eq_some_iff.mp hb).1
    obtain ⟨s, hs, hos⟩ := find a (by omega)
    obtain ⟨t, ht, hot⟩ := find b (by omega)
    have za := hp s a hos
    have zb := hp t b hot
    rw [Int.toNat_natCast] at za zb
    rw [ha] at za
    rw [hb] at zb
    have ds := dm s hs
    have dt := dm t ht
    have inj : ∀ x y : Nat, x < v → y < v → at_ sw (x : Int) = at_ sw (y : Int) → x = y := fun x y hx hy e => by
      have := at_inj nds (x := (x : Int)) (y := (y : Int)) (by omega) (by omega) (by omega) (by omega) e
      omega
    have e1 := Option.some.inj za
    have e2 := Option.some.inj zb
    refine ⟨fun ne e => ne ?_, ?_⟩
    · rw [e1, e2] at e
      have f1 := inj _ _ ds.1 dt.1 (congrArg Prod.fst e)
      have f2 := inj _ _ ds.2 dt.2 (congrArg Prod.snd e)
      have st : s = t := by
        have a1 := Nat.div_add_mod s v
        have a2 := Nat.div_add_mod t v
        rw [f1, f2] at a1
        omega
      subst st
      rw [hos] at hot
      have := Option.some.inj hot
      omega
    · have hrow := ofPrs_at (prs_at h1 h4 hs)
      obtain ⟨r', e', rc⟩ := c.2 s _ a hrow hos
      rw [Int.toNat_natCast] at e'
      rw [List.getD_eq_getElem?_getD, e', e1, e2]
      show (b : Int) ∈ r' ↔ at_ sw ((t / v : Nat) : Int) = at_ sw ((s % v : Nat) : Int)
      have key := in_rowTo (m := ((s % v : Nat) : Int)) (prs_at h1 h4 ht)
      rw [rc.1.mem_iff, List.mem_map]
      refine ⟨fun ⟨y, hy, ey⟩ => ?_, fun e => ⟨(t : Int), ?_, at_nat hot⟩⟩
      · have lpr : (prsTo v v).length = v * v := prsTo_length v v
        obtain ⟨i, hi, hq, rfl⟩ := mem_rowTo.mp hy
        have hoi : order[i]? = some (order[i]'(by omega)) := List.getElem?_eq_getElem (by omega)
        rw [at_nat hoi] at ey
        rw [ey] at hoi
        have it : i = t := (List.getElem?_inj (by omega) ndo).mp (hoi.trans hot.symm)
        subst it
        have z : ((i / v : Nat) : Int) = ((s % v : Nat) : Int) := key.mp hy
        rw [z]
      · refine key.mpr ?_
        show ((t / v : Nat) : Int) = ((s % v : Nat) : Int)
        rw [inj _ _ dt.1 ds.2 e]
theorem gather {F : Addr → Int × Int → Prop} {G : Nat → Int × Int → Prop} : ∀ (xs : List V) (k : Nat), (∀ (j : Nat) (x : V), xs[j]? = some x → ∃ c q, x = .ref c ∧ F c q ∧ G (k + j) q) →
    ∃ (rs : List Addr) (ps : List (Int × Int)), xs = rs.map V.ref ∧ Paired F rs ps ∧ ∀ (j : Nat) (q : Int × Int), ps[j]? = some q → G (k + j) q
  | [], k, _ => ⟨[], [], rfl, .nil, fun j q h => by simp at h⟩
  | x :: xs, k, h => by
    obtain ⟨c, q, rfl, hf, hg⟩ := h 0 x rfl
    obtain ⟨rs, ps, e, hp, hG⟩ := gather (F := F) (G := G) xs (k + 1) fun j y hy => by
      obtain ⟨c, q, e, f, g⟩ := h (j + 1) y (by simpa using hy)
      exact ⟨c, q, e, f, by rw [show k + 1 + j = k + (j + 1) by omega]; exact g⟩
    refine ⟨c :: rs, q :: ps, by rw [e]; rfl, .cons hf hp, fun j q' hq => ?_⟩
    cases j with
    | zero =>
      cases hq
      exact hg
    | succ j =>
      have z := hG j q' (by simpa using hq)
      rw [show k + 1 + j = k + (j + 1) by omega] at z
      exact z
/-! sLPairs -/
abbrev nLPairs : List Str := ["_law_values", "_law_order", "_law_swap", "_law_found", "_law_at", "_law_mark"]
theorem fdivN (a n : Nat) : ((a : Int)).fdiv (n : Int) = ((a / n : Nat) : Int) := by
  rw [Int.fdiv_eq_ediv_of_nonneg _ (Int.natCast_nonneg n)]
  norm_cast
theorem modN (a n : Nat) : (a : Int) % (n : Int) = ((a % n : Nat) : Int) := by norm_cast
section
variable {P : Program} {w : World} {K : PySem.W.Frag} {mg : Str → Option Value} {base : Heap}
def spLPairs (K : PySem.W.Frag) : Sp := fun vs H Q _ => ∃ (v : Nat) (o s : Addr) (order sw : List Int), vs = [.int v, .ref o, .ref s] ∧ 1 ≤ v ∧ v ≤ 4 ∧ H o = some (.lst (order.map V.int)) ∧ H s = some (.lst (sw.map V.int)) ∧ order.Perm (rangeI (v * v)) ∧ sw.Perm (rangeI v) ∧
  ∀ (a : Addr) (rs : List Addr) (ps : List (Int × Int)) (H' : Hp), H a = none → Same H H' → H' a = some (.tup (rs.map V.ref)) → PR H' rs ps → ps.length = v * v →
    (∀ (s : Nat) (j : Int), order[s]? = some j → ps[j.toNat]? = some (at_ sw ((s / v : Nat) : Int), at_ sw ((s % v : Nat) : Int))) → Q (.ref a) H'
/-! ### asked -/
theorem reprAny {X : Cx} (gu : X.A.guards = some []) (hu : X.A.units + 64 < cLine) (hK : X.K = K := by rfl) :
    CallR X (.builtin "repr") (fun xs H Q => ∃ v d, xs = [v] ∧ AnyD K H v d ∧ Q (.str d.shown) H) := by
  intro pins s σ H xs us Q I r h
  obtain ⟨v, d, rfl, h, q⟩ := h
  rcases h with ⟨h1, h2⟩ | ⟨a, rfl, h1, rfl⟩
  · have z := shA h2
    exact reprA (K := K) gu hu hK pins s σ H [v] us Q I r ⟨v, d, rfl, h1, z.a, z.b, z.c, z.d, q⟩
  · exact reprD (K := K) gu hu hK pins s σ H [.ref a] us Q I r ⟨a, rfl, h1, q⟩
/-! sAsked -/
abbrev nAsked : List Str := ["_law_table_here", "_law_thing", "_law_kept", "_law_due"]
def spAsked (K : PySem.W.Frag) : Sp := fun vs H Q _ => ∃ (p : Addr) (v : V) (T : List (List Int)) (d : PyData), vs = [.ref p, v] ∧ Tbl H p T ∧ IsRule T ∧ AnyD K H v d ∧ ∀ H', Same H H' → Q (.bl true) H'
end
end Nm

namespace GL
open PySem PySem.Spec PyProof.Rows L2
theorem catAK {X : Cx} {K : PySem.W.Frag} (hK : X.K = K := by rfl) : OpR X (binaryOp .Add) (rCatA K) := by
  subst hK
  exact op_catA
theorem anyK {X : Cx} {K : PySem.W.Frag} (hc : X.calm = true) (hK : X.K = K := by rfl) : CallR X (.builtin "any") (rAny K) := by
  subst hK
  exact cr_any hc
end GL
namespace Nm
open PySem PySem.Spec PyProof.Rows L2 GL
abbrev sTried : Stmt := topS 22
abbrev nTried : List Str := ["_law_table_here", "_law_found", "_law_turn", "_law_longer", "_law_some_here", "_law_pair"]
theorem scTried : FnScope nTried ["_law_table_here"] (defScope sTried) := ⟨rfl, rfl, rfl, by decide +kernel, rfl, by decide +kernel, by decide +kernel⟩
/-! ### the 24 ways -/
def four : List (Int × Int) := [(0, 0), (0, 1), (1, 0), (1, 1)]
def ext (fs x : List (Int × Int)) : List (List (Int × Int)) := (fs.filter fun q => decide (q ∉ x)).map fun q => x ++ [q]
def fk : Nat → List (List (Int × Int))
  | 0 => [[]]
  | k + 1 => (fk k).flatMap (ext four)
theorem ext_len (fs x : List (Int × Int)) : (ext fs x).length ≤ fs.length := by
  unfold ext
  rw [List.length_map]
  exact List.length_filter_le _ _
theorem mem_ext {x y : List (Int × Int)} : y ∈ ext four x ↔ ∃ q ∈ four, q ∉ x ∧ y = x ++ [q] := by
  unfold ext
  rw [List.mem_map]
  refine ⟨fun ⟨q, hq, e⟩ => ?_, fun ⟨q, h1, h2, e⟩ => ⟨q, List.mem_filter.mpr ⟨h1, decide_eq_true h2⟩, e.symm⟩⟩
  have z := List.mem_filter.mp hq
  exact ⟨q, z.1, of_decide_eq_true z.2, e.symm⟩
theorem mem_fk : ∀ {k : Nat} {x : List (Int × Int)}, x ∈ fk k ↔ x.length = k ∧ x.Nodup ∧ ∀ q ∈ x, q ∈ four
  | 0, x => by
    show x ∈ [[]] ↔ _
    rw [List.mem_singleton]
    refine ⟨fun e => by rw [e]; exact ⟨rfl, List.nodup_nil, fun q hq => by cases hq⟩, fun h => List.length_eq_zero_iff.mp h.1⟩
  | k + 1, x => by
    show x ∈ (fk k).flatMap (ext four) ↔ _
    rw [List.mem_flatMap]
    refine ⟨fun ⟨y, hy, hx⟩ => ?_, fun ⟨hl, nd, hm⟩ => ?_⟩
    · obtain ⟨q, h1, h2, rfl⟩ := mem_ext.mp hx
      obtain ⟨l, n, m⟩ := mem_fk.mp hy
      refine ⟨by rw [List.length_append, l]; rfl, ?_, fun z hz => ?_⟩
      · refine List.nodup_append.mpr ⟨n, by simp, fun a ha b hb e => ?_⟩
        rw [List.mem_singleton.mp hb] at e
        exact h2 (e ▸ ha)
      · rcases List.mem_append.mp hz with h | h
        · exact m z h
        · rw [List.mem_singleton.mp h]
          exact h1
    · rcases List.eq_nil_or_concat x with e | ⟨y, q, e⟩
      · rw [e] at hl
        cases hl
      · rw [List.concat_eq_append] at e
        subst e
        have n := List.nodup_append.mp nd
        refine ⟨y, mem_fk.mpr ⟨by simpa using hl, n.1, fun z hz => hm z (List.mem_append_left _ hz)⟩, mem_ext.mpr ⟨q, hm q (by simp), fun hq => ?_, rfl⟩⟩
        exact n.2.2 q hq q (by simp) rfl
theorem fk_len : ∀ k, (fk k).length ≤ 4 ^ k
  | 0 => Nat.le_refl _
  | k + 1 => by
    have ih := fk_len k
    have each : ∀ ls : List (List (Int × Int)), (ls.flatMap (ext four)).length ≤ 4 * ls.length := by
      intro ls
      induction ls with
      | nil => simp
      | cons l ls ih =>
        have h1 : (ext four l).length ≤ 4 := ext_len four l
        rw [List.flatMap_cons, List.length_append, List.length_cons]
        omega
    have := each (fk k)
    show ((fk k).flatMap (ext four)).length ≤ 4 ^ (k + 1)
    rw [Nat.pow_succ]
    omega
theorem shapedPrs (x : List (Int × Int)) : SeqAt.shaped (.tuple (x.map prD)) = true := by
  have e : PyData.tuple (x.map prD) = tblD (x.map fun q => [q.1, q.2]) := by
    unfold tblD
    rw [List.map_map]
    rfl
  rw [e]
  exact shapedTbl _
theorem any_prs (x : List (Int × Int)) (q : Int × Int) : ((x.map prD).any fun z => PyData.eqv z (prD q)) = decide (q ∈ x) := by
  rw [Bool.eq_iff_iff, List.any_eq_true, decide_eq_true_eq]
  refine ⟨fun ⟨z, hz, e⟩ => ?_, fun h => ⟨prD q, List.mem_map_of_mem h, by rw [eqv_pr]; exact decide_eq_true rfl⟩⟩
  obtain ⟨y, hy, rfl⟩ := List.mem_map.mp hz
  rw [eqv_pr] at e
  rw [← of_decide_eq_true e]
  exact hy
theorem fit_prs {x : List (Int × Int)} (l : x.length ≤ 16) (h : ∀ q ∈ x, (0 ≤ q.1 ∧ q.1 < 16) ∧ 0 ≤ q.2 ∧ q.2 < 16) : Fit 3 (.tuple (x.map prD)) := by
  unfold Fit
  refine ⟨by rw [List.length_map]; omega, fun d hd => ?_⟩
  obtain ⟨q, hq, rfl⟩ := List.mem_map.mp hd
  have := h q hq
  unfold prD Fit
  refine ⟨by show 2 ≤ 40; decide, fun y hy => ?_⟩
  simp only [List.mem_cons, List.not_mem_nil, or_false] at hy
  rcases hy with rfl | rfl
  · unfold Fit
    omega
  · unfold Fit
    omega
theorem four_bd {q : Int × Int} (h : q ∈ four) : (0 ≤ q.1 ∧ q.1 < 2) ∧ 0 ≤ q.2 ∧ q.2 < 2 := by
  unfold four at h
  simp only [List.mem_cons, List.not_mem_nil, or_false] at h
  rcases h with rfl | rfl | rfl | rfl <;> decide
theorem tried_iff {T : List (List Int)} (rule : IsRule T) (l4 : T.length = 4) : (∃ x ∈ fk 4, ShowsP T (.tuple (x.map prD))) ↔ Named T := by
  refine ⟨fun ⟨x, _, h⟩ => shows_named rule h, fun ⟨v, ps, N⟩ => ?_⟩
  have lT := N.lenT
  have v2 : v = 2 := sq_inj (by omega)
  subst v2
  refine ⟨ps, mem_fk.mpr ⟨by rw [N.len], N.nd, fun q hq => ?_⟩, 2, ps.map prD, rfl, by omega, ?_, by rw [toP_pr]; exact N.nd, by rw [toP_pr]; exact N.eq.symm⟩
  · have z := N.pm.mem_iff.mp hq
    have e : prsTo 2 2 = four := by decide +kernel
    rw [e] at z
    exact z
  · rw [List.all_eq_true]
    intro d hd
    obtain ⟨q, hq, rfl⟩ := List.mem_map.mp hd
    have z := N.bd hq
    show ((decide (0 ≤ q.1) && decide (q.1 < ((2 : Nat) : Int))) && (decide (0 ≤ q.2) && decide (q.2 < ((2 : Nat) : Int)))) = true
    rw [decide_eq_true z.1.1, decide_eq_true z.1.2, decide_eq_true z.2.1, decide_eq_true z.2.2]
    rfl
/-- a tuple of pairs -/
def TP (H : Hp) (a : Addr) (x : List (Int × Int)) : Prop := ∃ rs : List Addr, H a = some (.tup (rs.map V.ref)) ∧ PR H rs x
theorem TP.kt {H H' : Hp} {a : Addr} {x : List (Int × Int)} (h : TP H a x) (k : KT H H') : TP H' a x := by
  obtain ⟨rs, h1, h2⟩ := h
  exact ⟨rs, k _ _ h1, h2.kt k⟩
def TPs (H : Hp) (as : List Addr) (xs : List (List (Int × Int))) : Prop := Paired (TP H) as xs
theorem TPs.kt {H H' : Hp} {as : List Addr} {xs : List (List (Int × Int))} (h : TPs H as xs) (k : KT H H') : TPs H' as xs := Paired.mapP h fun _ _ e => e.kt k
theorem TP.dp {K : PySem.W.Frag} {H : Hp} {a : Addr} {x : List (Int × Int)} (h : TP H a x) : Dp K H (.ref a) (.tuple (x.map prD)) := by
  obtain ⟨rs, h1, h2⟩ := h
  have all : ∀ (rs : List Addr) (x : List (Int × Int)), PR H rs x → DpAll K H (rs.map V.ref) (x.map prD) := by
    intro rs x h
    induction h with
    | nil => exact .nil
    | cons h t ih => exact .cons (.tup (SqT.of h) (.cons (.int _) (.cons (.int _) .nil))) ih
  exact .tup (SqT.of h1) (all rs x h2)
section
variable {P : Program} {w : World} {K : PySem.W.Frag} {mg : Str → Option Value} {base : Heap}
def spTried (K : PySem.W.Frag) : Sp := fun vs H Q _ => ∃ (p : Addr) (T : List (List Int)), vs = [.ref p] ∧ Tbl H p T ∧ IsRule T ∧ T.length = 4 ∧ ∀ (b : Bool) (H' : Hp), (b = true ↔ Named T) → Same H H' → Q (.bl b) H'
set_option maxHeartbeats 4000000 in
theorem ok_tried {f fN fL : Addr} {fd dN dL : FuncData} {k : Nat} (F : Fun K "_law_tried" "_law_tried" sTried f fd) (FN : Fun K "_law_is_number" "_law_is_number" sIsNum fN dN) (bN : Binds K dN ["_law_thing", "_law_below"] []) (gN : mg "_law_is_number" = some (.ref fN))
    (FL : Fun K "_law_shows" "_law_shows" sLShows fL dL) (bL : Binds K dL ["_law_table_here", "_law_thing"] []) (gL : mg "_law_shows" = some (.ref fL)) (B : LibJ mg) (menum : mg "enumerate" = none) (many : mg "any" = none) :
    FnOk P w K mg base CX0 (k + 3) f fd ["_law_table_here"] (spTried K) := by
  have GL : FnOk P w K mg base CX0 (k + 2) fL dL ["_law_table_here", "_law_thing"] (spLShows K) := ok_lshows FL FN bN gN B menum
  refine F.ok scTried (fun vs H Q E h => ?_) (fun cdv A outer s H vs Q E hr h => ?_)
  · obtain ⟨p, T, rfl, _⟩ := h
    rfl
  · obtain ⟨p, T, rfl, hT, rule, l4, q⟩ := h
    have hu65 : A.units + 3 + 65 < cLine := by have := hr.un; simp at this; omega
    refine ⟨_, pss_cons (ps_set (i := 1) scTried.nd rfl (.inl rfl) (pe_lst (pa_cons (pe_tup pa_nil) pa_nil)))
      (pss_cons (ps_for PassesOwn.never rfl (pi_range1 (by rfl) B.range (pa_cons pe_int pa_nil)) (pg_name (i := 2) scTried.nd rfl (.inl rfl))
        (pss_cons (ps_set (i := 3) scTried.nd rfl (.inl rfl) (pe_lst pa_nil))
        (pss_cons (ps_for PassesOwn.never rfl (piLstK (K := K) (pv 1)) (pg_name (i := 4) scTried.nd rfl (.inr rfl))
          (pss_one (ps_expr (pe_bm PySem.F.plainAttrs_list PySem.F.slot_list_extend PySem.F.type_list_extend mt_extend (pv 3) (pa_cons
            (pe_lc (own := [("_law_pair", 5)]) (g := gName 5) (by rfl) scTried.nd (piTupK (K := K) (pe_tup (pa_cons (pe_tup (pa_cons pe_int (pa_cons pe_int pa_nil))) (pa_cons (pe_tup (pa_cons pe_int (pa_cons pe_int pa_nil))) (pa_cons (pe_tup (pa_cons pe_int (pa_cons pe_int pa_nil))) (pa_cons (pe_tup (pa_cons pe_int (pa_cons pe_int pa_nil))) pa_nil))))))
              (blkOk_by (own := [("_law_pair", 5)]) (N := nTried) (sc := defScope sTried) (by decide +kernel))
              (fun _ _ _ _ _ => pg_name (i := 5) scTried.nd rfl (Or.inl rfl))
              (fun _ _ _ _ _ => pts_one (pt_cmpR (op_notInT (K := K) hu65) (pv 5) (pv 4) (by rfl)))
              (fun _ _ _ _ _ => pe_op (catAK (K := K)) (pv 4) (pe_tup (pa_cons (pv 5) pa_nil)))) pa_nil)))))
        (pss_one (ps_set (i := 1) scTried.nd rfl (.inl rfl) (pv 3))))))
      (pss_one (ps_ret (pe_callB (anyK (K := K) rfl) (by rfl) many (by decide +kernel) (pa_cons
        (pe_lc (own := [("_law_some_here", 4)]) (g := gName 4) (by rfl) scTried.nd (piLstK (K := K) (pv 1))
          (blkOk_by (own := [("_law_some_here", 4)]) (N := nTried) (sc := defScope sTried) (by decide +kernel))
          (fun _ _ _ _ _ => pg_name (i := 4) scTried.nd rfl (Or.inl rfl)) (fun _ _ _ _ _ => pts_nil)
          (fun _ _ _ _ _ => pe_call GL hr (by rfl) gL FL.kp bL .nil pass0 (pa_cons (pv 0) (pa_cons (pv 4) pa_nil)))) pa_nil))))), ?_⟩
    refine ⟨Nat.zero_le _, fun e0 n0 => ⟨by show 1 ≤ sizeLine; decide, fun L0 nL0 => ?_⟩⟩
    have s0 := (same_upd (o := .tup []) n0).trans (same_upd (H := upd H e0 (.tup [])) (o := .lst [.ref e0]) nL0)
    have he0 : upd (upd H e0 (.tup [])) L0 (.lst [.ref e0]) e0 = some (.tup []) := by
      rw [upd_ne (ne_of_none upd_same nL0)]
      exact upd_same
    have hL0 : upd (upd H e0 (.tup [])) L0 (.lst [.ref e0]) L0 = some (.lst [.ref e0]) := upd_same
    generalize upd (upd H e0 (.tup [])) L0 (.lst [.ref e0]) = H0 at s0 he0 hL0 ⊢
    refine ⟨4, rfl, by decide, by decide, for_range (lo := 0) (n := 4) (fun i σ H' => ∃ (L : Addr) (as : List Addr) (y2 y3 y4 y5 : Option V), σ = [some (.ref p), some (.ref L), y2, y3, y4, y5] ∧ H' L = some (.lst (as.map V.ref)) ∧ TPs H' as (fk i) ∧ Same H H')
      ⟨L0, [e0], none, none, none, none, rfl, hL0, .cons ⟨[], he0, .nil⟩ .nil, s0⟩ ?_ ?_⟩
    · rintro i σ H1 hi ⟨L, as, y2, y3, y4, y5, rfl, hL, hA, s1⟩
      have las : as.length ≤ 256 := by
        rw [Paired.length hA]
        refine Nat.le_trans (fk_len i) ?_
        obtain rfl | rfl | rfl | rfl : i = 0 ∨ i = 1 ∨ i = 2 ∨ i = 3 := by omega
        all_goals decide
      refine ⟨Nat.zero_le _, fun L3 n3 => ?_⟩
      have sL3 := same_upd (o := .lst []) n3
      have nLL : L ≠ L3 := ne_of_none hL n3
      refine ⟨.ref L, rfl, L, rfl, ⟨_, SqL.of (sL3 _ _ hL)⟩, for_it (walk_list (K := K) (a := L) (xs := as.map V.ref)) (fun j σ H' => ∃ (bs : List Addr) (y4 y5 : Option V), σ = [some (.ref p), some (.ref L), some (.int (0 + i)), some (.ref L3), y4, y5] ∧ H' L = some (.lst (as.map V.ref)) ∧
          H' L3 = some (.lst (bs.map V.ref)) ∧ bs.length ≤ 4 * j ∧ TPs H' bs (((fk i).take j).flatMap (ext four)) ∧ TPs H' as (fk i) ∧ Same H H')
        ⟨[], _, _, rfl, sL3 _ _ hL, upd_same, Nat.le_refl _, .nil, hA.kt (.of sL3), s1.trans sL3⟩ (fun j σ H' _ h => ?_) ?_ ?_⟩
      · obtain ⟨_, _, _, _, hL', _⟩ := h
        exact SqL.of hL'
      · rintro j x σ H2 H2' hj ⟨bs, y4, y5, rfl, hL2, hL32, lbs, hB, hA2, s2⟩ ⟨rfl, hx⟩
        obtain ⟨a, ha, rfl⟩ := ref_at hx
        obtain ⟨z, hz, tz⟩ := paired_get hA2 ha
        have jl : j < 256 := by
          have := (List.getElem?_eq_some_iff.mp ha).1
          omega
        have lz : z.length ≤ 4 := by
          have := (mem_fk.mp (List.mem_of_getElem? hz)).1
          omega
        refine ⟨.ref L3, rfl, .inl ⟨rfl, _, SqL.of hL32⟩, by show 2 ≤ sizeLine; decide, fun t1 m1 => ⟨by show 2 ≤ sizeLine; decide, fun t2 m2 => ⟨by show 2 ≤ sizeLine; decide, fun t3 m3 => ⟨by show 2 ≤ sizeLine; decide, fun t4 m4 => ⟨by show 4 ≤ sizeLine; decide, fun t5 m5 => ?_⟩⟩⟩⟩⟩
        have u1 := same_upd (o := .tup [.int 0, .int 0]) m1
        have u2 := same_upd (H := upd H2' t1 (.tup [.int 0, .int 0])) (o := .tup [.int 0, .int 1]) m2
        have u3 := same_upd (H := upd (upd H2' t1 (.tup [.int 0, .int 0])) t2 (.tup [.int 0, .int 1])) (o := .tup [.int 1, .int 0]) m3
        have u4 := same_upd (H := upd (upd (upd H2' t1 (.tup [.int 0, .int 0])) t2 (.tup [.int 0, .int 1])) t3 (.tup [.int 1, .int 0])) (o := .tup [.int 1, .int 1]) m4
        have u5 := same_upd (H := upd (upd (upd (upd H2' t1 (.tup [.int 0, .int 0])) t2 (.tup [.int 0, .int 1])) t3 (.tup [.int 1, .int 0])) t4 (.tup [.int 1, .int 1])) (o := .tup [.ref t1, .ref t2, .ref t3, .ref t4]) m5
        have uA := u1.trans (u2.trans (u3.trans (u4.trans u5)))
        have p1 := (u2.trans (u3.trans (u4.trans u5))) _ _ (upd_same (H := H2') (a := t1) (o := .tup [.int 0, .int 0]))
        have p2 := (u3.trans (u4.trans u5)) _ _ (upd_same (H := upd H2' t1 (.tup [.int 0, .int 0])) (a := t2) (o := .tup [.int 0, .int 1]))
        have p3 := (u4.trans u5) _ _ (upd_same (H := upd (upd H2' t1 (.tup [.int 0, .int 0])) t2 (.tup [.int 0, .int 1])) (a := t3) (o := .tup [.int 1, .int 0]))
        have p4 := u5 _ _ (upd_same (H := upd (upd (upd H2' t1 (.tup [.int 0, .int 0])) t2 (.tup [.int 0, .int 1])) t3 (.tup [.int 1, .int 0])) (a := t4) (o := .tup [.int 1, .int 1]))
        have p5 := upd_same (H := upd (upd (upd (upd H2' t1 (.tup [.int 0, .int 0])) t2 (.tup [.int 0, .int 1])) t3 (.tup [.int 1, .int 0])) t4 (.tup [.int 1, .int 1])) (a := t5) (o := .tup [.ref t1, .ref t2, .ref t3, .ref t4])
        generalize upd (upd (upd (upd (upd H2' t1 (.tup [.int 0, .int 0])) t2 (.tup [.int 0, .int 1])) t3 (.tup [.int 1, .int 0])) t4 (.tup [.int 1, .int 1])) t5 (.tup [.ref t1, .ref t2, .ref t3, .ref t4]) = H3 at uA p1 p2 p3 p4 p5 ⊢
        clear u1 u2 u3 u4 u5 m1 m2 m3 m4 m5
        have hF : PR H3 [t1, t2, t3, t4] four := .cons p1 (.cons p2 (.cons p3 (.cons p4 .nil)))
        have tz3 := tz.kt (.of uA)
        refine ⟨t5, rfl, ⟨_, SqT.of p5⟩, fun D nD => ?_⟩
        have sD := same_upd (o := .lst []) nD
        refine lc_tup (K := K) (a := t5) (xs := [t1, t2, t3, t4].map V.ref) (fun m H4 => ∃ cs : List Addr, H4 D = some (.lst (cs.map V.ref)) ∧ TPs H4 cs (ext (four.take m) z) ∧ cs.length ≤ m ∧ Same H3 H4) ⟨[], upd_same, .nil, Nat.le_refl _, sD⟩ (fun m H4 _ h => ?_) ?_ ?_
        · obtain ⟨_, _, _, _, s4⟩ := h
          exact SqT.of (s4 _ _ p5)
        · rintro m y H4 hy ⟨cs, hD, hC, lc, s4⟩
          obtain ⟨c, hc, rfl⟩ := ref_at hy
          obtain ⟨qc, hqc, hcell⟩ := paired_get hF hc
          have m4 : m < 4 := (List.getElem?_eq_some_iff.mp hc).1
          have hcell4 := s4 _ _ hcell
          have tz4 := tz3.kt (.of s4)
          have tk : four.take (m + 1) = four.take m ++ [qc] := by rw [List.take_add_one, hqc]; rfl
          refine ⟨rfl, .ref c, rfl, .ref a, rfl, prD qc, z.map prD, dp_pr (SqT.of hcell4), tz4.dp, shaped_pr qc, shapedPrs z, _, rfl, ?_⟩
          rw [any_prs]
          by_cases hin : qc ∈ z
          · rw [decide_eq_true hin]
            refine iteF ⟨cs, hD, ?_, by omega, s4⟩
            have e : ext (four.take (m + 1)) z = ext (four.take m) z := by
              unfold ext
              rw [tk, List.filter_append, List.map_append]
              simp [hin]
            rw [e]
            exact hC
          · rw [decide_eq_false hin]
            have e : ext (four.take (m + 1)) z = ext (four.take m) z ++ [z ++ [qc]] := by
              unfold ext
              rw [tk, List.filter_append, List.map_append]
              simp [hin]
            obtain ⟨rz, hz1, hz2⟩ := tz4
            have lrz : rz.length = z.length := Paired.length hz2
            refine iteT ⟨.ref a, rfl, .ref c, rfl, by show 1 ≤ sizeLine; decide, fun u nu => ?_⟩
            have su := same_upd (o := .tup [.ref c]) nu
            have hu1 : upd H4 u (.tup [.ref c]) u = some (.tup [.ref c]) := upd_same
            have hDu := su _ _ hD
            have hCu := hC.kt (.of su)
            have s4u := s4.trans su
            have hzu := su _ _ hz1
            have hzp := hz2.same su
            have hcu := su _ _ hcell4
            generalize upd H4 u (.tup [.ref c]) = H5 at su hu1 hDu hCu s4u hzu hzp hcu ⊢
            -- what is put into the list
            have fin : ∀ (t : Addr) (H6 : Hp), Same H5 H6 → TP H6 t (z ++ [qc]) → ∃ acc, H6 D = some (.lst acc) ∧ acc.length < sizeLine ∧ ∃ cs : List Addr, upd H6 D (.lst (acc ++ [.ref t])) D = some (.lst (cs.map V.ref)) ∧ TPs (upd H6 D (.lst (acc ++ [.ref t]))) cs (ext (four.take (m + 1)) z) ∧ cs.length ≤ m + 1 ∧ Same H3 (upd H6 D (.lst (acc ++ [.ref t]))) := by
              intro t H6 s6 ht
              have hD6 := s6 _ _ hDu
              refine ⟨_, hD6, by rw [List.length_map]; exact lenLine (by omega), cs ++ [t], ?_, ?_, by rw [List.length_append]; simp; omega, ?_⟩
              · rw [upd_same, List.map_append]
                rfl
              · rw [e]
                exact (show TPs H6 (cs ++ [t]) _ from paired_append (hCu.kt (.of s6)) (.cons ht .nil)).kt (KT.lst hD6)
              · intro b o hb
                rw [upd_ne (ne_of_none hb nD)]
                exact s6 _ _ (s4u _ _ hb)
            refine ⟨a, u, rz.map V.ref, [.ref c], rfl, rfl, SqT.of hzu, SqT.of hu1, Nat.le_of_lt (lenLine (by rw [List.length_map]; show rz.length + 1 < 1000001; omega)), fun e1 => ?_, fun _ e1 => ?_, fun _ _ t nt => ?_⟩
            · have ez : rz = [] := by
                cases rz with
                | nil => rfl
                | cons _ _ => cases e1
              rw [ez] at lrz
              have z0 : z = [] := List.length_eq_zero_iff.mp (by simpa using lrz.symm)
              refine fin u H5 (Same.refl _) ⟨[c], hu1, ?_⟩
              rw [z0]
              exact .cons hcu .nil
            · cases e1
            · have st := same_upd (o := .tup (rz.map V.ref ++ [.ref c])) nt
              refine fin t _ st ⟨rz ++ [c], by rw [upd_same, List.map_append]; rfl, ?_⟩
              exact PR.same (paired_append hzp (.cons hcu .nil)) st
        · rintro H4 ⟨cs, hD, hC, lc, s4⟩
          have s24 := uA.trans s4
          have hL34 := s24 _ _ hL32
          refine ⟨L3, D, _, _, rfl, rfl, hL34, hD, Nat.le_of_lt (lenLine (by simp at lc ⊢; omega)), bs ++ cs, _, _, rfl, ?_, ?_, by rw [List.length_append]; simp at lc; omega, ?_, ?_, ?_⟩
          · rw [upd_ne nLL]
            exact s24 _ _ hL2
          · rw [upd_same, List.map_append]
          · have e : ((fk i).take (j + 1)).flatMap (ext four) = ((fk i).take j).flatMap (ext four) ++ ext four z := by
              rw [List.take_add_one, hz, List.flatMap_append]
              simp
            rw [e]
            have hC' : TPs H4 cs (ext four z) := hC
            exact (show TPs H4 (bs ++ cs) _ from paired_append (hB.kt (.of s24)) hC').kt (KT.lst hL34)
          · exact (hA2.kt (.of s24)).kt (KT.lst hL34)
          · intro b o hb
            rw [upd_ne (ne_of_none hb (s1.free n3))]
            exact s24 _ _ (s2 _ _ hb)
      · rintro σ H2 ⟨bs, y4, y5, rfl, hL2, hL32, lbs, hB, hA2, s2⟩
        rw [List.length_map, show as.length = (fk i).length from Paired.length hA, List.take_length] at hB
        exact ⟨.ref L3, rfl, L3, bs, _, _, _, _, rfl, hL32, hB, s2⟩
    · rintro σ H1 ⟨L, as, y2, y3, y4, y5, rfl, hL, hA, s1⟩
      have hT1 := hT.same s1
      have las : as.length = (fk 4).length := Paired.length hA
      have l24 := fk_len 4
      have l256 : (4 : Nat) ^ 4 = 256 := by decide
      refine ⟨.ref L, rfl, L, rfl, ⟨_, SqL.of hL⟩, fun D nD => ?_⟩
      have sD := same_upd (o := .lst []) nD
      refine lc_list (K := K) (a := L) (xs := as.map V.ref) (fun m H2 => ∃ bs : List Bool, H2 D = some (.lst (bs.map V.bl)) ∧ Paired (fun (b : Bool) (x : List (Int × Int)) => b = true ↔ ShowsP T (.tuple (x.map prD))) bs ((fk 4).take m) ∧ bs.length = m ∧ Same H1 H2) ⟨[], upd_same, .nil, rfl, sD⟩ (fun m H2 _ h => ?_) ?_ ?_
      · obtain ⟨_, _, _, _, s2⟩ := h
        exact SqL.of (s2 _ _ hL)
      · rintro m x H2 hx ⟨bs, hD, hB, lb, s2⟩
        obtain ⟨a, ha, rfl⟩ := ref_at hx
        obtain ⟨z, hz, tz⟩ := paired_get hA ha
        have zm := mem_fk.mp (List.mem_of_getElem? hz)
        have ml := (List.getElem?_eq_some_iff.mp ha).1
        have tz2 := tz.kt (.of s2)
        refine ⟨rfl, yesI ⟨.ref p, rfl, .ref a, rfl, p, .ref a, T, _, rfl, hT1.same s2, rule, .inl ⟨tz2.dp, fit_prs (by omega) fun q hq => ?_⟩, fun b H3 hb s3 => ⟨_, s3 _ _ hD, ?_, bs ++ [b], ?_, ?_, ?_, ?_⟩⟩⟩
        · have := four_bd (zm.2.2 q hq)
          omega
        · rw [List.length_map]
          exact lenLine (by omega)
        · rw [upd_same, List.map_append]
          rfl
        · rw [List.take_add_one, hz]
          exact paired_append hB (.cons hb .nil)
        · rw [List.length_append, lb]
          rfl
        · intro b' o hb'
          rw [upd_ne (ne_of_none hb' nD)]
          exact s3 _ _ (s2 _ _ hb')
      · rintro H2 ⟨bs, hD, hB, lb, s2⟩
        rw [List.length_map, las, List.take_length] at hB
        refine ⟨D, bs, rfl, SqL.of hD, q _ H2 ?_ (s1.trans s2)⟩
        rw [← tried_iff rule l4]
        have anyIff : ∀ (bs : List Bool) (xs : List (List (Int × Int))), Paired (fun (b : Bool) (x : List (Int × Int)) => b = true ↔ ShowsP T (.tuple (x.map prD))) bs xs → (bs.any id = true ↔ ∃ x ∈ xs, ShowsP T (.tuple (x.map prD))) := by
          intro bs xs h
          induction h with
          | nil => exact ⟨fun z => (by cases z), fun ⟨x, hx, _⟩ => (by cases hx)⟩
          | @cons b x bs xs h t ih =>
            rw [List.any_cons, Bool.or_eq_true, ih]
            refine ⟨fun z => ?_, fun ⟨y, hy, sy⟩ => ?_⟩
            · rcases z with z | ⟨y, hy, sy⟩
              · exact ⟨x, List.mem_cons_self, h.mp z⟩
              · exact ⟨y, List.mem_cons_of_mem _ hy, sy⟩
            · rcases List.mem_cons.mp hy with e | e
              · exact .inl (h.mpr (e ▸ sy))
              · exact .inr ⟨y, e, sy⟩
        exact anyIff bs _ hB
end
end Nm

namespace Nm
open PySem PySem.Spec PyProof.Rows L2 GL
abbrev sRight : Stmt := topS 24
abbrev sLaw : Stmt := topS 25
theorem scLaw : FnScope ["_law_script", "_law_k"] ["_law_script"] (defScope sLaw) := ⟨rfl, rfl, rfl, by decide +kernel, rfl, by decide +kernel, by decide +kernel⟩
section
variable {P : Program} {w : World} {K : PySem.W.Frag} {mg : Str → Option Value} {base : Heap}
theorem Kp.new {p : Addr} {H H1 H' : Hp} (k : Kp p H1 H') (s : Same H H1) (n : H p = none) : Same H H' := fun b o h => k b o (ne_of_none h n) (s b o h)
def spRight (K : PySem.W.Frag) : Sp := fun vs H Q _ => ∃ (p : Addr), vs = [.ref p] ∧ Pot H p 0 ∧ ∀ H', Kp p H H' → Q (.bl true) H'
def spLaw (K : PySem.W.Frag) : Sp := fun vs H Q _ => ∃ (a : Addr) (ns : List Int), vs = [.ref a] ∧ SqL K H a (ns.map V.int) ∧ ns.length ≤ 63 ∧ ∀ H', Q (.bl true) H'
theorem ok_law {f fR fO : Addr} {fd dR dO : FuncData} {k : Nat} (F : Fun K "law" "law" sLaw f fd) (FR : Fun K "_law_right" "_law_right" sRight fR dR) (bR : Binds K dR ["_law_pot_here"] []) (gR : mg "_law_right" = some (.ref fR))
    (GR : FnG P w K mg base (k + 4) fR dR ["_law_pot_here"] (spRight K)) (FO : Fun K "_law_pot" "_law_pot" sPot fO dO) (bO : Binds K dO ["_law_script", "_law_k"] []) (gO : mg "_law_pot" = some (.ref fO))
    (B : Lib K mg) (mall : mg "all" = none) (mmax : mg "max" = none) (mmin : mg "min" = none) :
    FnG P w K mg base (k + 5) f fd ["_law_script"] (spLaw K) := by
  have GO : FnOk P w K mg base CX0 (k + 4) fO dO ["_law_script", "_law_k"] (spPot K) := ok_pot FO B.len B.abs
  refine funG F scLaw (fun vs H Q E h => ?_) (fun cdv A outer s H vs Q E gu hr h => ?_)
  · obtain ⟨a, ns, rfl, _⟩ := h
    rfl
  · obtain ⟨a, ns, rfl, hS, hlen, q⟩ := h
    refine ⟨_, pss_one (ps_ret (pe_callB (allK (K := K) rfl) (by rfl) mall (by decide +kernel) (pa_cons
      (pe_lc (own := [("_law_k", 1)]) (g := gName 1) (by rfl) scLaw.nd (pi_range1 (by rfl) B.range (pa_cons
          (pe_callB (call_max2 rfl) (by rfl) mmax (by decide +kernel) (pa_cons pe_int (pa_cons
            (pe_callB (call_min2 rfl) (by rfl) mmin (by decide +kernel) (pa_cons pe_int (pa_cons (pe_callB (lenK (K := K)) (by rfl) B.len PySem.boot_len (pa_cons (pv 0) pa_nil)) pa_nil))) pa_nil))) pa_nil))
        (blkOk_by (own := [("_law_k", 1)]) (N := ["_law_script", "_law_k"]) (sc := defScope sLaw) (by decide +kernel))
        (fun _ _ _ _ _ => pg_name (i := 1) scLaw.nd rfl (Or.inl rfl)) (fun _ _ _ _ _ => pts_nil)
        (fun _ _ _ _ _ => callG (E := E0) GR gu hr (by rfl) gR FR.kp bR (pa_cons (pe_call GO hr (by rfl) gO FO.kp bO .nil pass0 (pa_cons (pv 0) (pa_cons (pv 1) pa_nil))) pa_nil))) pa_nil))), ?_⟩
    refine ⟨.ref a, rfl, a, _, rfl, .inl hS, 3, _, rfl, 1, _, rfl, _, rfl, ?_, ?_, fun D nD => ?_⟩
    · split <;> split <;> omega
    · split <;> split <;> omega
    obtain ⟨N, eN, hN⟩ : ∃ N : Nat, (if (if (((ns.map V.int).length : Nat) : Int) < 3 then (((ns.map V.int).length : Nat) : Int) else 3) > 1 then (if (((ns.map V.int).length : Nat) : Int) < 3 then (((ns.map V.int).length : Nat) : Int) else 3) else 1).toNat = N ∧ N ≤ 3 := by
      refine ⟨_, rfl, ?_⟩
      split <;> split <;> omega
    rw [eN]
    have sD := same_upd (o := .lst []) nD
    refine lc_range (lo := 0) (n := N) (fun i H2 => H2 D = some (.lst ((List.replicate i true).map V.bl)) ∧ Same H H2) ⟨upd_same, sD⟩ ?_ ?_
    · rintro i H2 hi ⟨hD, s2⟩
      refine ⟨rfl, yesI ⟨.ref a, rfl, .int (0 + i), rfl, a, ns, 0 + (i : Int), rfl, s2.seq hS, by omega, by omega, fun p H3 np s3 hp => ⟨p, rfl, hp, fun H4 k4 => ?_⟩⟩⟩
      have s4 := Kp.new k4 s3 np
      refine ⟨_, s4 _ _ hD, ?_, ?_, ?_⟩
      · rw [List.length_map, List.length_replicate]
        exact lenLine (by omega)
      · rw [upd_same, List.replicate_succ', List.map_append]
        rfl
      · intro b o hb
        rw [upd_ne (ne_of_none hb nD)]
        exact s4 _ _ (s2 _ _ hb)
    · rintro H2 ⟨hD, hS2⟩
      refine ⟨D, _, rfl, SqL.of hD, ?_⟩
      rw [show (List.replicate N true).all id = true by simp]
      exact q H2
end
end Nm

namespace Nm
open PySem PySem.Spec PyProof.Rows L2 GL
abbrev sTwoEach : Stmt := topS 23
abbrev nTwo : List Str := ["_law_pot_here", "_law_found", "_law_mark"]
theorem scTwo : FnScope nTwo ["_law_pot_here"] (defScope sTwoEach) := ⟨rfl, rfl, rfl, by decide +kernel, rfl, by decide +kernel, by decide +kernel⟩
abbrev nRight : List Str := ["_law_pot_here", "_law_table_here", "_law_told", "_law_due", "_law_turn"]
theorem scRight : FnScope nRight ["_law_pot_here"] (defScope sRight) := ⟨rfl, rfl, rfl, by decide +kernel, rfl, by decide +kernel, by decide +kernel⟩
theorem good2 {x y : Int} (h0 : 0 ≤ x) (h : x < y) (h1 : y < 4) : Good 4 [x, y] := by
  refine ⟨by simp [h], fun z hz => ?_⟩
  simp only [List.mem_cons, List.not_mem_nil, or_false] at hz
  rcases hz with rfl | rfl <;> omega
section
variable {P : Program} {w : World} {K : PySem.W.Frag} {mg : Str → Option Value} {base : Heap}
theorem pot_ne' {H : Hp} {p a : Addr} {n : Nat} (hp : Pot H p n) (h : H a = none) : a ≠ p := fun z => by
  obtain ⟨_, y⟩ := pot_lst hp
  rw [z, y] at h
  cases h
def spTwo (K : PySem.W.Frag) : Sp := fun vs H Q _ => ∃ (p : Addr) (n : Nat), vs = [.ref p] ∧ Pot H p n ∧ n + 10 < 1000000 ∧
  ∀ (o : Addr) (T : List (List Int)) (H' : Hp), Pot H' p (n + 4) → Kp p H H' → Tbl H' o T → IsRule T → Q (.ref o) H'
set_option maxHeartbeats 4000000 in
theorem ok_two {f fP fT : Addr} {fd dP dT : FuncData} {k : Nat} (F : Fun K "_law_two_each" "_law_two_each" sTwoEach f fd) (FP : Fun K "_law_pick" "_law_pick" sPick fP dP) (bP : Binds K dP ["_law_pot_here", "_law_some_here"] []) (gP : mg "_law_pick" = some (.ref fP))
    (FT : Fun K "_law_take" "_law_take" sTake fT dT) (bT : Binds K dT ["_law_pot_here", "_law_size"] []) (gT : mg "_law_take" = some (.ref fT)) (B : LibJ mg) :
    FnOk P w K mg base CX0 (k + 3) f fd ["_law_pot_here"] (spTwo K) := by
  have GP : FnOk P w K mg base CX0 (k + 2) fP dP ["_law_pot_here", "_law_some_here"] (spPick K) := ok_pick FP FT bT gT B.len
  refine F.ok scTwo (fun vs H Q E h => ?_) (fun cdv A outer s H vs Q E hr h => ?_)
  · obtain ⟨p, n, rfl, _⟩ := h
    rfl
  · obtain ⟨p, n, rfl, hp, hn, q⟩ := h
    refine ⟨_, pss_cons (ps_set (i := 1) scTwo.nd rfl (.inl rfl) (pe_lst pa_nil))
      (pss_cons (ps_for PassesOwn.never rfl (pi_range1 (by rfl) B.range (pa_cons pe_int pa_nil)) (pg_name (i := 2) scTwo.nd rfl (.inl rfl))
        (pss_one (ps_expr (pe_bm PySem.F.plainAttrs_list PySem.F.slot_list_append PySem.F.type_list_append mt_append (pv 1) (pa_cons
          (pe_call GP hr (by rfl) gP FP.kp bP .nil pass0 (pa_cons (pv 0) (pa_cons (pe_cut (pe_lst
            (pa_cons (pe_tup (pa_cons pe_int (pa_cons pe_int pa_nil))) (pa_cons (pe_tup (pa_cons pe_int (pa_cons pe_int pa_nil))) (pa_cons (pe_tup (pa_cons pe_int (pa_cons pe_int pa_nil))) (pa_cons (pe_tup (pa_cons pe_int (pa_cons pe_int pa_nil)))
            (pa_cons (pe_tup (pa_cons pe_int (pa_cons pe_int pa_nil))) (pa_cons (pe_tup (pa_cons pe_int (pa_cons pe_int pa_nil))) (pa_cons (pe_tup (pa_cons pe_int (pa_cons pe_int pa_nil))) (pa_cons (pe_tup (pa_cons pe_int (pa_cons pe_int pa_nil))) pa_nil)))))))))) pa_nil))) pa_nil)))))
      (pss_one (ps_ret (pe_callTy (tupOfK (K := K)) (by rfl) B.tuple (by decide +kernel) (pa_cons (pv 1) pa_nil))))), ?_⟩
    refine ⟨Nat.zero_le _, fun L nL => ?_⟩
    have sL := same_upd (o := .lst []) nL
    have nLp := pot_ne' hp nL
    refine ⟨4, rfl, by decide, by decide, for_range (lo := 0) (n := 4) (fun i σ H' => ∃ (ts : List Addr) (T : List (List Int)) (y2 : Option V), σ = [some (.ref p), some (.ref L), y2] ∧ H' L = some (.lst (ts.map V.ref)) ∧ Rows H' ts T ∧ T.length = i ∧ (∀ row ∈ T, Good 4 row) ∧ Pot H' p (n + i) ∧ Kp p H H')
      ⟨[], [], none, rfl, upd_same, .nil, rfl, fun row h => (by cases h), hp.same sL, .of sL⟩ ?_ ?_⟩
    · rintro i σ H1 hi ⟨ts, T, y2, rfl, hL, hR, lT, gd, hp1, kp1⟩
      have lts : ts.length = i := by rw [Paired.length hR, lT]
      refine ⟨.ref L, rfl, .inl ⟨rfl, _, SqL.of hL⟩, .ref p, rfl, ?_⟩
      refine ⟨fun v H2 => ∃ (a : Addr) (xs : List V), v = .ref a ∧ H2 a = some (.lst xs) ∧ xs.length = 8 ∧ (∀ x ∈ xs, ∃ c row, x = .ref c ∧ H2 c = some (.tup (row.map V.int)) ∧ Good 4 row) ∧ a ≠ p ∧ Same H1 H2, ?_, ?_⟩
      · refine ⟨by show 2 ≤ sizeLine; decide, fun a1 m1 => ⟨by show 2 ≤ sizeLine; decide, fun a2 m2 => ⟨by show 2 ≤ sizeLine; decide, fun a3 m3 => ⟨by show 2 ≤ sizeLine; decide, fun a4 m4 => ⟨by show 2 ≤ sizeLine; decide, fun a5 m5 => ⟨by show 2 ≤ sizeLine; decide, fun a6 m6 => ⟨by show 2 ≤ sizeLine; decide, fun a7 m7 => ⟨by show 2 ≤ sizeLine; decide, fun a8 m8 => ⟨by show 8 ≤ sizeLine; decide, fun a9 m9 => ?_⟩⟩⟩⟩⟩⟩⟩⟩⟩
        have u1 := same_upd (o := .tup [.int 0, .int 1]) m1
        have u2 := same_upd (o := .tup [.int 2, .int 3]) m2
        have u3 := same_upd (o := .tup [.int 0, .int 2]) m3
        have u4 := same_upd (o := .tup [.int 1, .int 3]) m4
        have u5 := same_upd (o := .tup [.int 0, .int 3]) m5
        have u6 := same_upd (o := .tup [.int 1, .int 2]) m6
        have u7 := same_upd (o := .tup [.int 0, .int 1]) m7
        have u8 := same_upd (o := .tup [.int 2, .int 3]) m8
        have u9 := same_upd (o := .lst [.ref a1, .ref a2, .ref a3, .ref a4, .ref a5, .ref a6, .ref a7, .ref a8]) m9
        have w8 := u9
        have w7 := u8.trans w8
        have w6 := u7.trans w7
        have w5 := u6.trans w6
        have w4 := u5.trans w5
        have w3 := u4.trans w4
        have w2 := u3.trans w3
        have w1 := u2.trans w2
        have w0 := u1.trans w1
        refine ⟨a9, _, rfl, upd_same, rfl, fun x hx => ?_, pot_ne' (hp1.same (u1.trans (u2.trans (u3.trans (u4.trans (u5.trans (u6.trans (u7.trans u8)))))))) m9, w0⟩
        simp only [List.mem_cons, List.not_mem_nil, or_false] at hx
        rcases hx with rfl | rfl | rfl | rfl | rfl | rfl | rfl | rfl
        · exact ⟨a1, [0, 1], rfl, w1 _ _ upd_same, good2 (by decide) (by decide) (by decide)⟩
        · exact ⟨a2, [2, 3], rfl, w2 _ _ upd_same, good2 (by decide) (by decide) (by decide)⟩
        · exact ⟨a3, [0, 2], rfl, w3 _ _ upd_same, good2 (by decide) (by decide) (by decide)⟩
        · exact ⟨a4, [1, 3], rfl, w4 _ _ upd_same, good2 (by decide) (by decide) (by decide)⟩
        · exact ⟨a5, [0, 3], rfl, w5 _ _ upd_same, good2 (by decide) (by decide) (by decide)⟩
        · exact ⟨a6, [1, 2], rfl, w6 _ _ upd_same, good2 (by decide) (by decide) (by decide)⟩
        · exact ⟨a7, [0, 1], rfl, w7 _ _ upd_same, good2 (by decide) (by decide) (by decide)⟩
        · exact ⟨a8, [2, 3], rfl, w8 _ _ upd_same, good2 (by decide) (by decide) (by decide)⟩
      rintro _ H2 ⟨a, xs, rfl, ha, l8, hx, nap, s2⟩
      have hp2 := hp1.same s2
      refine ⟨p, a, n + i, xs, rfl, hp2, by omega, SqL.of ha, nap, (fun e => by rw [e] at l8; cases l8), by omega, fun j v H3 hv hp3 kp3 => ?_⟩
      obtain ⟨c, row, rfl, hc, g⟩ := hx v (List.mem_of_getElem? hv)
      have hL3 := kp3 _ _ nLp (s2 _ _ hL)
      refine ⟨L, _, .ref c, rfl, rfl, hL3, by rw [List.length_map]; exact lenLine (by omega), ts ++ [c], T ++ [row], _, rfl, ?_, ?_, ?_, ?_, ?_, ?_⟩
      · rw [upd_same, List.map_append]
        rfl
      · exact Rows.kt (paired_append ((hR.same s2).kp kp3 hp2) (.cons (kp3.tup hp2 hc) .nil)) (KT.lst hL3)
      · rw [List.length_append, lT]
        rfl
      · intro r hr'
        rcases List.mem_append.mp hr' with h | h
        · exact gd r h
        · rw [List.mem_singleton.mp h]
          exact g
      · obtain ⟨g', t, c', e, r⟩ := hp3
        exact ⟨g', t, c', by rw [upd_ne (Ne.symm nLp)]; exact e, by rw [← Nat.add_assoc]; exact r⟩
      · intro b o nb hb
        rw [upd_ne (ne_of_none hb nL)]
        exact kp3 _ _ nb (s2 _ _ (kp1 _ _ nb hb))
    · rintro σ H1 ⟨ts, T, y2, rfl, hL, hR, lT, gd, hp1, kp1⟩
      refine ⟨.ref L, rfl, L, _, rfl, .inl ⟨SqL.of hL, fun o no => ?_⟩⟩
      have so := same_upd (o := .tup (ts.map V.ref)) no
      exact q o T _ (hp1.same so) (kp1.trans (.of so)) ⟨ts, upd_same, hR.same so⟩ ⟨by omega, by omega, fun row hr' => by rw [lT]; exact gd row hr'⟩
/-- a list of rules -/
def Tbls (H : Hp) (ts : List Addr) : Prop := ∀ t ∈ ts, ∃ T, Tbl H t T ∧ IsRule T
theorem Tbls.kt {H H' : Hp} {ts : List Addr} (h : Tbls H ts) (k : KT H H') : Tbls H' ts := fun t ht => by
  obtain ⟨T, ⟨rs, h1, h2⟩, r⟩ := h t ht
  exact ⟨T, ⟨rs, k _ _ h1, h2.kt k⟩, r⟩
theorem KT.kp {p : Addr} {n : Nat} {H H' : Hp} (k : Kp p H H') (hp : Pot H p n) : KT H H' := fun a xs e => k.tup hp e
set_option maxHeartbeats 8000000 in
theorem ok_right {f fT fP fM fS fN fC fG fTb fTw fNm fLS fHn fTr fNo fB2 fO2 fS2 fI2 fD2 fW2 : Addr} {fd dT dP dM dS dN dC dG dTb dTw dNm dLS dHn dTr dNo dB2 dO2 dS2 dI2 dD2 dW2 : FuncData} {k : Nat} (F : Fun K "_law_right" "_law_right" sRight f fd) (D : Draw K mg fT fP fM fS fN fC fG dT dP dM dS dN dC dG) (B : Lib K mg) (BJ : LibJ mg)
    (N : Nam K mg fB2 fO2 fS2 fI2 fD2 fW2 dB2 dO2 dS2 dI2 dD2 dW2)
    (FNo : Fun K "names_of" "names_of" sNamesOf fNo dNo) (bNo : Binds K dNo ["rule"] []) (gNo : mg "names_of" = some (.ref fNo))
    (FTb : Fun K "_law_table" "_law_table" sTab fTb dTb) (bTb : Binds K dTb ["_law_pot_here", "_law_most"] []) (gTb : mg "_law_table" = some (.ref fTb))
    (FNm : Fun K "_law_is_number" "_law_is_number" sIsNum fNm dNm) (bNm : Binds K dNm ["_law_thing", "_law_below"] []) (gNm : mg "_law_is_number" = some (.ref fNm))
    (FLS : Fun K "_law_shows" "_law_shows" sLShows fLS dLS) (bLS : Binds K dLS ["_law_table_here", "_law_thing"] []) (gLS : mg "_law_shows" = some (.ref fLS))
    (FHn : Fun K "_law_has_names" "_law_has_names" sHasNames fHn dHn) (bHn : Binds K dHn ["_law_table_here"] []) (gHn : mg "_law_has_names" = some (.ref fHn))
    (FTr : Fun K "_law_tried" "_law_tried" sTried fTr dTr) (bTr : Binds K dTr ["_law_table_here"] []) (gTr : mg "_law_tried" = some (.ref fTr))
    (FTw : Fun K "_law_two_each" "_law_two_each" sTwoEach fTw dTw) (bTw : Binds K dTw ["_law_pot_here"] []) (gTw : mg "_law_two_each" = some (.ref fTw))
    (mset : mg "set" = none) (msum : mg "sum" = none) (many : mg "any" = none) (mrepr : mg "repr" = none) :
    FnG P w K mg base (k + 6) f fd ["_law_pot_here"] (spRight K) := by
  have GTb : FnOk P w K mg base CX0 (k + 5) fTb dTb ["_law_pot_here", "_law_most"] (spTab K) := ok_tab FTb D B
  have GTw : FnOk P w K mg base CX0 (k + 5) fTw dTw ["_law_pot_here"] (spTwo K) := ok_two FTw D.P D.bP D.gP D.T D.bT D.gT BJ
  have GNo : FnOk P w K mg base CX0 (k + 5) fNo dNo ["rule"] (spNamesA K) := ok_namesA FNo N BJ mset B.sorted B.enum
  have GHn : FnOk P w K mg base CX0 (k + 5) fHn dHn ["_law_table_here"] (spHas K) := ok_has FHn BJ mset B.sorted msum B.list
  have GTr : FnOk P w K mg base CX0 (k + 5) fTr dTr ["_law_table_here"] (spTried K) := ok_tried FTr FNm bNm gNm FLS bLS gLS BJ B.enum many
  have GLS : FnOk P w K mg base CX0 (k + 5) fLS dLS ["_law_table_here", "_law_thing"] (spLShows K) := ok_lshows FLS FNm bNm gNm BJ B.enum
  have GW : FnOk P w K mg base CX0 (k + 5) fW2 dW2 ["rule", "value"] (spShowsA K) := ok_showsA N BJ mset
  refine funG F scRight (fun vs H Q E h => ?_) (fun cdv A outer s H vs Q E gu hr h => ?_)
  · obtain ⟨p, rfl, _⟩ := h
    rfl
  · obtain ⟨p, rfl, hp, q⟩ := h
    refine ⟨_, pss_cons (ps_for PassesOwn.never rfl (piLstK (K := K) (pe_op op_cat (pe_lc (own := [("_law_turn", 4)]) (g := gName 4) (by rfl) scRight.nd (pi_range1 (by rfl) B.range (pa_cons pe_int pa_nil))
            (blkOk_by (own := [("_law_turn", 4)]) (N := nRight) (sc := defScope sRight) (by decide +kernel))
            (fun _ _ _ _ _ => pg_name (i := 4) scRight.nd rfl (Or.inl rfl)) (fun _ _ _ _ _ => pts_nil)
            (fun _ _ _ _ _ => pe_call GTb hr (by rfl) gTb FTb.kp bTb .nil pass0 (pa_cons (pv 0) (pa_cons pe_int pa_nil))))
          (pe_lst (pa_cons (pe_call GTw hr (by rfl) gTw FTw.kp bTw .nil pass0 (pa_cons (pv 0) pa_nil)) pa_nil)))) (pg_name (i := 1) scRight.nd rfl (.inl rfl))
        (pss_cons (ps_par (i := 2) (j := 3) rfl scRight.nd rfl rfl (by decide) rfl rfl (pa_cons (pe_call GNo hr (by rfl) gNo FNo.kp bNo .nil pass0 (pa_cons (pv 1) pa_nil)) (pa_cons (pe_call GHn hr (by rfl) gHn FHn.kp bHn .nil pass0 (pa_cons (pv 1) pa_nil)) pa_nil)) rfl)
        (pss_cons (ps_if (PW.pt (pw_and (pt_cmpR op_eq (pe_callB (lenK (K := K)) (by rfl) B.len PySem.boot_len (pa_cons (pv 1) pa_nil)) pe_int (nomark _)) (pw_and1 (pt_cmpR op_ne (pe_call GTr hr (by rfl) gTr FTr.kp bTr .nil pass0 (pa_cons (pv 1) pa_nil)) (pv 3) (nomark _))))) (pss_one (ps_ret pe_bl)) pss_nil)
        (pss_cons (ps_if (PW.pt (pw_and (pt_not (pt_val (pv 3))) (pw_and1 (pt_cmpR op_notN (pv 2) pe_non (nomark _))))) (pss_one (ps_ret pe_bl)) pss_nil)
        (pss_cons (ps_if (PW.pt (pw_and (pt_val (pv 3)) (pw_and1 (pt_cmpR op_notBl (pe_call GW hr (by rfl) N.gW N.W.kp N.bW .nil pass0 (pa_cons (pv 1) (pa_cons (pv 2) pa_nil))) pe_bl (nomark _))))) (pss_one (ps_ret pe_bl)) pss_nil)
        (pss_one (ps_if (PW.pt (pw_or (PW.pt (pw_and (pt_val (pv 3)) (pw_and1 (pt_not (pt_val (pe_call GLS hr (by rfl) gLS FLS.kp bLS .nil pass0 (pa_cons (pv 1) (pa_cons (pv 2) pa_nil))))))))
            (pw_or1 (pt_cmpR op_ne (pe_callB (reprAny (K := K) gu hr.units) (by rfl) mrepr (by decide +kernel) (pa_cons (pe_call GNo hr (by rfl) gNo FNo.kp bNo .nil pass0 (pa_cons (pv 1) pa_nil)) pa_nil))
              (pe_callB (reprAny (K := K) gu hr.units) (by rfl) mrepr (by decide +kernel) (pa_cons (pv 2) pa_nil)) (nomark _))))) (pss_one (ps_ret pe_bl)) pss_nil)))))))
      (pss_one (ps_ret pe_bl)), ?_⟩
    refine ⟨7, rfl, by decide, by decide, fun Dl nD => ?_⟩
    have sD := same_upd (o := .lst []) nD
    have nDp := pot_ne' hp nD
    refine lc_range (lo := 0) (n := 7) (fun m H1 => ∃ ts : List Addr, H1 Dl = some (.lst (ts.map V.ref)) ∧ Tbls H1 ts ∧ ts.length = m ∧ Pot H1 p (1000 * m) ∧ Kp p H H1) ⟨[], upd_same, fun t ht => (by cases ht), rfl, hp.same sD, .of sD⟩ ?_ ?_
    · rintro m H1 hm ⟨ts, hD, hTs, lts, hp1, kp1⟩
      refine ⟨rfl, yesI ⟨.ref p, rfl, p, 1000 * m, rfl, hp1, by omega, fun o T H2 hp2 kp2 hT rule => ?_⟩⟩
      have hD2 := kp2 _ _ nDp hD
      refine ⟨_, hD2, by rw [List.length_map]; exact lenLine (by omega), ts ++ [o], ?_, ?_, ?_, ?_, ?_⟩
      · rw [upd_same, List.map_append]
        rfl
      · refine Tbls.kt (H := H2) (fun t ht => ?_) (KT.lst hD2)
        rcases List.mem_append.mp ht with h | h
        · exact (hTs.kt (KT.kp kp2 hp1)) t h
        · rw [List.mem_singleton.mp h]
          exact ⟨T, hT, rule⟩
      · rw [List.length_append, lts]
        rfl
      · obtain ⟨g', t, c', e, r⟩ := hp2.mono (show _ ≤ 1000 * (m + 1) by omega)
        exact ⟨g', t, c', by rw [upd_ne (Ne.symm nDp)]; exact e, r⟩
      · intro b o' nb hb
        rw [upd_ne (ne_of_none hb nD)]
        exact kp2 _ _ nb (kp1 _ _ nb hb)
    rintro H1 ⟨ts, hD, hTs, lts, hp1, kp1⟩
    refine ⟨.ref p, rfl, p, _, rfl, hp1, by omega, fun o2 T2 H2 hp2 kp2 hT2 rule2 => ⟨by show 1 ≤ sizeLine; decide, fun L1 nL1 => ?_⟩⟩
    have s3 := same_upd (o := .lst [.ref o2]) nL1
    have hD2 := s3 _ _ (kp2 _ _ nDp hD)
    refine ⟨Dl, L1, _, _, rfl, rfl, hD2, upd_same, Nat.le_of_lt (lenLine (by rw [List.length_map]; show ts.length + 1 < 1000001; omega)), fun Lx nLx => ?_⟩
    have s4 := same_upd (H := upd H2 L1 (.lst [.ref o2])) (o := .lst (ts.map V.ref ++ [.ref o2])) nLx
    have exs : ts.map V.ref ++ [V.ref o2] = (ts ++ [o2]).map V.ref := by
      rw [List.map_append]
      rfl
    have hTx : Tbls (upd (upd H2 L1 (.lst [.ref o2])) Lx (.lst (ts.map V.ref ++ [.ref o2]))) (ts ++ [o2]) := fun t ht => by
      refine Tbls.kt (H := H2) (ts := ts ++ [o2]) (fun t ht => ?_) (.of (s3.trans s4)) t ht
      rcases List.mem_append.mp ht with h | h
      · exact (hTs.kt (KT.kp kp2 hp1)) t h
      · rw [List.mem_singleton.mp h]
        exact ⟨T2, hT2, rule2⟩
    have hLx : upd (upd H2 L1 (.lst [.ref o2])) Lx (.lst (ts.map V.ref ++ [.ref o2])) Lx = some (.lst ((ts ++ [o2]).map V.ref)) := by
      rw [upd_same, exs]
    have kx : Kp p H (upd (upd H2 L1 (.lst [.ref o2])) Lx (.lst (ts.map V.ref ++ [.ref o2]))) := kp1.trans (kp2.trans ((Kp.of s3).trans (.of s4)))
    generalize upd (upd H2 L1 (.lst [.ref o2])) Lx (.lst (ts.map V.ref ++ [.ref o2])) = Hx at hTx hLx kx ⊢
    refine ⟨Lx, rfl, ⟨_, SqL.of hLx⟩, for_it (walk_list (K := K) (a := Lx) (xs := (ts ++ [o2]).map V.ref)) (fun i σ H' => ∃ (y1 y2 y3 y4 : Option V), σ = [some (.ref p), y1, y2, y3, y4] ∧ Same Hx H') ⟨none, none, none, _, rfl, Same.refl _⟩ (fun i σ H' _ h => ?_) ?_ ?_⟩
    · obtain ⟨_, _, _, _, _, sm⟩ := h
      exact SqL.of (sm _ _ hLx)
    · rintro i x σ H3 H3' hi ⟨y1, y2, y3, y4, rfl, sm⟩ ⟨rfl, hx⟩
      obtain ⟨t, ht, rfl⟩ := ref_at hx
      obtain ⟨T, hT, rule⟩ := hTx t (List.mem_of_getElem? ht)
      have hT3 := hT.same sm
      have lT16 := rule.2.1
      have lenT : ∀ H', Same H3' H' → ∃ rs : List Addr, H' t = some (.tup (rs.map V.ref)) ∧ rs.length = T.length := fun H' s' => by
        obtain ⟨rs, h1, h2⟩ := hT3.same s'
        exact ⟨rs, h1, Paired.length h2⟩
      refine ⟨.ref t, rfl, t, T, rfl, hT3, rule, fun gs G => ⟨fun a H4 s4 dp sh => ?_, fun nsh H4 s4 => ?_⟩⟩
      · -- named
        have nm := shows_named rule sh
        have fit := nm_fit rule G.nd G.mem
        refine ⟨.ref t, rfl, t, T, rfl, hT3.same s4, rule, fun b H5 hb s5 => ⟨_, _, rfl, ?_⟩⟩
        obtain rfl : b = true := hb.mpr nm
        have s45 := s4.trans s5
        have dp5 := dpS s5 _ _ dp
        obtain ⟨rs5, hrs5, lrs5⟩ := lenT H5 s45
        have hT5 := hT3.same s45
        by_cases h4 : T.length = 4
        · refine ⟨.ref t, rfl, t, _, rfl, .inr (SqT.of hrs5), rfl, _, rfl, ?_⟩
          dsimp only
          rw [decide_eq_true (show V.int ((rs5.map V.ref).length : Int) = V.int 4 by rw [List.length_map, lrs5, h4]; rfl)]
          refine iteT ⟨.ref t, rfl, t, T, rfl, hT5, rule, h4, fun b2 Hc hb2 sc => ⟨.bl true, rfl, rfl, _, rfl, ?_⟩⟩
          obtain rfl : b2 = true := hb2.mpr nm
          refine iteNS rfl ?_
          refine ⟨.bl true, rfl, true, rfl, iteF (iteF ?_)⟩
          refine ⟨.bl true, rfl, true, rfl, iteT ⟨.ref t, rfl, .ref a, rfl, t, .ref a, T, _, rfl, hT5.same sc, by omega, .inl ⟨dpS sc _ _ dp5, fit⟩, fun b3 Hd hb3 sd => ?_⟩⟩
          obtain rfl : b3 = true := hb3.mpr sh
          refine ⟨true, true, rfl, rfl, _, rfl, iteF ?_⟩
          have s5d := (sc).trans sd
          refine ⟨.bl true, rfl, true, rfl, iteT ⟨.ref t, rfl, .ref a, rfl, t, .ref a, T, _, rfl, hT5.same s5d, rule, .inl ⟨dpS s5d _ _ dp5, fit⟩, fun b4 He hb4 se => ?_⟩⟩
          obtain rfl : b4 = true := hb4.mpr sh
          refine ⟨true, rfl, iteF ?_⟩
          have s5e := s5d.trans se
          refine ⟨.ref t, rfl, t, T, rfl, hT5.same s5e, rule, fun gs2 G2 => ⟨fun a2 Hf sf dp2 sh2 => ?_, fun nsh2 => ?_⟩⟩
          · have eg : gs2 = gs := G2.uniq G
            rw [eg] at dp2
            have s5f := s5e.trans sf
            exact ⟨.ref a2, _, rfl, .inl ⟨dp2, fit⟩, .ref a, rfl, .ref a, _, rfl, .inl ⟨dpS s5f _ _ dp5, fit⟩, rfl, _, rfl, iteNS rfl ⟨_, _, _, _, rfl, sm.trans (s45.trans s5f)⟩⟩
          · rw [G2.uniq G] at nsh2
            exact (nsh2 sh).elim
        · refine ⟨.ref t, rfl, t, _, rfl, .inr (SqT.of hrs5), rfl, _, rfl, ?_⟩
          dsimp only
          rw [decide_eq_false (show ¬ V.int ((rs5.map V.ref).length : Int) = V.int 4 from fun z => h4 (by have := V.int.inj z; rw [List.length_map] at this; omega))]
          refine iteF (iteF ?_)
          have sc : Same H5 H5 := Same.refl _
          refine ⟨.bl true, rfl, true, rfl, iteF (iteF ?_)⟩
          refine ⟨.bl true, rfl, true, rfl, iteT ⟨.ref t, rfl, .ref a, rfl, t, .ref a, T, _, rfl, hT5.same sc, by omega, .inl ⟨dpS sc _ _ dp5, fit⟩, fun b3 Hd hb3 sd => ?_⟩⟩
          obtain rfl : b3 = true := hb3.mpr sh
          refine ⟨true, true, rfl, rfl, _, rfl, iteF ?_⟩
          have s5d := (sc).trans sd
          refine ⟨.bl true, rfl, true, rfl, iteT ⟨.ref t, rfl, .ref a, rfl, t, .ref a, T, _, rfl, hT5.same s5d, rule, .inl ⟨dpS s5d _ _ dp5, fit⟩, fun b4 He hb4 se => ?_⟩⟩
          obtain rfl : b4 = true := hb4.mpr sh
          refine ⟨true, rfl, iteF ?_⟩
          have s5e := s5d.trans se
          refine ⟨.ref t, rfl, t, T, rfl, hT5.same s5e, rule, fun gs2 G2 => ⟨fun a2 Hf sf dp2 sh2 => ?_, fun nsh2 => ?_⟩⟩
          · have eg : gs2 = gs := G2.uniq G
            rw [eg] at dp2
            have s5f := s5e.trans sf
            exact ⟨.ref a2, _, rfl, .inl ⟨dp2, fit⟩, .ref a, rfl, .ref a, _, rfl, .inl ⟨dpS s5f _ _ dp5, fit⟩, rfl, _, rfl, iteNS rfl ⟨_, _, _, _, rfl, sm.trans (s45.trans s5f)⟩⟩
          · rw [G2.uniq G] at nsh2
            exact (nsh2 sh).elim
      · skip
        have nn : ¬ Named T := fun z => nsh (nm_names G.nd G.mem z)
        refine ⟨.ref t, rfl, t, T, rfl, hT3.same s4, rule, fun b H5 hb s5 => ⟨_, _, rfl, ?_⟩⟩
        obtain rfl : b = false := by
          cases b with
          | false => rfl
          | true => exact (nn (hb.mp rfl)).elim
        have s45 := s4.trans s5
        obtain ⟨rs5, hrs5, lrs5⟩ := lenT H5 s45
        have hT5 := hT3.same s45
        have fitN : Fit 3 PyData.none := by unfold Fit; trivial
        by_cases h4 : T.length = 4
        · refine ⟨.ref t, rfl, t, _, rfl, .inr (SqT.of hrs5), rfl, _, rfl, ?_⟩
          dsimp only
          rw [decide_eq_true (show V.int ((rs5.map V.ref).length : Int) = V.int 4 by rw [List.length_map, lrs5, h4]; rfl)]
          refine iteT ⟨.ref t, rfl, t, T, rfl, hT5, rule, h4, fun b2 Hc hb2 sc => ⟨.bl false, rfl, rfl, _, rfl, ?_⟩⟩
          obtain rfl : b2 = false := by
            cases b2 with
            | false => rfl
            | true => exact (nn (hb2.mp rfl)).elim
          refine iteNS rfl ?_
          refine ⟨.bl false, rfl, false, rfl, iteT ⟨.non, rfl, rfl, _, rfl, iteF ?_⟩⟩
          refine ⟨.bl false, rfl, false, rfl, iteF (iteF ?_)⟩
          refine ⟨.bl false, rfl, false, rfl, iteF (iteF ?_)⟩
          refine ⟨.ref t, rfl, t, T, rfl, hT5.same sc, rule, fun gs2 G2 => ⟨fun a2 Hf sf dp2 sh2 => ?_, fun nsh2 Hf sf => ?_⟩⟩
          · rw [G2.uniq G] at sh2
            exact (nsh sh2).elim
          · have s5f := (sc).trans sf
            exact ⟨.non, .none, rfl, .inl ⟨.non, fitN⟩, .non, rfl, .non, .none, rfl, .inl ⟨.non, fitN⟩, rfl, _, rfl, iteNS rfl ⟨_, _, _, _, rfl, sm.trans (s45.trans s5f)⟩⟩
        · refine ⟨.ref t, rfl, t, _, rfl, .inr (SqT.of hrs5), rfl, _, rfl, ?_⟩
          dsimp only
          rw [decide_eq_false (show ¬ V.int ((rs5.map V.ref).length : Int) = V.int 4 from fun z => h4 (by have := V.int.inj z; rw [List.length_map] at this; omega))]
          refine iteF (iteF ?_)
          have sc : Same H5 H5 := Same.refl _
          refine ⟨.bl false, rfl, false, rfl, iteT ⟨.non, rfl, rfl, _, rfl, iteF ?_⟩⟩
          refine ⟨.bl false, rfl, false, rfl, iteF (iteF ?_)⟩
          refine ⟨.bl false, rfl, false, rfl, iteF (iteF ?_)⟩
          refine ⟨.ref t, rfl, t, T, rfl, hT5.same sc, rule, fun gs2 G2 => ⟨fun a2 Hf sf dp2 sh2 => ?_, fun nsh2 Hf sf => ?_⟩⟩
          · rw [G2.uniq G] at sh2
            exact (nsh sh2).elim
          · have s5f := (sc).trans sf
            exact ⟨.non, .none, rfl, .inl ⟨.non, fitN⟩, .non, rfl, .non, .none, rfl, .inl ⟨.non, fitN⟩, rfl, _, rfl, iteNS rfl ⟨_, _, _, _, rfl, sm.trans (s45.trans s5f)⟩⟩
    · rintro σ H3 ⟨y1, y2, y3, y4, rfl, sm⟩
      exact q H3 (kx.trans (.of sm))
end
end Nm

namespace Nm
open PySem PySem.Spec PyProof.Rows L2 GL
/-! ### what the top has written -/
theorem all_mk {l : PySem.W.OpenLaw} {w : World} {K : PySem.W.Frag} {h : Heap} {mg : Str → Option Value} {fa f1 f2 f3 f4 f5 f6 f7 f8 f9 f10 f11 f12 f13 f14 f15 f16 f17 f18 f19 f20 f21 f22 f23 : Addr} (X : K.In h) (G : h.Ns mainGlobals mg) (hfa : mg "law" = some (.ref fa))
    {od1 an1 od2 an2 od3 an3 od4 an4 od5 an5 od6 an6 od7 an7 od8 an8 od9 an9 od10 an10 od11 an11 od12 an12 od13 an13 od14 an14 od15 an15 od16 an16 od17 an17 od18 an18 od19 an19 od20 an20 od21 an21 od22 an22 od23 an23 : Option Addr}
    {sl1 sl2 sl3 sl4 sl5 sl6 sl7 sl8 sl9 sl10 sl11 sl12 sl13 sl14 sl15 sl16 sl17 sl18 sl19 sl20 sl21 sl22 sl23 : Array (Option Value)}
    {oc1 kV1 dc1 pm1 cd1 ct1 oc2 kV2 dc2 pm2 cd2 ct2 oc3 kV3 dc3 pm3 cd3 ct3 oc4 kV4 dc4 pm4 cd4 ct4 oc5 kV5 dc5 pm5 cd5 ct5 oc6 kV6 dc6 pm6 cd6 ct6 oc7 kV7 dc7 pm7 cd7 ct7 oc8 kV8 dc8 pm8 cd8 ct8 oc9 kV9 dc9 pm9 cd9 ct9 oc10 kV10 dc10 pm10 cd10 ct10 oc11 kV11 dc11 pm11 cd11 ct11 oc12 kV12 dc12 pm12 cd12 ct12 oc13 kV13 dc13 pm13 cd13 ct13 oc14 kV14 dc14 pm14 cd14 ct14 oc15 kV15 dc15 pm15 cd15 ct15 oc16 kV16 dc16 pm16 cd16 ct16 oc17 kV17 dc17 pm17 cd17 ct17 oc18 kV18 dc18 pm18 cd18 ct18 oc19 kV19 dc19 pm19 cd19 ct19 oc20 kV20 dc20 pm20 cd20 ct20 oc21 kV21 dc21 pm21 cd21 ct21 oc22 kV22 dc22 pm22 cd22 ct22 oc23 kV23 dc23 pm23 cd23 ct23 : Value}
    (a1 : PySem.W.nsIn K mainGlobals "is_below" = some (some (.ref f1))) (l1 : K.lookup f1 = some ⟨oc1, od1, .func (PySem.W.fnOf "is_below" "is_below" (defArgs sBelow) (defBody sBelow) (defScope sBelow) .none kV1 dc1 pm1 an1 cd1 ct1), sl1⟩) (c1 : PySem.W.codeIn K cd1 "is_below" = true) (k1 : PySem.W.keepIn K (.ref f1) = true)
    (a2 : PySem.W.nsIn K mainGlobals "rule_of" = some (some (.ref f2))) (l2 : K.lookup f2 = some ⟨oc2, od2, .func (PySem.W.fnOf "rule_of" "rule_of" (defArgs sRuleOf) (defBody sRuleOf) (defScope sRuleOf) .none kV2 dc2 pm2 an2 cd2 ct2), sl2⟩) (c2 : PySem.W.codeIn K cd2 "rule_of" = true) (k2 : PySem.W.keepIn K (.ref f2) = true)
    (a3 : PySem.W.nsIn K mainGlobals "side_of" = some (some (.ref f3))) (l3 : K.lookup f3 = some ⟨oc3, od3, .func (PySem.W.fnOf "side_of" "side_of" (defArgs sSide) (defBody sSide) (defScope sSide) .none kV3 dc3 pm3 an3 cd3 ct3), sl3⟩) (c3 : PySem.W.codeIn K cd3 "side_of" = true) (k3 : PySem.W.keepIn K (.ref f3) = true)
    (a4 : PySem.W.nsIn K mainGlobals "is_pair" = some (some (.ref f4))) (l4 : K.lookup f4 = some ⟨oc4, od4, .func (PySem.W.fnOf "is_pair" "is_pair" (defArgs sIsPair) (defBody sIsPair) (defScope sIsPair) .none kV4 dc4 pm4 an4 cd4 ct4), sl4⟩) (c4 : PySem.W.codeIn K cd4 "is_pair" = true) (k4 : PySem.W.keepIn K (.ref f4) = true)
    (a5 : PySem.W.nsIn K mainGlobals "are_different_pairs" = some (some (.ref f5))) (l5 : K.lookup f5 = some ⟨oc5, od5, .func (PySem.W.fnOf "are_different_pairs" "are_different_pairs" (defArgs sDiff) (defBody sDiff) (defScope sDiff) .none kV5 dc5 pm5 an5 cd5 ct5), sl5⟩) (c5 : PySem.W.codeIn K cd5 "are_different_pairs" = true) (k5 : PySem.W.keepIn K (.ref f5) = true)
    (a6 : PySem.W.nsIn K mainGlobals "shows_names" = some (some (.ref f6))) (l6 : K.lookup f6 = some ⟨oc6, od6, .func (PySem.W.fnOf "shows_names" "shows_names" (defArgs sShows) (defBody sShows) (defScope sShows) .none kV6 dc6 pm6 an6 cd6 ct6), sl6⟩) (c6 : PySem.W.codeIn K cd6 "shows_names" = true) (k6 : PySem.W.keepIn K (.ref f6) = true)
    (a7 : PySem.W.nsIn K mainGlobals "names_of" = some (some (.ref f7))) (l7 : K.lookup f7 = some ⟨oc7, od7, .func (PySem.W.fnOf "names_of" "names_of" (defArgs sNamesOf) (defBody sNamesOf) (defScope sNamesOf) .none kV7 dc7 pm7 an7 cd7 ct7), sl7⟩) (c7 : PySem.W.codeIn K cd7 "names_of" = true) (k7 : PySem.W.keepIn K (.ref f7) = true)
    (a8 : PySem.W.nsIn K mainGlobals "_law_pot" = some (some (.ref f8))) (l8 : K.lookup f8 = some ⟨oc8, od8, .func (PySem.W.fnOf "_law_pot" "_law_pot" (defArgs sPot) (defBody sPot) (defScope sPot) .none kV8 dc8 pm8 an8 cd8 ct8), sl8⟩) (c8 : PySem.W.codeIn K cd8 "_law_pot" = true) (k8 : PySem.W.keepIn K (.ref f8) = true)
    (a9 : PySem.W.nsIn K mainGlobals "_law_take" = some (some (.ref f9))) (l9 : K.lookup f9 = some ⟨oc9, od9, .func (PySem.W.fnOf "_law_take" "_law_take" (defArgs sTake) (defBody sTake) (defScope sTake) .none kV9 dc9 pm9 an9 cd9 ct9), sl9⟩) (c9 : PySem.W.codeIn K cd9 "_law_take" = true) (k9 : PySem.W.keepIn K (.ref f9) = true)
    (a10 : PySem.W.nsIn K mainGlobals "_law_pick" = some (some (.ref f10))) (l10 : K.lookup f10 = some ⟨oc10, od10, .func (PySem.W.fnOf "_law_pick" "_law_pick" (defArgs sPick) (defBody sPick) (defScope sPick) .none kV10 dc10 pm10 an10 cd10 ct10), sl10⟩) (c10 : PySem.W.codeIn K cd10 "_law_pick" = true) (k10 : PySem.W.keepIn K (.ref f10) = true)
    (a11 : PySem.W.nsIn K mainGlobals "_law_mixed" = some (some (.ref f11))) (l11 : K.lookup f11 = some ⟨oc11, od11, .func (PySem.W.fnOf "_law_mixed" "_law_mixed" (defArgs sMixed) (defBody sMixed) (defScope sMixed) .none kV11 dc11 pm11 an11 cd11 ct11), sl11⟩) (c11 : PySem.W.codeIn K cd11 "_law_mixed" = true) (k11 : PySem.W.keepIn K (.ref f11) = true)
    (a12 : PySem.W.nsIn K mainGlobals "_law_some" = some (some (.ref f12))) (l12 : K.lookup f12 = some ⟨oc12, od12, .func (PySem.W.fnOf "_law_some" "_law_some" (defArgs sSome) (defBody sSome) (defScope sSome) .none kV12 dc12 pm12 an12 cd12 ct12), sl12⟩) (c12 : PySem.W.codeIn K cd12 "_law_some" = true) (k12 : PySem.W.keepIn K (.ref f12) = true)
    (a13 : PySem.W.nsIn K mainGlobals "_law_named" = some (some (.ref f13))) (l13 : K.lookup f13 = some ⟨oc13, od13, .func (PySem.W.fnOf "_law_named" "_law_named" (defArgs sNamed) (defBody sNamed) (defScope sNamed) .none kV13 dc13 pm13 an13 cd13 ct13), sl13⟩) (c13 : PySem.W.codeIn K cd13 "_law_named" = true) (k13 : PySem.W.keepIn K (.ref f13) = true)
    (a14 : PySem.W.nsIn K mainGlobals "_law_called_so" = some (some (.ref f14))) (l14 : K.lookup f14 = some ⟨oc14, od14, .func (PySem.W.fnOf "_law_called_so" "_law_called_so" (defArgs sCso) (defBody sCso) (defScope sCso) .none kV14 dc14 pm14 an14 cd14 ct14), sl14⟩) (c14 : PySem.W.codeIn K cd14 "_law_called_so" = true) (k14 : PySem.W.keepIn K (.ref f14) = true)
    (a15 : PySem.W.nsIn K mainGlobals "_law_changed" = some (some (.ref f15))) (l15 : K.lookup f15 = some ⟨oc15, od15, .func (PySem.W.fnOf "_law_changed" "_law_changed" (defArgs sChg) (defBody sChg) (defScope sChg) .none kV15 dc15 pm15 an15 cd15 ct15), sl15⟩) (c15 : PySem.W.codeIn K cd15 "_law_changed" = true) (k15 : PySem.W.keepIn K (.ref f15) = true)
    (a16 : PySem.W.nsIn K mainGlobals "_law_table" = some (some (.ref f16))) (l16 : K.lookup f16 = some ⟨oc16, od16, .func (PySem.W.fnOf "_law_table" "_law_table" (defArgs sTab) (defBody sTab) (defScope sTab) .none kV16 dc16 pm16 an16 cd16 ct16), sl16⟩) (c16 : PySem.W.codeIn K cd16 "_law_table" = true) (k16 : PySem.W.keepIn K (.ref f16) = true)
    (a17 : PySem.W.nsIn K mainGlobals "_law_is_number" = some (some (.ref f17))) (l17 : K.lookup f17 = some ⟨oc17, od17, .func (PySem.W.fnOf "_law_is_number" "_law_is_number" (defArgs sIsNum) (defBody sIsNum) (defScope sIsNum) .none kV17 dc17 pm17 an17 cd17 ct17), sl17⟩) (c17 : PySem.W.codeIn K cd17 "_law_is_number" = true) (k17 : PySem.W.keepIn K (.ref f17) = true)
    (a18 : PySem.W.nsIn K mainGlobals "_law_shows" = some (some (.ref f18))) (l18 : K.lookup f18 = some ⟨oc18, od18, .func (PySem.W.fnOf "_law_shows" "_law_shows" (defArgs sLShows) (defBody sLShows) (defScope sLShows) .none kV18 dc18 pm18 an18 cd18 ct18), sl18⟩) (c18 : PySem.W.codeIn K cd18 "_law_shows" = true) (k18 : PySem.W.keepIn K (.ref f18) = true)
    (a19 : PySem.W.nsIn K mainGlobals "_law_has_names" = some (some (.ref f19))) (l19 : K.lookup f19 = some ⟨oc19, od19, .func (PySem.W.fnOf "_law_has_names" "_law_has_names" (defArgs sHasNames) (defBody sHasNames) (defScope sHasNames) .none kV19 dc19 pm19 an19 cd19 ct19), sl19⟩) (c19 : PySem.W.codeIn K cd19 "_law_has_names" = true) (k19 : PySem.W.keepIn K (.ref f19) = true)
    (a20 : PySem.W.nsIn K mainGlobals "_law_tried" = some (some (.ref f20))) (l20 : K.lookup f20 = some ⟨oc20, od20, .func (PySem.W.fnOf "_law_tried" "_law_tried" (defArgs sTried) (defBody sTried) (defScope sTried) .none kV20 dc20 pm20 an20 cd20 ct20), sl20⟩) (c20 : PySem.W.codeIn K cd20 "_law_tried" = true) (k20 : PySem.W.keepIn K (.ref f20) = true)
    (a21 : PySem.W.nsIn K mainGlobals "_law_two_each" = some (some (.ref f21))) (l21 : K.lookup f21 = some ⟨oc21, od21, .func (PySem.W.fnOf "_law_two_each" "_law_two_each" (defArgs sTwoEach) (defBody sTwoEach) (defScope sTwoEach) .none kV21 dc21 pm21 an21 cd21 ct21), sl21⟩) (c21 : PySem.W.codeIn K cd21 "_law_two_each" = true) (k21 : PySem.W.keepIn K (.ref f21) = true)
    (a22 : PySem.W.nsIn K mainGlobals "_law_right" = some (some (.ref f22))) (l22 : K.lookup f22 = some ⟨oc22, od22, .func (PySem.W.fnOf "_law_right" "_law_right" (defArgs sRight) (defBody sRight) (defScope sRight) .none kV22 dc22 pm22 an22 cd22 ct22), sl22⟩) (c22 : PySem.W.codeIn K cd22 "_law_right" = true) (k22 : PySem.W.keepIn K (.ref f22) = true)
    (a23 : PySem.W.nsIn K mainGlobals "law" = some (some (.ref f23))) (l23 : K.lookup f23 = some ⟨oc23, od23, .func (PySem.W.fnOf "law" "law" (defArgs sLaw) (defBody sLaw) (defScope sLaw) .none kV23 dc23 pm23 an23 cd23 ct23), sl23⟩) (c23 : PySem.W.codeIn K cd23 "law" = true) (k23 : PySem.W.keepIn K (.ref f23) = true)
    (z1 : PySem.W.nsIn K mainGlobals "len" = some none)
    (z2 : PySem.W.nsIn K mainGlobals "isinstance" = some none)
    (z3 : PySem.W.nsIn K mainGlobals "bool" = some none)
    (z4 : PySem.W.nsIn K mainGlobals "int" = some none)
    (z5 : PySem.W.nsIn K mainGlobals "tuple" = some none)
    (z6 : PySem.W.nsIn K mainGlobals "range" = some none)
    (z7 : PySem.W.nsIn K mainGlobals "all" = some none)
    (z8 : PySem.W.nsIn K mainGlobals "abs" = some none)
    (z9 : PySem.W.nsIn K mainGlobals "list" = some none)
    (z10 : PySem.W.nsIn K mainGlobals "enumerate" = some none)
    (z11 : PySem.W.nsIn K mainGlobals "sorted" = some none)
    (z12 : PySem.W.nsIn K mainGlobals "set" = some none)
    (z13 : PySem.W.nsIn K mainGlobals "repr" = some none)
    (z14 : PySem.W.nsIn K mainGlobals "sum" = some none)
    (z15 : PySem.W.nsIn K mainGlobals "any" = some none)
    (z16 : PySem.W.nsIn K mainGlobals "max" = some none)
    (z17 : PySem.W.nsIn K mainGlobals "min" = some none)
    : ∃ fd : FuncData, (∀ (s : Shared) (v : Value), BindsTo s fd ⟨[v], []⟩ [("_law_script", v)]) ∧ ∀ base : Heap, K.In base → base.Ns mainGlobals mg → FnG l.prog w K mg base 7 fa fd ["_law_script"] (spLaw K) := by
  have e := hfa.symm.trans (PySem.W.mg_of X G a23)
  cases e
  have F1 := fun_mk (st := sBelow) l1 c1 k1
  have b1 := F1.binds (ps := ["value", "limit"]) fun _ _ _ _ _ _ us hl => match us, hl with | [_, _], _ => rfl
  have g1 := PySem.W.mg_of X G a1
  have F2 := fun_mk (st := sRuleOf) l2 c2 k2
  have b2 := F2.binds (ps := ["names"]) fun _ _ _ _ _ _ us hl => match us, hl with | [_], _ => rfl
  have g2 := PySem.W.mg_of X G a2
  have F3 := fun_mk (st := sSide) l3 c3 k3
  have b3 := F3.binds (ps := ["count"]) fun _ _ _ _ _ _ us hl => match us, hl with | [_], _ => rfl
  have g3 := PySem.W.mg_of X G a3
  have F4 := fun_mk (st := sIsPair) l4 c4 k4
  have b4 := F4.binds (ps := ["value", "values"]) fun _ _ _ _ _ _ us hl => match us, hl with | [_, _], _ => rfl
  have g4 := PySem.W.mg_of X G a4
  have F5 := fun_mk (st := sDiff) l5 c5 k5
  have b5 := F5.binds (ps := ["value", "values"]) fun _ _ _ _ _ _ us hl => match us, hl with | [_, _], _ => rfl
  have g5 := PySem.W.mg_of X G a5
  have F6 := fun_mk (st := sShows) l6 c6 k6
  have b6 := F6.binds (ps := ["rule", "value"]) fun _ _ _ _ _ _ us hl => match us, hl with | [_, _], _ => rfl
  have g6 := PySem.W.mg_of X G a6
  have F7 := fun_mk (st := sNamesOf) l7 c7 k7
  have b7 := F7.binds (ps := ["rule"]) fun _ _ _ _ _ _ us hl => match us, hl with | [_], _ => rfl
  have g7 := PySem.W.mg_of X G a7
  have F8 := fun_mk (st := sPot) l8 c8 k8
  have b8 := F8.binds (ps := ["_law_script", "_law_k"]) fun _ _ _ _ _ _ us hl => match us, hl with | [_, _], _ => rfl
  have g8 := PySem.W.mg_of X G a8
  have F9 := fun_mk (st := sTake) l9 c9 k9
  have b9 := F9.binds (ps := ["_law_pot_here", "_law_size"]) fun _ _ _ _ _ _ us hl => match us, hl with | [_, _], _ => rfl
  have g9 := PySem.W.mg_of X G a9
  have F10 := fun_mk (st := sPick) l10 c10 k10
  have b10 := F10.binds (ps := ["_law_pot_here", "_law_some_here"]) fun _ _ _ _ _ _ us hl => match us, hl with | [_, _], _ => rfl
  have g10 := PySem.W.mg_of X G a10
  have F11 := fun_mk (st := sMixed) l11 c11 k11
  have b11 := F11.binds (ps := ["_law_pot_here", "_law_some_here"]) fun _ _ _ _ _ _ us hl => match us, hl with | [_, _], _ => rfl
  have g11 := PySem.W.mg_of X G a11
  have F12 := fun_mk (st := sSome) l12 c12 k12
  have b12 := F12.binds (ps := ["_law_pot_here", "_law_some_here", "_law_share"]) fun _ _ _ _ _ _ us hl => match us, hl with | [_, _, _], _ => rfl
  have g12 := PySem.W.mg_of X G a12
  have F13 := fun_mk (st := sNamed) l13 c13 k13
  have b13 := F13.binds (ps := ["_law_wide"]) fun _ _ _ _ _ _ us hl => match us, hl with | [_], _ => rfl
  have g13 := PySem.W.mg_of X G a13
  have F14 := fun_mk (st := sCso) l14 c14 k14
  have b14 := F14.binds (ps := ["_law_table_here", "_law_led"]) fun _ _ _ _ _ _ us hl => match us, hl with | [_, _], _ => rfl
  have g14 := PySem.W.mg_of X G a14
  have F15 := fun_mk (st := sChg) l15 c15 k15
  have b15 := F15.binds (ps := ["_law_pot_here", "_law_table_here"]) fun _ _ _ _ _ _ us hl => match us, hl with | [_, _], _ => rfl
  have g15 := PySem.W.mg_of X G a15
  have F16 := fun_mk (st := sTab) l16 c16 k16
  have b16 := F16.binds (ps := ["_law_pot_here", "_law_most"]) fun _ _ _ _ _ _ us hl => match us, hl with | [_, _], _ => rfl
  have g16 := PySem.W.mg_of X G a16
  have F17 := fun_mk (st := sIsNum) l17 c17 k17
  have b17 := F17.binds (ps := ["_law_thing", "_law_below"]) fun _ _ _ _ _ _ us hl => match us, hl with | [_, _], _ => rfl
  have g17 := PySem.W.mg_of X G a17
  have F18 := fun_mk (st := sLShows) l18 c18 k18
  have b18 := F18.binds (ps := ["_law_table_here", "_law_thing"]) fun _ _ _ _ _ _ us hl => match us, hl with | [_, _], _ => rfl
  have g18 := PySem.W.mg_of X G a18
  have F19 := fun_mk (st := sHasNames) l19 c19 k19
  have b19 := F19.binds (ps := ["_law_table_here"]) fun _ _ _ _ _ _ us hl => match us, hl with | [_], _ => rfl
  have g19 := PySem.W.mg_of X G a19
  have F20 := fun_mk (st := sTried) l20 c20 k20
  have b20 := F20.binds (ps := ["_law_table_here"]) fun _ _ _ _ _ _ us hl => match us, hl with | [_], _ => rfl
  have g20 := PySem.W.mg_of X G a20
  have F21 := fun_mk (st := sTwoEach) l21 c21 k21
  have b21 := F21.binds (ps := ["_law_pot_here"]) fun _ _ _ _ _ _ us hl => match us, hl with | [_], _ => rfl
  have g21 := PySem.W.mg_of X G a21
  have F22 := fun_mk (st := sRight) l22 c22 k22
  have b22 := F22.binds (ps := ["_law_pot_here"]) fun _ _ _ _ _ _ us hl => match us, hl with | [_], _ => rfl
  have g22 := PySem.W.mg_of X G a22
  have F23 := fun_mk (st := sLaw) l23 c23 k23
  have g23 := PySem.W.mg_of X G a23
  have m1 := PySem.W.mg_none_of X G z1
  have m2 := PySem.W.mg_none_of X G z2
  have m3 := PySem.W.mg_none_of X G z3
  have m4 := PySem.W.mg_none_of X G z4
  have m5 := PySem.W.mg_none_of X G z5
  have m6 := PySem.W.mg_none_of X G z6
  have m7 := PySem.W.mg_none_of X G z7
  have m8 := PySem.W.mg_none_of X G z8
  have m9 := PySem.W.mg_none_of X G z9
  have m10 := PySem.W.mg_none_of X G z10
  have m11 := PySem.W.mg_none_of X G z11
  have m12 := PySem.W.mg_none_of X G z12
  have m13 := PySem.W.mg_none_of X G z13
  have m14 := PySem.W.mg_none_of X G z14
  have m15 := PySem.W.mg_none_of X G z15
  have m16 := PySem.W.mg_none_of X G z16
  have m17 := PySem.W.mg_none_of X G z17
  have BJ : LibJ mg := ⟨m1, m2, m3, m4, m5, m6, m7⟩
  have B : Lib K mg := ⟨m1, m8, m9, m5, m6, m10, m11⟩
  have DR : Draw K mg _ _ _ _ _ _ _ _ _ _ _ _ _ _ := ⟨F9, F10, F11, F12, F13, F14, F15, b9, b10, b11, b12, b13, b14, b15, g9, g10, g11, g12, g13, g14, g15⟩
  have N : Nam K mg _ _ _ _ _ _ _ _ _ _ _ _ := ⟨F1, F2, F3, F4, F5, F6, b1, b2, b3, b4, b5, b6, g1, g2, g3, g4, g5, g6⟩
  refine ⟨PySem.W.fnOf "law" "law" (defArgs sLaw) (defBody sLaw) (defScope sLaw) .none kV23 dc23 pm23 an23 cd23 ct23, fun s v => .of_eq rfl, fun base _ _ => ?_⟩
  exact ok_law (k := 2) F23 F22 b22 g22 (ok_right (k := 0) F22 DR B BJ N F7 b7 g7 F16 b16 g16 F17 b17 g17 F18 b18 g18 F19 b19 g19 F20 b20 g20 F21 b21 g21 m12 m14 m15 m13) F8 b8 g8 B m7 m16 m17
end Nm
open PySem PySem.W PyProof.Rows
set_option maxHeartbeats 0 in
theorem PySem.Challenge.cw_nextmarks_k06_names_found_holds : PySem.Challenge.rw_nextmarks_k06_names_found.Holds := by
  w_on; o_law; k_head; (case hw => w_witness2)
  k_fill
  refine GL.walkG (l := PySem.Challenge.rw_nextmarks_k06_names_found) (n := 63) (k := 7) (x := "_law_script") (sp := fun w => Nm.spLaw _) rfl (by decide) rfl ⟨rfl, by decide, by decide⟩ (fun w h Y => PySem.W.kIn_of Y) ?F (fun _ _ a ns hl hS => ⟨a, ns, rfl, hS, hl, fun _ => rfl⟩)
  case F =>
    intro w mg fa h KX G hmg
    refine' Nm.all_mk KX G hmg ?a1 ?l1 ?c1 ?k1 ?a2 ?l2 ?c2 ?k2 ?a3 ?l3 ?c3 ?k3 ?a4 ?l4 ?c4 ?k4 ?a5 ?l5 ?c5 ?k5 ?a6 ?l6 ?c6 ?k6 ?a7 ?l7 ?c7 ?k7 ?a8 ?l8 ?c8 ?k8 ?a9 ?l9 ?c9 ?k9 ?a10 ?l10 ?c10 ?k10 ?a11 ?l11 ?c11 ?k11 ?a12 ?l12 ?c12 ?k12 ?a13 ?l13 ?c13 ?k13 ?a14 ?l14 ?c14 ?k14 ?a15 ?l15 ?c15 ?k15 ?a16 ?l16 ?c16 ?k16 ?a17 ?l17 ?c17 ?k17 ?a18 ?l18 ?c18 ?k18 ?a19 ?l19 ?c19 ?k19 ?a20 ?l20 ?c20 ?k20 ?a21 ?l21 ?c21 ?k21 ?a22 ?l22 ?c22 ?k22 ?a23 ?l23 ?c23 ?k23 ?z1 ?z2 ?z3 ?z4 ?z5 ?z6 ?z7 ?z8 ?z9 ?z10 ?z11 ?z12 ?z13 ?z14 ?z15 ?z16 ?z17
    (case a1 => k_is); (case l1 => k_is); (case c1 => k_is); (case k1 => k_is); (case a2 => k_is); (case l2 => k_is); (case c2 => k_is); (case k2 => k_is); (case a3 => k_is); (case l3 => k_is); (case c3 => k_is); (case k3 => k_is); (case a4 => k_is); (case l4 => k_is); (case c4 => k_is); (case k4 => k_is); (case a5 => k_is); (case l5 => k_is); (case c5 => k_is); (case k5 => k_is); (case a6 => k_is); (case l6 => k_is); (case c6 => k_is); (case k6 => k_is); (case a7 => k_is); (case l7 => k_is); (case c7 => k_is); (case k7 => k_is); (case a8 => k_is); (case l8 => k_is); (case c8 => k_is); (case k8 => k_is); (case a9 => k_is); (case l9 => k_is); (case c9 => k_is); (case k9 => k_is); (case a10 => k_is); (case l10 => k_is); (case c10 => k_is); (case k10 => k_is); (case a11 => k_is); (case l11 => k_is); (case c11 => k_is); (case k11 => k_is); (case a12 => k_is); (case l12 => k_is); (case c12 => k_is); (case k12 => k_is); (case a13 => k_is); (case l13 => k_is); (case c13 => k_is); (case k13 => k_is); (case a14 => k_is); (case l14 => k_is); (case c14 => k_is); (case k14 => k_is); (case a15 => k_is); (case l15 => k_is); (case c15 => k_is); (case k15 => k_is); (case a16 => k_is); (case l16 => k_is); (case c16 => k_is); (case k16 => k_is); (case a17 => k_is); (case l17 => k_is); (case c17 => k_is); (case k17 => k_is); (case a18 => k_is); (case l18 => k_is); (case c18 => k_is); (case k18 => k_is); (case a19 => k_is); (case l19 => k_is); (case c19 => k_is); (case k19 => k_is); (case a20 => k_is); (case l20 => k_is); (case c20 => k_is); (case k20 => k_is); (case a21 => k_is); (case l21 => k_is); (case c21 => k_is); (case k21 => k_is); (case a22 => k_is); (case l22 => k_is); (case c22 => k_is); (case k22 => k_is); (case a23 => k_is); (case l23 => k_is); (case c23 => k_is); (case k23 => k_is); (case z1 => k_is); (case z2 => k_is); (case z3 => k_is); (case z4 => k_is); (case z5 => k_is); (case z6 => k_is); (case z7 => k_is); (case z8 => k_is); (case z9 => k_is); (case z10 => k_is); (case z11 => k_is); (case z12 => k_is); (case z13 => k_is); (case z14 => k_is); (case z15 => k_is); (case z16 => k_is); (case z17 => k_is)
