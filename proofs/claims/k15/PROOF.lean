import PyProof.Rows.All
import Wide.All
import OpenK.AllK
import Wide.FinOn
import HandS.Base
import HandS.Call
import HandS.List
import HandS.Ends
import HandS.Words
import HandS.Comp
import HandS.Iter
import HandS.Dict
import HandS.SortKw
import HandS.Nested
import KE.DataMinKey
import HandS.EndTab
import HandS.ForMost
import HandS.More
import HandS.Walk
import KE.GoesEnum
import HandS.SetFor
import HandS.Conv
import HandS.Wide
import HandS.IsInst
import HandS.TupSets
import HandS.Strs
import HandS.TupAny
import HandS.Star
import HandS.FStrTup
import HandS.Style
import KE.KRevSl
import HandS.SetBool
import HandS.DictComp
import HandS.Text
import HandS.TupLe
import PySem.Challenge.RW_nextmarks_k15_attackers_step_by_step
set_option Elab.async false
set_option linter.all false
set_option maxRecDepth 100000
/-! The hand layer with one thing more that is known: no repr is under way. -/
namespace GL
open PySem PySem.Spec PyProof.Rows L2

/-- a def's promise, kept wherever no repr is under way -/
structure FnG (P : Program) (w : World) (K : PySem.W.Frag) (mg : Str → Option Value) (base : Heap)
    (k : Nat) (f : Addr) (fd : FuncData) (ps : List Str) (sp : Sp) : Prop where
  many : ∀ vs H Q E, sp vs H Q E → vs.length = ps.length
  does : ∀ (A : Around) (out : List Env) (s : Shared) (H : Hp) (ar : Args) (us : List Value) (vs : List V) (Q : VK) (E : XK),
    A.guards = some [] → Room k A → Env0 P w K mg base A out s H → BindsTo s fd ar (ps.zip us) → Vals vs us → sp vs H Q E →
    codeAny (model P w) A (.call (.ref f) ar) (CR CX0 out P w H s Q E) s

section
variable {P : Program} {w : World} {K : PySem.W.Frag} {mg : Str → Option Value} {base : Heap}

theorem FnG.of {k : Nat} {f : Addr} {fd : FuncData} {ps : List Str} {sp : Sp} (F : FnOk P w K mg base CX0 k f fd ps sp) :
    FnG P w K mg base k f fd ps sp :=
  ⟨F.len, fun A out s H ar us vs Q E _ => F.run A out s H ar us vs Q E⟩

/-- a def by its body, no repr under way -/
theorem funG {x qual : Str} {st : Stmt} {f : Addr} {fd : FuncData} {N ps : List Str} {k : Nat} {sp : Sp}
    (F : Fun K x qual st f fd) (S : FnScope N ps (defScope st)) (many : ∀ vs H Q E, sp vs H Q E → vs.length = ps.length)
    (body : ∀ (cdv : Value) (A : Around) (out : List Env) (s : Shared) (H : Hp) (vs : List V) (Q : VK) (E : XK),
      A.guards = some [] → Room k (A.deeper (envOfC qual (defScope st) s.heap.objs.size f cdv)) → sp vs H Q E →
      ∃ t, PSs (cxOf CX0 P w K mg base N qual (defScope st) f cdv A out s H E).nox (defBody st) t ∧
        t { nx := fun _ H' => Q .non H', rt := Q } (start N vs) H) :
    FnG P w K mg base (k + 1) f fd ps sp := by
  obtain ⟨oc, od, kV, doc, pm, an, cdv, ct, osl, rfl, lk, hcd⟩ := F.ex
  refine ⟨many, fun A out s H ar us vs Q E gu room e0 bi rel wish => ?_⟩
  have n0 := many _ _ _ _ wish
  have kin : K.In s.heap := e0.mod.kin.keeps fun b o e => (e0.bs b o e).1
  have nol : s.heap.NoLimit := e0.mod.nolimit.keeps fun b o e => (e0.bs b o e).1
  have kinds : ∀ y ∈ ps.zip us, (defScope st).names.lookup y.1 = some .local ∨ ((defScope st).names.lookup y.1 = some .cell ∧
      ((cellsFrom (s.heap.objs.size + 1) (defScope st).names []).lookup y.1).isSome = true) := by
    rintro ⟨n, v⟩ hy
    rcases S.par n (List.of_mem_zip hy).1 with q | q
    · exact Or.inl q
    · exact Or.inr ⟨q, PySem.W.cellsFrom_some _ _ _ (Or.inl q)⟩
  apply codeAny_call_function room.depth (kin _ _ lk) rfl S.co S.gen rfl (PySem.W.codeRec_of kin hcd)
  refine bi _ _ _ _ ?_
  refine wpAny_newFunctionEnv_cells S.kind kinds fun env he s1 ic => ?_
  subst he
  refine And.intro (nol.keeps ic.toInCall.keep) (codeAny_func ?_)
  obtain ⟨t, ht, hq⟩ := body cdv A out s H vs Q E gu (room.deeper _) wish
  have ht' := ht.nox
  have J0 : Inv (cxOf CX0 P w K mg base N qual (defScope st) f cdv A out s H E) [] (start N vs) H s1 :=
    inv_start S room.hd e0 n0 rel ic
  refine wpAny_mono (ht'.run [] s1 (start N vs) H _ J0 hq) (fun fl s' hs => ?_) (fun e s' hs => hs)
  cases fl with
  | ret u =>
    obtain ⟨v, σ', H', J, rv, q⟩ := hs
    exact ⟨v, H', J.os, J.bare, J.base, J.hok, rv, q⟩
  | next =>
    obtain ⟨σ', H', J, q⟩ := hs
    exact ⟨V.non, H', J.os, J.bare, J.base, J.hok, rfl, q⟩
  | brk =>
    obtain ⟨_, _, _, q⟩ := hs
    cases q
  | cont =>
    obtain ⟨_, _, _, q⟩ := hs
    cases q
end

section
variable {X : Cx} {k : Nat} {f : Addr} {fd : FuncData} {ps : List Str} {sp : Sp} {x : Str} {p pos : Pos} {e : Expr} {es : List Expr} {t : TA} {E : XK}

theorem runG {pins : List (Addr × Obj)} {σ : L2.St} {H : Hp} {s : Shared} {Q : VK} {us : List Value} {vs : List V}
    (F : FnG X.prog X.w X.K X.mg X.base k f fd ps sp) (gu : X.A.guards = some []) (room : Room k X.A) (hb : Binds X.K fd ps [])
    (I : Inv X pins σ H s) (r : Vals vs us) (h : sp vs H Q E) :
    wpAny (model X.prog X.w) X.A (call (.ref f) us) (EP X pins σ Q) X.xe s := by
  have nl : (us ++ []).length = ps.length := by
    rw [List.append_nil, ← r.length]
    exact F.many _ _ _ _ h
  have bi := hb s us I.kIn nl
  rw [List.append_nil] at bi
  apply wpAny_call
  refine codeAny_mono (F.does X.A X.stack s H ⟨us, []⟩ us vs Q E gu room I.env0 bi r h) fun res s' hq => ?_
  rcases res with e | fl
  · exact False.elim hq
  · rcases fl with _ | _ | _ | u
    all_goals first | exact False.elim hq | exact I.after hq

def tCallG (sp : Sp) (E : XK) (t : TA) : TE := fun σ H Q => t σ H fun vs H1 => sp vs H1 Q E
theorem callG (F : FnG X.prog X.w X.K X.mg X.base k f fd ps sp) (gu : X.A.guards = some []) (room : Room k X.A) (hg : Gl X x)
    (hm : X.mg x = some (.ref f)) (hk : PySem.W.keepIn X.K (.ref f) = true) (hb : Binds X.K fd ps [])
    (ha : PA X (e :: es) t) (hdb : (x == ("__debug__" : Str)) = false := by decide)
    (he : starEach (e :: es) X.env = (false, eval e X.env) :: starEach es X.env := by rfl)
    (hpl : (backTo pos (starEach es X.env)).any (·.1) = false := by rfl) :
    PE X (.Call (.Name x p) (e :: es) [] pos) (tCallG sp E t) := by
  constructor
  intro pins s σ H Q I h
  apply wpAny_Call_Name_kw
  refine ld_glob I hg hm ?_ hdb
  refine PySem.W.callWith_K (h₀ := X.base) I.ok.mod.kin hk ?_ he hpl
  refine thn (ha.run pos pins s σ H _ I h) ?_
  rintro us s1 ⟨vs, H1, I1, r, q⟩
  exact ⟨I1.kIn, runG F gu room hb I1 r q⟩

/-- repr of data, where no repr is under way -/
theorem reprG (gu : X.A.guards = some []) (hu : X.A.units + 64 < cLine) :
    CallR X (.builtin "repr") (fun xs H Q => ∃ a d, xs = [.ref a] ∧ Dp X.K H (.ref a) d ∧ d.showable = true ∧ d.hasDict = false ∧
      d.depth ≤ 20 ∧ d.shown.length ≤ sizeLine ∧ Q (.str d.shown) H) := by
  intro pins s σ H xs us Q I r h
  obtain ⟨a, d, rfl, dp, sh, nd, de, sz, q⟩ := h
  obtain ⟨u, rfl, rfl⟩ := vals1 r
  obtain ⟨as, rd⟩ := Dp.reads I d (.ref a) (.ref a) dp rfl
  refine repr_of_reads' (h₀ := s.heap) rd sh (PyData.noDict_hsm nd) gu (by omega) (fun _ _ z => z) ?_ sz
  intro h' u tk kp
  exact ⟨.str _, H, I.kept kp, ⟨_, rfl⟩, q⟩
/-- an expression, with a word of what it gives -/
def tCutE (te : TE) : TE := fun σ H Q => ∃ P : VK, te σ H P ∧ ∀ v H', P v H' → Q v H'
theorem pe_cut {te : TE} (h : PE X e te) : PE X e (tCutE te) := by
  constructor
  intro pins s σ H Q I h1
  obtain ⟨P, h2, h3⟩ := h1
  refine thn (h.run pins s σ H P I h2) ?_
  rintro u s1 ⟨v, H1, I1, r, q⟩
  exact ⟨v, H1, I1, r, h3 v H1 q⟩
/-- a statement, then the others, with a word between -/
def tMid (t u : TS) : TS := fun D σ H => ∃ M : L2.St → Hp → Prop, t { D with nx := M } σ H ∧ ∀ σ' H', M σ' H' → u D σ' H'
theorem pss_mid {st : Stmt} {more : List Stmt} {t u : TS} (a : PS X st t) (b : PSs X more u) : PSs X (st :: more) (tMid t u) := by
  constructor
  intro pins s σ H D I h
  obtain ⟨M, hm, hu⟩ := h
  apply wpAny_execs_cons
  refine thn (a.run pins s σ H { D with nx := M } I hm) ?_
  rintro (_ | _ | _ | u) s1 q
  · obtain ⟨σ', H', I', q⟩ := q
    exact b.run pins s1 σ' H' D I' (hu σ' H' q)
  all_goals exact q
theorem reprBool : CallR X (.builtin "repr") (fun xs H Q => ∃ b, xs = [.bl b] ∧ Q (.str (if b then "True" else "False")) H) := by
  intro pins s σ H xs us Q I r h
  obtain ⟨b, rfl, q⟩ := h
  obtain ⟨u, rfl, rfl⟩ := vals1 r
  exact PySem.P.repr_of_bool ⟨.str _, H, I.tok _, ⟨_, rfl⟩, q⟩
/-! the rules that speak of the written part, with that part by name (within comprehensions) -/
def rTupOf (K : PySem.W.Frag) : List V → Hp → VK → Prop := fun xs H Q => ∃ p ys, xs = [.ref p] ∧ ((SqL K H p ys ∧ ∀ l, H l = none → Q (.ref l) (upd H l (.tup ys))) ∨ (SqT K H p ys ∧ Q (.ref p) H))
theorem tupOfK {K : PySem.W.Frag} (hK : X.K = K := by rfl) : CallR X (.type "tuple") (rTupOf K) := by
  subst hK
  exact call_tuple_of
def rLstOf (K : PySem.W.Frag) : List V → Hp → VK → Prop := fun xs H Q => ∃ p ys, xs = [.ref p] ∧ (SqL K H p ys ∨ SqT K H p ys) ∧ ∀ l, H l = none → Q (.ref l) (upd H l (.lst ys))
theorem lstOfK {K : PySem.W.Frag} (hK : X.K = K := by rfl) : CallR X (.type "list") (rLstOf K) := by
  subst hK
  exact call_list_of
def rLen (K : PySem.W.Frag) : List V → Hp → VK → Prop := fun xs H Q => ∃ p ys, xs = [.ref p] ∧ (SqL K H p ys ∨ SqT K H p ys) ∧ Q (.int ys.length) H
theorem lenK {K : PySem.W.Frag} (hK : X.K = K := by rfl) : CallR X (.builtin "len") (rLen K) := by
  subst hK
  exact call_len_seq
theorem ixTupK {K : PySem.W.Frag} (hK : X.K = K := by rfl) : IxR X (rIxT K) := by
  subst hK
  exact ix_tup
theorem ixLstK {K : PySem.W.Frag} (hK : X.K = K := by rfl) : IxR X (rIxL K) := by
  subst hK
  exact ix_list
theorem inK {K : PySem.W.Frag} (hK : X.K = K := by rfl) : OpR X (compareOp .In) (rIn K false) := by
  subst hK
  exact op_in_seq
theorem piLstK {K : PySem.W.Frag} {tg l : Expr} {tl : TE} (h : PE X l tl) (hK : X.K = K := by rfl) : PI X tg l (iList K tl) := by
  subst hK
  exact pi_list h
theorem piTupK {K : PySem.W.Frag} {tg l : Expr} {tl : TE} (h : PE X l tl) (hK : X.K = K := by rfl) : PI X tg l (iTup K tl) := by
  subst hK
  exact pi_tup h
theorem piEnumK {K : PySem.W.Frag} {e : Expr} {ta : TA} {p pos tpos : Pos} {elts : List Expr} {kk : Nat} (hg : Gl X "enumerate") (hm : X.mg "enumerate" = none) (ha : PA X [e] ta)
    (hs : starEach [e] X.env = [(false, eval e X.env)] := by rfl) (hK : X.K = K := by rfl) : PI X (.Tuple elts kk tpos) (.Call (.Name "enumerate" p) [e] [] pos) (iEnum K ta) := by
  subst hK
  exact pi_enum hg hm ha hs
theorem pgTupK {K : PySem.W.Frag} {es : List Expr} {k : Nat} {pos : Pos} {t : TGs} {n : Nat} (hc : X.calm = true) (h : PGs X es t)
    (hn : (assignEach es X.env).length = n := by rfl) (hst : (assignEach es X.env).findIdx? (·.1) = none := by rfl) (hK : X.K = K := by rfl) : PG X (.Tuple es k pos) (gTup K n t) := by
  subst hK
  exact pg_tup hc h hn hst
end
/-- the scope of a comprehension -/
def lcSc : Expr → Scope
  | .ListComp _ _ sc _ => sc
  | _ => { kind := .function, names := [], isGenerator := false, isCoroutine := false }
/-- e of «return f(e)» -/
def retArg : Stmt → Expr
  | .Return (some (.Call _ (e :: _) _ _)) _ => e
  | _ => .Constant .none 0 ⟨0, 0, 0, 0⟩
end GL

/-! min(l, key=lambda x: ..) of a list of ints -/
namespace GL
open PySem PySem.Spec PyProof.Rows L2 LamX NdefX
abbrev lamF (X : Cx) (params : Arguments) (scope : Scope) (c' : Addr) : NF := ⟨"<lambda>", X.env.qual ++ "<lambda>", params, [], scope, cloFrom X.env.cells scope.names [], c'⟩
/-- the context of the lambda's body -/
abbrev lamX (X : Cx) (N : List Str) (params : Arguments) (scope : Scope) (f c' : Addr) (s : Shared) (H : Hp) : Cx :=
  ncx L2.CX0 X.prog X.w X.K X.mg X.base N (lamF X params scope c') f X.A.in1 X.stack s H L2.E0
section
variable {X : Cx} {pins : List (Addr × Obj)} {σ : L2.St} {H : Hp} {s : Shared}
theorem lam1_call {k : Nat} {N fr : List Str} {a : Str} {params : Arguments} {body : Expr} {scope : Scope} {f c' : Addr} {pm ctv u : Value} {v : V} {ws : List (Option V)} {Q : VK} (I : Inv X pins σ H s)
    (hf : s.heap.get? f = some (PySem.W.kla_obj "<lambda>" (X.env.qual ++ "<lambda>") params body scope (cloFrom X.env.cells scope.names []) pm c' ctv)) (hco : H c' = some (CodeO c' (X.env.qual ++ "<lambda>")))
    (S : NScope N [a] fr scope) (C : CellsAt (cloFrom X.env.cells scope.names []) fr ws s.heap H) (room : Room (k + 1) X.A.in1)
    (hbind : bindArgs (PySem.W.kla_fn "<lambda>" (X.env.qual ++ "<lambda>") params body scope (cloFrom X.env.cells scope.names []) pm (.ref c') ctv) ⟨[u], []⟩ = pure [(a, u)]) (r : RelV v u)
    (hb : Room k ((X.A.in1).deeper (envF (lamF X params scope c') f s.heap.objs.size)) → ∃ tb, PE (lamX X N params scope f c' s H) body tb ∧ tb (startF N [v] ws) H Q) :
    codeAny (model X.prog X.w) X.A.in1 (.call (.ref f) ⟨[u], []⟩) (CR L2.CX0 X.stack X.prog X.w H s Q L2.E0) s := by
  have e0 : Env0 X.prog X.w X.K X.mg X.base X.A.in1 X.stack s H := by
    have z := I.env0
    exact ⟨z.frames, z.mod, z.bs, z.bsz, z.funs, z.frf, z.hok, z.bare⟩
  refine PySem.W.kla_callFunE room.depth hf rfl S.co S.gen rfl (codeO_at I.hok hco) ?_
  rw [hbind]
  refine wpAny_pure (wpAny_newFunctionEnv S.nocell (fun y hy => ?_) (fun h₁ hns hsb => ⟨I.nolimit.fresh _ hsb, ?_⟩) S.kind)
  · rw [List.mem_singleton.mp hy]
    exact S.par a (by simp)
  show codeAny _ _ (.expr body (envF (lamF X params scope c') f s.heap.objs.size)) _ _
  have kp : ∀ b o, s.heap.get? b = some o → h₁.get? b = some o := fun b o e => hsb.extBut b o (Nat.ne_of_lt (Heap.lt_size e)) (Heap.get?_push_of_some _ e)
  obtain ⟨tb, ht, hq⟩ := hb (room.deeper _)
  have J := inv_startN (CX := L2.CX0) (P := X.prog) (w := X.w) (K := X.K) (mg := X.mg) (base := X.base) (N := N) (ps := [a]) (fr := fr) (F := lamF X params scope c') (f := f) (A := X.A.in1) (outer := X.stack) (s := s) (H := H) (E := L2.E0) (us := [u]) (vs := [v]) (ws := ws)
    (h₁ := h₁) (tk := s.toks + [(a, u)].length) S room.hd e0 rfl (.cons r .nil) C hns kp
  refine PySem.W.kla_codeExpr (wpAny_mono (ht.run [] _ _ H Q J hq) (fun v s' hq => ?_) fun e s' hq => hq)
  obtain ⟨w', H', J', rv, q⟩ := hq
  exact ⟨w', H', J'.os, J'.bare, J'.base, J'.hok, rv, q⟩
/-- all but two records of ours is kept -/
theorem inv_two {s1 s' : Shared} {It S : Addr} (I : Inv X pins σ H s) (hm : Moved [S, It] (fun a b => b = a) s s') (h1 : s1.heap.objs.size ≤ It) (h2 : s1.heap.objs.size ≤ S) (I1 : Inv X pins σ H s1) : Inv X pins σ H s' := by
  obtain ⟨hh, g, d, t, os'⟩ := s'
  obtain rfl : os' = s.os := hm.os
  obtain rfl : g = s.gens := hm.gens
  obtain rfl : d = s.drawn := hm.drawn
  have big : ∀ b, b ∈ [S, It] → s1.heap.objs.size ≤ b := fun b hb => by
    rcases List.mem_cons.mp hb with e | e
    · rw [e]
      exact h2
    · rw [List.mem_singleton.mp e]
      exact h1
  have low : ∀ b o, s1.heap.get? b = some o → b ∉ [S, It] := fun b o e z => Nat.lt_irrefl _ (Nat.lt_of_lt_of_le (Heap.lt_size e) (big b z))
  have nT : ∀ b u, H b = some u → b ∉ [S, It] := fun b u e z => by
    have := I1.hok.fresh (big b z)
    rw [this] at e
    cases e
  refine I.step (h' := hh) (g' := s.gens) (d' := s.drawn) (t' := t) (ch := [S, It]) (fun b hb => ⟨.inr (Nat.le_trans I1.sz (big b hb)), fun z => ?_, fun x c e z => ?_, fun p hp z => ?_⟩) (fun b o _ _ hc e _ => hm.heap b o hc e) (fun b o _ _ hc e _ => ⟨o.slots, hm.heap b o hc e⟩)
    (fun _ _ _ _ n => n) (fun b o hc e => ⟨o, hm.heap b o hc e⟩) (fun _ _ e => e) (fun _ _ _ e => e) (fun b ps e => ⟨#[], by rw [e]; simp⟩) (fun m hn => ?_) (fun b u e => ?_) I.bare
  · have := big b hb
    rw [z] at this
    exact Nat.lt_irrefl _ (Nat.lt_of_lt_of_le I1.lt this)
  · obtain ⟨v, o, ho, _⟩ := I1.cell x c e
    exact low c o ho (by rw [z]; exact hb)
  · obtain ⟨e1, _⟩ := I1.pin p hp
    exact low _ _ e1 (by rw [z]; exact hb)
  · obtain ⟨o, es, ep, ho, rr⟩ := hn
    exact ⟨o, es, ep, hm.heap _ o (fun z => Nat.lt_irrefl _ (Nat.lt_of_lt_of_le I1.lt (big _ z))) ho, rr⟩
  · refine (I.hok b u e).stay (fun c v hc q => hm.heap c v ?_ q) (fun _ q => q) fun _ _ q => q
    rcases hc with z | z
    · rw [z]
      exact nT b u e
    · exact nT c _ z
/-- the walk over a list of ints whose object may be laid anew -/
theorem walk_ints {prog : Program} {w : World} {A : Around} (hh : A.handled = none) {It l : Addr} (hne : l ≠ It) (ns : List Int) :
    WalksS prog w A It [It, l] [It] (fun a b => b = a) ns.length (fun i v => ∃ n t, ns[i]? = some n ∧ v = .int n t)
      (fun i s => s.heap.IsListIter It l i ∧ ∃ its : List Value, Vals (ns.map V.int) its ∧ s.heap.IsList l its.toArray) where
  sub := fun b hb => by simp at hb; simp [hb]
  grefl := fun _ => rfl
  gtrans := fun _ _ _ a b => b.trans a
  frame := fun i s h' tk st _ hk => by
    obtain ⟨st1, its, r, st2⟩ := st
    exact ⟨st1.at fun o e => hk It (by simp) o e, its, r, st2.at fun o e => hk l (by simp) o e⟩
  item := fun i s Q E hi st hQ => by
    obtain ⟨st1, its, r, st2⟩ := st
    have le : its.length = ns.length := by rw [← r.length, List.length_map]
    refine ((Walks.list (prog := prog) (w := w) hh It l hne its.toArray).toS).item i s Q E (by rw [List.size_toArray, le]; exact hi) ⟨st1, st2⟩ fun v s' hP st' mv => hQ v s' ?_ ⟨st'.1, its, r, st'.2⟩ mv
    have hP' : its[i]? = some v := by simpa using hP
    obtain ⟨u, hu, ru⟩ := r.get (i := i) (x := .int ns[i]) (by rw [List.getElem?_map, List.getElem?_eq_getElem hi]; rfl)
    rw [hP'] at hu
    cases hu
    obtain ⟨t, e⟩ := ru
    exact ⟨ns[i], t, List.getElem?_eq_getElem hi, e⟩
  done := fun s Q E st hQ => by
    obtain ⟨st1, its, r, st2⟩ := st
    have le : its.length = ns.length := by rw [← r.length, List.length_map]
    refine ((Walks.list (prog := prog) (w := w) hh It l hne its.toArray).toS).done s Q E ⟨?_, st2⟩ hQ
    rw [List.size_toArray, le]
    exact st1
  self := fun i s Q E st hQ => by
    obtain ⟨st1, its, r, st2⟩ := st
    exact ((Walks.list (prog := prog) (w := w) hh It l hne its.toArray).toS).self i s Q E ⟨st1, st2⟩ hQ
theorem argBest_lt (bt : Nat → Nat → Bool) : ∀ k, argBest bt k ≤ k
  | 0 => Nat.le_refl _
  | k + 1 => by
    unfold argBest
    split
    · exact Nat.le_refl _
    · exact Nat.le_succ_of_le (argBest_lt bt k)
/-- min of a list of ints by a lambda that gives ints and writes nothing: some one of them -/
theorem min_lam {k : Nat} {N fr : List Str} {js : List Nat} {a : Str} {params : Arguments} {body : Expr} {scope : Scope} {f c' l : Addr} {pm ctv : Value} {ns : List Int} {kf : Int → Int} {Q : Value → Shared → Prop} {E : Value → Shared → Prop} (I : Inv X pins σ H s)
    (hf : s.heap.get? f = some (PySem.W.kla_obj "<lambda>" (X.env.qual ++ "<lambda>") params body scope (cloFrom X.env.cells scope.names []) pm c' ctv)) (hfn : H f = none) (hfr : f ∉ frs X.stack) (hco : H c' = some (CodeO c' (X.env.qual ++ "<lambda>")))
    (S : NScope N [a] fr scope) (C : Caps X (cloFrom X.env.cells scope.names []) fr js) (room : Room (k + 2) X.A)
    (hbind : ∀ u, bindArgs (PySem.W.kla_fn "<lambda>" (X.env.qual ++ "<lambda>") params body scope (cloFrom X.env.cells scope.names []) pm (.ref c') ctv) ⟨[u], []⟩ = pure [(a, u)])
    (hl : SqL X.K H l (ns.map V.int)) (hn : 0 < ns.length)
    (hb : ∀ (s : Shared) (n : Int), n ∈ ns → Room k ((X.A.in1).deeper (envF (lamF X params scope c') f s.heap.objs.size)) →
      ∃ tb, PE (lamX X N params scope f c' s H) body tb ∧ tb (startF N [.int n] (js.map (slotAt σ))) H (fun v H' => v = .int (kf n) ∧ H' = H))
    (q : ∀ n t s', n ∈ ns → Inv X pins σ H s' → Q (.int n t) s') :
    wpAny (model X.prog X.w) X.A (call (.builtin "min") [.ref l] [(Str.ofString "key", .ref f)]) Q E s := by
  obtain ⟨its, rv, pl, hz⟩ := I.list hl
  have isl := pl.isList
  have room1 : Room (k + 1) X.A.in1 := room.in1
  refine call_min_walkK ?_
  refine wpAny_pyIter_list isl ?_
  have hlt : l < s.heap.objs.size := by
    obtain ⟨o, ho, _⟩ := isl
    exact Heap.lt_size ho
  have hflt : f < s.heap.objs.size := Heap.lt_size hf
  generalize eI : s.heap.objs.size = It at *
  have kpI : ∀ b o, s.heap.get? b = some o → (s.heap.push { cls := .type "list_iterator", data := .fields #[.ref l, .int 0 0] }).get? b = some o := fun b o e => Heap.get?_push_of_some _ e
  have hsz : (s.heap.push { cls := .type "list_iterator", data := .fields #[.ref l, .int 0 0] }).objs.size = It + 1 := by
    rw [← eI]
    exact size_push' ..
  have hnS : H (It + 1) = none := I.hok.fresh (by rw [eI]; exact Nat.le_succ _)
  have hnI : H It = none := I.hok.fresh (by rw [eI]; exact Nat.le_refl _)
  have nofr : ∀ b, It ≤ b → b ∉ frs X.stack := fun b hb z => by
    rcases List.mem_cons.mp (I.stkSub _ z) with e | e
    · have h1 := I.lt
      rw [← e, eI] at h1
      exact Nat.lt_irrefl _ (Nat.lt_of_lt_of_le h1 hb)
    · exact I.nofs (by rw [eI]; exact hb) e
  refine ⟨It, [It, l], [It], (fun a b => b = a), ns.length, (fun i v => ∃ n t, ns[i]? = some n ∧ v = .int n t), _,
    (fun s' => Inv X pins σ H s' ∧ s'.heap.get? f = some (PySem.W.kla_obj "<lambda>" (X.env.qual ++ "<lambda>") params body scope (cloFrom X.env.cells scope.names []) pm c' ctv)),
    (fun i v _ => ∃ t, v = .int (kf (ns.getD i 0)) t), (fun i j => decide (kf (ns.getD i 0) < kf (ns.getD j 0))), rfl, walk_ints (A := X.A.in1) room1.hd (Nat.ne_of_lt hlt) ns, ?_, ?_, hn, ?_, ⟨?_, kpI _ _ hf⟩, ?_⟩
  · refine ⟨⟨{ cls := .type "list_iterator", data := .fields #[.ref l, .int 0 0] }, ?_, rfl, rfl⟩, its, rv, ?_⟩
    · rw [← eI]
      exact Heap.get?_push_size _ rfl
    · exact isl.at fun o e => kpI _ o e
  · intro b hb
    rw [hsz]
    rcases List.mem_cons.mp hb with e | e
    · rw [e]
      exact Nat.lt_succ_self _
    · rw [List.mem_singleton.mp e]
      exact Nat.lt_succ_of_lt hlt
  · rw [hsz]
    refine ⟨fun s1 s2 hJ hm => ?_, fun i v s1 s2 h _ => h, ?_, ?_⟩
    · refine ⟨inv_two (s1 := s) hJ.1 hm (by rw [eI]; exact Nat.le_refl _) (by rw [eI]; exact Nat.le_succ _) I, hm.heap _ _ (fun z => ?_) hJ.2⟩
      rcases List.mem_cons.mp z with e | e
      · rw [e] at hflt
        exact absurd hflt (Nat.not_lt.mpr (Nat.le_succ _))
      · rw [List.mem_singleton.mp e] at hflt
        exact Nat.lt_irrefl _ hflt
    · rintro i v s1 o Q1 E1 hi ⟨n, t, hni, rfl⟩ ⟨I1, hf1⟩ ⟨⟨oI, hoI, hoI2⟩, itsX, rX, islX⟩ hoS k1
      have gd : ns.getD i 0 = n := by
        rw [List.getD_eq_getElem?_getD, hni]
        rfl
      have run := lam1_call (k := k) (u := .int n t) (v := .int n) (Q := fun v H' => v = .int (kf n) ∧ H' = H) I1 hf1 hco S (cells_of I1 C) room1 (hbind _) ⟨t, rfl⟩ (hb s1 n (List.mem_of_getElem? hni))
      refine wpAny_call (codeAny_mono run fun res s2 hq => ?_)
      rcases res with e | fl
      · exact False.elim hq
      · rcases fl with _ | _ | _ | u
        all_goals try exact False.elim hq
        have un : Un (frs X.stack) [] H H s1.heap s2.heap := by
          obtain ⟨v', H', _, _, un, _, _, _, rfl⟩ := hq
          exact un
        obtain ⟨v', H', I2, rv2, rfl, rfl⟩ := I1.after hq
        obtain ⟨t2, rfl⟩ := rv2
        have keep : ∀ b o, s1.heap.get? b = some o → H' b = none → b ∉ frs X.stack → s2.heap.get? b = some o := fun b o e nb hb' => un.keep b o e nb hb' (by simp)
        obtain ⟨its2, rv3, pl2, _⟩ := I2.list hl
        refine k1 _ _ ⟨I2, keep _ _ hf1 hfn hfr⟩ ⟨⟨oI, keep _ _ hoI hnI (nofr _ (Nat.le_refl _)), hoI2⟩, its2, rv3, pl2.isList⟩ (keep _ _ hoS hnS (nofr _ (Nat.le_succ _))) ⟨t2, by rw [gd]⟩ (fun _ _ h => h)
    · rintro i j ki kj s1 Q1 E1 _ hi hj h
      exact CmpOf.ints_lt (P := fun i v => ∃ t, v = .int (kf (ns.getD i 0)) t) (fun i => kf (ns.getD i 0)) (fun _ _ h => h) i j ki kj s1 Q1 E1 hi hj h
  · exact I.kept (t' := s.toks) kpI
  · rintro v s' ⟨n, t, hni, rfl⟩ ⟨I2, _⟩
    exact q n t s' (List.mem_of_getElem? hni) I2
end
end GL

/-! Tables of code objects beside the rest of the heap; a def that makes a lambda; the end of a law with tables, no repr under way -/
namespace GL
open PySem PySem.Spec PyProof.Rows L2 LamX NdefX
/-- no table -/
class NT (o : HO) : Prop where
  nt : ∀ ps, o ≠ .tbl ps
instance {xs : List V} : NT (.lst xs) := ⟨fun _ z => by cases z⟩
instance {xs : List V} : NT (.tup xs) := ⟨fun _ z => by cases z⟩
instance {xs : List (Key × V)} : NT (.dK xs) := ⟨fun _ z => by cases z⟩
instance {xs : List (List Key × V)} : NT (.dT xs) := ⟨fun _ z => by cases z⟩
instance {S : Int → Bool} {n : Nat} : NT (.set S n) := ⟨fun _ z => by cases z⟩
instance {C dx : Addr} {fs : List (Str × V)} : NT (.ins C dx fs) := ⟨fun _ z => by cases z⟩
instance {x : Addr} : NT (.own x) := ⟨fun _ z => by cases z⟩
instance {o : Obj} {u : HO} : NT (.frz o u) := ⟨fun _ z => by cases z⟩
instance {φ : Heap → Prop} : NT (.ext φ) := ⟨fun _ z => by cases z⟩
instance {a : Addr} {q : Str} : NT (CodeO a q) := ⟨fun _ z => codeO_ne _ z⟩
abbrev Tbs := List (Addr × Str)
/-- all that is tracked stays, tables grow as they should -/
structure Ex (TT : Tbs) (H H' : Hp) : Prop where
  at' : ∀ b o, H b = some o → [NT o] → H' b = some o
  tb : Tabs TT H → Tabs TT H'
instance {TT : Tbs} {H H' : Hp} : CoeFun (Ex TT H H') (fun _ => ∀ b o, H b = some o → [NT o] → H' b = some o) := ⟨Ex.at'⟩
section
variable {TT : Tbs} {H H1 H2 H' : Hp}
theorem Ex.of (s : Same H H') : Ex TT H H' := ⟨fun b o h => s b o h, fun t => t.ext s⟩
theorem Ex.refl (H : Hp) : Ex TT H H := .of (Same.refl H)
theorem Ex.trans (a : Ex TT H H1) (b : Ex TT H1 H2) : Ex TT H H2 := ⟨fun c o h => b c o (a c o h), fun t => b.tb (a.tb t)⟩
theorem tabs_put {D : Addr} {o1 o2 : HO} (t : Tabs TT H2) (e : H2 D = some o1) (n1 : ∀ ps, o1 ≠ .tbl ps) (n2 : ∀ φ, o1 ≠ .ext φ) : Tabs TT (upd H2 D o2) := by
  intro p hp
  obtain ⟨ps, h1, h2, h3⟩ := t p hp
  refine ⟨ps, ?_, h2, fun pos cv hc => ?_⟩
  · rw [upd_ne (fun z => ?_)]
    · exact h1
    · rw [z, e] at h1
      exact n1 _ (Option.some.inj h1)
  · obtain ⟨c, e1, e2⟩ := h3 pos cv hc
    refine ⟨c, e1, ?_⟩
    rw [upd_ne (fun z => ?_)]
    · exact e2
    · rw [z, e] at e2
      exact n2 _ (Option.some.inj e2)
theorem Ex.put {D : Addr} {o1 o2 : HO} (s : Ex TT H H2) (n : H D = none) (e : H2 D = some o1) (n1 : ∀ ps, o1 ≠ .tbl ps := by intro _ z; cases z) (n2 : ∀ φ, o1 ≠ .ext φ := by intro _ z; cases z) : Ex TT H (upd H2 D o2) := by
  refine ⟨fun b o hb => ?_, fun t => tabs_put (s.tb t) e n1 n2⟩
  rw [upd_ne (ne_of_none hb n)]
  exact s _ _ hb
theorem Ex.seq {K : PySem.W.Frag} {a : Addr} {xs : List V} (e : Ex TT H H') (h : SqL K H a xs) : SqL K H' a xs := by
  rcases h with (h | ⟨o, h⟩) | h
  · exact .inl (.inl (e _ _ h))
  · exact .inl (.inr ⟨o, e _ _ h⟩)
  · exact .inr h
end
section
variable {P : Program} {w : World} {K : PySem.W.Frag} {mg : Str → Option Value} {base : Heap}
/-- a def of the text whose code object stands at c -/
structure FunC (K : PySem.W.Frag) (x qual : Str) (st : Stmt) (f : Addr) (fd : FuncData) (c : Addr) : Prop where
  at' : ∃ (oc : Value) (od : Option Addr) (kV doc pm : Value) (an : Option Addr) (ct : Value) (osl : Array (Option Value)),
    fd = PySem.W.fnOf x qual (defArgs st) (defBody st) (defScope st) .none kV doc pm an (.ref c) ct ∧ K.lookup f = some ⟨oc, od, .func fd, osl⟩ ∧ PySem.W.codeIn K (.ref c) qual = true
  kept : PySem.W.keepIn K (.ref f) = true
theorem FunC.to {x qual : Str} {st : Stmt} {f c : Addr} {fd : FuncData} (F : FunC K x qual st f fd c) : Fun K x qual st f fd := by
  obtain ⟨oc, od, kV, doc, pm, an, ct, osl, e, lk, hcd⟩ := F.at'
  exact ⟨⟨oc, od, kV, doc, pm, an, .ref c, ct, osl, e, lk, hcd⟩, F.kept⟩
theorem funC {x qual : Str} {st : Stmt} {f c : Addr} {fd : FuncData} {N ps : List Str} {k : Nat} {sp : Sp}
    (F : FunC K x qual st f fd c) (S : FnScope N ps (defScope st)) (many : ∀ vs H Q E, sp vs H Q E → vs.length = ps.length)
    (body : ∀ (A : Around) (out : List Env) (s : Shared) (H : Hp) (vs : List V) (Q : VK) (E : XK),
      Room k (A.deeper (envOfC qual (defScope st) s.heap.objs.size f (.ref c))) → sp vs H Q E →
      ∃ t, PSs (cxOf L2.CX0 P w K mg base N qual (defScope st) f (.ref c) A out s H E).nox (defBody st) t ∧
        t { nx := fun _ H' => Q .non H', rt := Q } (start N vs) H) :
    FnOk P w K mg base L2.CX0 (k + 1) f fd ps sp := by
  obtain ⟨oc, od, kV, doc, pm, an, ct, osl, rfl, lk, hcd⟩ := F.at'
  refine fn_of lk hcd S many fun A out s H vs Q E room wish => ?_
  obtain ⟨t, ht, q⟩ := body A out s H vs Q E room wish
  exact ⟨t, ht.nox, q⟩
end
section
variable {X : Cx}
/-- min(e, key=lambda a: body) of a list of ints -/
def tMinLam (K : PySem.W.Frag) (TT : Tbs) (N : List Str) (js : List Nat) (tb : TE) (te : TA) : TE := fun σ H Q => te σ H fun ys H1 => ∃ (l : Addr) (ns : List Int), ys = [.ref l] ∧ SqL K H1 l (ns.map V.int) ∧ 0 < ns.length ∧ Tabs TT H1 ∧
  (∀ H2, Ex TT H1 H2 → ∀ n ∈ ns, ∃ kn : Int, tb (startF N [.int n] (js.map (slotAt σ))) H2 (fun v H' => v = .int kn ∧ H' = H2)) ∧ ∀ n ∈ ns, ∀ H2, Ex TT H1 H2 → Q (.int n) H2
theorem pe_minLam {TT : Tbs} {c P : Addr} {k : Nat} {N fr : List Str} {js : List Nat} {a : Str} {params : Arguments} {body e : Expr} {scope : Scope} {p pos lpos kpos : Pos} {tb : TE} {te : TA}
    (TB : TabB X.base X.mg c P) (hcode : X.env.code = .ref c) (hmT : (P, X.env.qual ++ "<lambda>") ∈ TT) (hu : ∀ p ∈ TT, p.1 = P → p.2 = X.env.qual ++ "<lambda>") (room : Room (k + 2) X.A)
    (hg : Gl X "min") (hm : X.mg "min" = none) (ha : PA X [e] te) (S : NScope N [a] fr scope)
    (hfree : ∀ y ∈ scope.names, y.2 = .free → X.env.scope.names.lookup y.1 = some .cell ∨ X.env.scope.names.lookup y.1 = some .free) (hfr : ∀ y ∈ fr, (y, NameKind.free) ∈ scope.names) (hjs : js.map (fun j => X.N[j]?) = fr.map some)
    (hdef : defaultsOf params X.env = ([], []))
    (hbind : ∀ (q : Str) (cl : List (Str × Addr)) (pm cv ctv u : Value), bindArgs (PySem.W.kla_fn "<lambda>" q params body scope cl pm cv ctv) ⟨[u], []⟩ = pure [(a, u)])
    (hbody : ∀ (s : Shared) (H : Hp) (f c' : Addr), Room k ((X.A.in1).deeper (envF (lamF X params scope c') f s.heap.objs.size)) → PE (lamX X N params scope f c' s H) body tb)
    (he : backTo pos (starEach [e] X.env) = (false, eval e X.env) :: backTo pos (starEach [] X.env) := by rfl) (hpl : (backTo pos (starEach [e] X.env)).any (·.1) = false := by rfl) :
    PE X (.Call (.Name "min" p) [e] [⟨some "key", .Lambda params body scope lpos, kpos⟩] pos) (tMinLam X.K TT N js tb te) := by
  refine ⟨fun pins s σ H Q I h => ?_⟩
  have hv : bootBuiltins "min" = some (.builtin "min") := by decide +kernel
  refine wpAny_Call_Name_kw (ld_blt I hg hm hv ?_ (by decide) (by decide))
  refine PyProof.Rows.callWith_kw (thn (ha.run pos pins s σ H _ I h) fun us s1 hh => ?_) he hpl (by rfl) (by rfl)
  obtain ⟨ys, H1, I1, r1, l, ns, rfl, hl, hn, hT, hkey, hq⟩ := hh
  obtain rfl := Vals.ref1 r1
  show wpAny _ _ (evalAll [do let v ← eval (.Lambda params body scope lpos) X.env; standAt pos; pure v]) _ _ s1
  have has : ∀ y ∈ scope.names, y.2 = .free → ∃ c, X.env.cells.lookup y.1 = some c := fun y hy z => (hfree y hy z).elim (fun z => I.ok.has _ (.inl z)) fun z => I.ok.has _ (.inr z)
  refine wpAny_evalAll_cons (wpAny_bind (lam_make2 I1 TB hcode hmT hu hT hdef has fun f c' pm ctv H2 s2 I2 eN T2 hf hfn hfrs hco => wpAny_bind (wpAny_standAt (wpAny_pure (wpAny_evalAll_nil ?_)))))
  have ex : Ex TT H1 H2 := ⟨fun b o hb => eN b o hb NT.nt, fun _ => T2⟩
  have pick : ∀ n, ∃ kn : Int, n ∈ ns → tb (startF N [.int n] (js.map (slotAt σ))) H2 (fun v H' => v = .int kn ∧ H' = H2) := fun n => by
    by_cases hm' : n ∈ ns
    · obtain ⟨kn, z⟩ := hkey H2 ex n hm'
      exact ⟨kn, fun _ => z⟩
    · exact ⟨0, fun z => absurd z hm'⟩
  exact min_lam (k := k) (kf := fun n => Classical.choose (pick n)) I2 hf hfn hfrs hco S (Caps.made I2.ok hfree hfr hjs) room (fun u => hbind _ _ _ _ _ u) (ex.seq hl) hn
    (fun s' n hm' rm => ⟨tb, hbody s' H2 f c' rm, Classical.choose_spec (pick n) hm'⟩) (fun n t s' hm' I3 => ⟨.int n, H2, I3, ⟨t, rfl⟩, hq n hm' H2 ex⟩)
end
/-! ### the end -/
theorem endGT {P : Program} {w : World} {K : PySem.W.Frag} {mg mb : Str → Option Value} {k : Nat} {fa a : Addr} {fd : FuncData} {x : Str} {sp : Sp} {s1 : Shared} {cs : List (Addr × Addr)}
    {vs : List Value} {ns : List Int} (kin : K.In s1.heap) (gl : s1.heap.Ns mainGlobals mg) (bl : s1.heap.Ns builtinsNs mb)
    (blb : ∀ x : Str, x ≠ "__name__" → mb x = bootBuiltins x) (nol : s1.heap.NoLimit) (gens : s1.gens = #[])
    (tab : ∀ p ∈ cs, s1.heap.get? p.2 = some (PySem.W.tabObj #[])) (ktab : ∀ p ∈ cs, K.lookup p.2 = none) (code : ∀ p ∈ cs, PySem.W.CodeHd s1.heap p.1 p.2)
    (bmod : ∃ (bm : Addr) (ob : Obj), mg "__builtins__" = some (.ref bm) ∧ bm ≠ builtinsNs ∧ s1.heap.get? bm = some ob ∧ ob.cls = .type "module" ∧ ob.dict = some builtinsNs ∧ ob.data = .plain)
    (obj : s1.heap.get? a = some { cls := .type "list", data := .seq vs.toArray }) (hints0 : IntsAre vs ns) (few : ns.length ≤ sizeLine) (room : Room k callerA)
    (F : ∀ base : Heap, K.In base → base.Ns mainGlobals mg → (∀ p ∈ cs, TabB base mg p.1 p.2) → FnG P w K mg base k fa fd [x] sp)
    (bind : ∀ (s : Shared) (u : Value), BindsTo s fd ⟨[u], []⟩ [(x, u)])
    (wish : ∀ H : Hp, (∀ p ∈ cs, H p.2 = some (.tbl #[])) → SqL K H a (ns.map V.int) → sp [.ref a] H (fun v _ => v = .bl true) fun _ _ _ => False) :
    codeAny (model P w) callerA (.call (.ref fa) ⟨[.ref a], []⟩)
      (fun r s' => r = .ok (.ret (.bool true)) ∧ OldK s1.heap s'.heap ∧ s'.os = s1.os ∧ AllBare s'.gens) s1 := by
  have rel := vals_ints hints0
  have lens := hints0.length
  have isTab : ∀ b, (∃ p ∈ cs, p.2 = b) → s1.heap.get? b = some (PySem.W.tabObj #[]) := by
    rintro b ⟨p, hp, rfl⟩
    exact tab p hp
  have main : ∀ H : Hp, (∀ b, H b = none ∨ (b = a ∧ ∃ o xs, H b = some (.frz o (.lst xs))) ∨ ((∃ p ∈ cs, p.2 = b) ∧ H b = some (.tbl #[]))) → (∀ p ∈ cs, H p.2 = some (.tbl #[])) → SqL K H a (ns.map V.int) → HOk P w H s1.heap → (H a ≠ none → K.lookup a = none) →
      codeAny (model P w) callerA (.call (.ref fa) ⟨[.ref a], []⟩)
        (fun r s' => r = .ok (.ret (.bool true)) ∧ OldK s1.heap s'.heap ∧ s'.os = s1.os ∧ AllBare s'.gens) s1 := by
    intro H only tabs sq hok kl
    have other : ∀ {b : Addr} {o : Obj}, s1.heap.get? b = some o → (∀ us n, o.data ≠ .seq us n) → o.data ≠ .fields #[] → H b = none := by
      intro b o e d1 d2
      rcases only b with z | ⟨z, _⟩ | ⟨z, _⟩
      · exact z
      · rw [z, obj] at e
        cases e
        exact absurd rfl (d1 _ _)
      · rw [isTab b z] at e
        cases e
        exact absurd rfl d2
    have noDict : ∀ {b : Addr} {o : Obj} {es : Array DictEntry} {ep : Nat}, s1.heap.get? b = some o → o.data = .dict es ep → H b = none := by
      intro b o es ep e d
      exact other e (fun us n z => by rw [d] at z; cases z) (fun z => by rw [d] at z; cases z)
    have ns' : ∀ {b : Addr} {m : Str → Option Value}, s1.heap.Ns b m → (hidT s1.heap H).Ns b m := by
      rintro b m ⟨o, es, ep, e, d, r⟩
      exact ⟨o, es, ep, hidT_get e (noDict e d), d, r⟩
    have kin' : K.In (hidT s1.heap H) := by
      intro b o e
      refine hidT_get (kin b o e) ?_
      rcases only b with z | ⟨z, o2, xs, y⟩ | ⟨⟨p, hp, z⟩, y⟩
      · exact z
      · exfalso
        rw [z] at e y
        have n0 := kl (by rw [y]; intro q; cases q)
        rw [n0] at e
        cases e
      · exfalso
        rw [← z, ktab p hp] at e
        cases e
    have mo : Mod K mg (hidT s1.heap H) := by
      obtain ⟨mc, h1, h2⟩ := nol
      exact ⟨kin', ns' gl, ⟨mb, ns' bl, blb⟩, ⟨mc, ns' h1, h2⟩⟩
    have tbb : ∀ p ∈ cs, TabB (hidT s1.heap H) mg p.1 p.2 := by
      intro p hp
      refine ⟨?_, ?_, fun z => ?_⟩
      · obtain ⟨o, us, fi, tf, fl, tg, inF, tx, tt, e1, e2, e3, e4, rest⟩ := code p hp
        refine ⟨o, us, fi, tf, fl, tg, inF, tx, tt, hidT_get e1 (other e1 (fun us n z => by rw [e3] at z; cases z) (fun z => ?_)), e2, e3, e4, rest⟩
        rw [e3] at z
        cases z
        simp at e4
      · obtain ⟨bm, ob, b1, b2, b3, b4, b5, b6⟩ := bmod
        refine ⟨bm, ob, b1, b2, fun z => ?_, fun z => ?_, hidT_get b3 (other b3 (fun us n z => by rw [b6] at z; cases z) (fun z => by rw [b6] at z; cases z)), b4, b5, b6⟩
        · obtain ⟨o, es, ep, e, d, _⟩ := gl
          rw [z, e] at b3
          cases b3
          rw [d] at b6
          cases b6
        · rw [z, tab p hp] at b3
          cases b3
          cases b6
      · obtain ⟨o, es, ep, e, d, _⟩ := gl
        rw [z, tab p hp] at e
        cases e
        cases d
    have env : Env0 P w K mg (hidT s1.heap H) callerA [] s1 H :=
      ⟨rfl, mo, fun b o e => of_hidT e, Nat.le_of_eq (hidT_size _ _), trivial, (fun b hb => by cases hb), hok, .of_eq gens⟩
    have go := (F _ kin' (ns' gl) tbb).does callerA [] s1 H ⟨[.ref a], []⟩ [.ref a] [.ref a] _ _ rfl room env (bind s1 (.ref a)) (.cons rfl .nil) (wish H tabs sq)
    refine codeAny_mono go fun r s' h => ?_
    rcases r with e | fl
    · exact h.elim
    · rcases fl with _ | _ | _ | u
      all_goals try exact False.elim h
      obtain ⟨v, H', os, bare, un, hok', r', q⟩ := h
      obtain rfl : v = .bl true := q
      obtain rfl : u = Value.bool true := r'
      have stay : ∀ b o, (¬ ∃ p ∈ cs, p.2 = b) → s1.heap.get? b = some o → s'.heap.get? b = some o := by
        intro b o nb e
        rcases only b with z | ⟨_, o2, xs, z⟩ | ⟨z, _⟩
        · exact un.keep b o e z (fun y => by cases y) (fun y => by cases y)
        · have z2 := un.frzs b o2 _ z
          obtain ⟨e1, _⟩ := hok b _ z
          obtain ⟨e2, _⟩ := hok' b _ z2
          rw [e] at e1
          cases e1
          exact e2
        · exact absurd z nb
      have more : ∀ p ∈ cs, ∃ m : Array Value, s'.heap.get? p.2 = some (PySem.W.tabObj m) := by
        intro p hp
        obtain ⟨m, z⟩ := un.tbls p.2 #[] (tabs p hp)
        exact ⟨_, hok' p.2 _ z⟩
      refine ⟨rfl, ⟨fun b o e => ?_, fun b o e => ?_⟩, os, bare⟩
      · by_cases hb : ∃ p ∈ cs, p.2 = b
        · obtain ⟨p, hp, rfl⟩ := hb
          obtain ⟨m, hm⟩ := more p hp
          rw [tab p hp] at e
          cases e
          exact .inr (.inl ⟨((code p hp).tab (tab p hp)).isCodeTable, rfl, #[], m, rfl, by rw [Array.empty_append]; exact hm⟩)
        · exact .inl (stay b o hb e)
      · by_cases hb : ∃ p ∈ cs, p.2 = b
        · obtain ⟨p, hp, rfl⟩ := hb
          obtain ⟨m, hm⟩ := more p hp
          exact ⟨_, hm⟩
        · exact ⟨o, stay b o hb e⟩
  have aT : ¬ ∃ p ∈ cs, p.2 = a := fun z => by
    have y := isTab a z
    rw [obj] at y
    cases y
  classical
  rcases hk : K.lookup a with _ | o
  · refine main (fun b => if b = a then some (.frz { cls := .type "list", data := .seq vs.toArray } (.lst (ns.map V.int))) else if ∃ p ∈ cs, p.2 = b then some (.tbl #[]) else none) (fun b => ?_) (fun p hp => ?_) (.inl (.inr ⟨_, if_pos rfl⟩)) (fun b u z => ?_) fun _ => hk
    · by_cases e : b = a
      · exact .inr (.inl ⟨e, _, _, if_pos e⟩)
      · by_cases e2 : ∃ p ∈ cs, p.2 = b
        · exact .inr (.inr ⟨e2, (if_neg e).trans (if_pos e2)⟩)
        · exact .inl ((if_neg e).trans (if_neg e2))
    · exact (if_neg (fun z => aT ⟨p, hp, z⟩)).trans (if_pos ⟨p, hp, rfl⟩)
    · by_cases e : b = a
      · have y := (if_pos e).symm.trans z
        cases y
        subst e
        exact ⟨obj, by rw [List.length_map]; exact few, vs, _, rel, obj⟩
      · have y := (if_neg e).symm.trans z
        by_cases e2 : ∃ p ∈ cs, p.2 = b
        · have y2 := (if_pos e2).symm.trans y
          cases y2
          exact isTab b e2
        · have y2 := (if_neg e2).symm.trans y
          cases y2
  · have e := kin a o hk
    rw [obj] at e
    cases e
    refine main (fun b => if ∃ p ∈ cs, p.2 = b then some (.tbl #[]) else none) (fun b => ?_) (fun p hp => if_pos ⟨p, hp, rfl⟩) (.inr ⟨_, vs.toArray, _, hk, rfl, rfl, rfl, ?_, ?_⟩) (fun b u z => ?_) fun z => absurd (if_neg aT) z
    · by_cases e2 : ∃ p ∈ cs, p.2 = b
      · exact .inr (.inr ⟨e2, if_pos e2⟩)
      · exact .inl (if_neg e2)
    · rw [List.size_toArray, lens]
      exact few
    · simpa using rel
    · by_cases e2 : ∃ p ∈ cs, p.2 = b
      · have y2 := (if_pos e2).symm.trans z
        cases y2
        exact isTab b e2
      · have y2 := (if_neg e2).symm.trans z
        cases y2
/-- what the law's end gives: the law's def by its promise, over the tables cs -/
structure LawT (l : PySem.W.OpenLaw) (q : Program) (w : World) (K : PySem.W.Frag) (mg : Str → Option Value) (k : Nat) (fa : Addr) (x : Str) (n : Nat) : Prop where
  ex : ∃ (fd : FuncData) (cs : List (Addr × Addr)) (sp : Sp), (∀ (s : Shared) (u : Value), BindsTo s fd ⟨[u], []⟩ [(x, u)]) ∧
    (∀ p ∈ cs, K.lookup p.2 = none ∧ ∃ (y : Str) (d : DefRec), (recsOf q).find? (fun e => e.name == y) = some d ∧ PySem.W.tabIn K y = some p) ∧
    (∀ (H : Hp) (a : Addr) (ns : List Int), ns.length ≤ n → (∀ p ∈ cs, H p.2 = some (.tbl #[])) → SqL K H a (ns.map V.int) → sp [.ref a] H (fun v _ => v = .bl true) fun _ _ _ => False) ∧
    ∀ base : Heap, K.In base → base.Ns mainGlobals mg → (∀ p ∈ cs, TabB base mg p.1 p.2) → FnG l.prog w K mg base k fa fd [x] sp
theorem walkGT {l : PySem.W.OpenLaw} {n k : Nat} {q : Program} {loose : List Str} {XP : (Str → Option Value) → Heap → Prop} {YP : World → Heap → Prop} {d : DefRec}
    {K : Params → PySem.W.Frag} {x : Str} (hn : l.most = some n) (hn2 : n ≤ sizeLine) (hdf : d.params.defaults = []) (hr : Room k callerA)
    (hY : ∀ (w : World) (h : Heap), YP w h → (K w.params).In h)
    (F : ∀ (w : World) (mg : Str → Option Value) (fa : Addr) (h : Heap), (K w.params).In h → h.Ns mainGlobals mg → mg d.name = some (.ref fa) → LawT l q w (K w.params) mg k fa x n) :
    PySem.W.WalkO q loose XP YP l.row.toRowW d [] (fun f vs => PySem.call f vs) := by
  apply Att.attach_call hn hdf
  intro w s0 s1 mg mb fa o pm cd doc a vs ns G Y ho hd hcd hmg hobj hints hlen hg
  obtain ⟨fd, cs, sp, hb, hc, hsp, hF⟩ := (F w mg fa _ (hY w _ Y) G.T.g hmg).ex
  have tt : ∀ p ∈ cs, PySem.W.CodeHd s1.heap p.1 p.2 ∧ s1.heap.get? p.2 = some (PySem.W.tabObj #[]) := fun p hp => by
    obtain ⟨_, y, dr, h1, h2⟩ := hc p hp
    exact PySem.W.tab_of G.T (hY w _ Y) h1 h2
  exact endGT (hY w _ Y) G.T.g G.T.b G.T.builtins G.T.nolimit hg (fun p hp => (tt p hp).2) (fun p hp => (hc p hp).1) (fun p hp => (tt p hp).1) G.T.bmain hobj hints (Nat.le_trans hlen hn2) hr hF hb fun H hH hS => hsp H a ns hlen hH hS
end GL

/-! tuple(d) of a dict; a dict that is known from now on -/
namespace GL
open PySem PySem.Spec PyProof.Rows L2
section
variable {prog : Program} {w : World} {A : Around} {E : Value → Shared → Prop} {s : Shared}
theorem code_tupD {T : String} {r d : Addr} {n : Nat} {P : Nat → Value → Prop} {OK : Heap → Prop} {Q1 : Value → Shared → Prop} (K : PySem.W.KdlSrc prog w T r d n P OK) (hT : s.TypeIs (.ref r) "dict") (hh : A.handled = none) (hok : OK s.heap) (hz : n ≤ sizeLine)
    (h : ∀ (h' : Heap) (tk : Nat) (acc : Array Value), (∀ b o, s.heap.get? b = some o → h'.get? b = some o) → ItemsOf P acc n → Q1 (.ref h'.objs.size) { s with heap := h'.push { cls := .type "tuple", data := .seq acc }, toks := tk }) :
    codeAny (model prog w) A (.call (.builtin "tuple.__new__") ⟨[.type "tuple", .ref r], []⟩) (wants Q1 E) s := by
  refine codeAny_of_tree ?_
  show wpAny _ A.in1 (do checkBuiltinCall "tuple.__new__" ⟨[.type "tuple", .ref r], []⟩; again (.builtin "tuple.__new__" ⟨[.type "tuple", .ref r], []⟩)) _ _ s
  refine wpAny_bind (wpAny_of_eq (F.newCall_tuple_1 _) (wpAny_pure ⟨plainId_quiet F.plain_tuple_new _, codeAny_builtin (F.entry_tuple_new) ?_⟩))
  rw [Around.under_plainId (F.plain_tuple_new) _]
  have h1 := sub_tuple_self
  have h2 := init_tuple_lookup
  have h3 := madeHere_tuple
  wp_walk using wpAny_typeOf hT, PySem.W.kdu_collect (A := A.in1) K hh hok hz
  intro h' tk acc hk hacc
  show wpAny _ _ (Builtin.Tuple.tupleExact acc.toList.toArray >>= fun v => ret v) _ _ _
  have e : acc.toList.toArray = acc := by simp
  unfold Builtin.Tuple.tupleExact
  refine wpAny_bind (wpAny_newObj_type ?_ (by rw [e]; show acc.size ≤ sizeLine; rw [hacc.1]; exact hz))
  refine wpAny_pure ?_
  rw [e]
  exact h h' tk acc hk hacc
end
section
variable {X : Cx}
def rTupD : List V → Hp → VK → Prop := fun xs H Q => ∃ (a : Addr) (kvs : List (Key × V)), xs = [.ref a] ∧ Rd H a (.dK kvs) ∧ ∀ p, H p = none → Q (.ref p) (upd H p (.tup (kvs.map fun kv => kV kv.1)))
theorem tupD (hc : X.calm = true) : CallR X (.type "tuple") rTupD := by
  intro pins s σ H xs us Q I r h
  obtain ⟨a, kvs, rfl, hd, q⟩ := h
  obtain ⟨u, rfl, rx⟩ := vals1 r
  cases rx
  obtain ⟨z, lo, vs, rel, dd⟩ := dk_rd I.hok hd
  obtain ⟨ep, hat⟩ := dd.dictAt
  have ek : (kvs.map fun kv => kV kv.1) = vs.map fun p => kV p.1 := by
    have e := congrArg (List.map kV) rel.keys
    rw [List.map_map, List.map_map] at e
    exact e
  have ty : s.TypeIs (.ref a) "dict" := by
    obtain ⟨o, es, ep', ho, hx, _⟩ := dd
    exact ⟨o, ho, hx.1⟩
  refine callType_codes (Q₁ := fun obj s1 => s1.TypeIs obj "tuple" ∧ EP X pins σ Q obj s1) F.called_tuple (F.typeCall_tuple_1 _) (F.entry_object_init)
    (code_tupD (PySem.W.kdl_dict (knd := mixKind X.prog X.w) (kvs := vs) (ep := ep) lo) ty (I.ok.hd hc) hat (by rw [← rel.length]; exact z) fun h' tk acc hk hacc => ⟨⟨_, Heap.get?_push_size _ rfl, rfl⟩, ?_⟩) fun obj s1 h1 => ?_
  · have hv : Vals (vs.map fun p => kV p.1) acc.toList := keys_at (by rw [Array.length_toList]; exact hacc.1) fun j v e => hacc.2 j v (by rw [← Array.getElem?_toList]; exact e)
    have I1 : Inv X pins σ H { s with heap := h', toks := tk } := I.kept (t' := tk) hk
    refine ⟨.ref h'.objs.size, upd H h'.objs.size (.tup (kvs.map fun kv => kV kv.1)), I1.laid (t' := tk) (fun b o e => Heap.get?_push_of_some _ e) (Nat.le_refl _)
      (show ObjOk X.prog X.w _ _ _ (.tup (kvs.map fun kv => kV kv.1)) from ⟨by rw [List.length_map]; exact z, acc.toList, by rw [ek]; exact hv, ?_⟩), rfl, q _ (I1.hok.fresh (Nat.le_refl _))⟩
    have e : acc.toList.toArray = acc := by simp
    rw [e]
    exact IsTup.new _ _
  · exact ⟨h1.1, F.args_object_init_2 obj _, object_init_meets F.called_tuple.init.lookup F.called_tuple.made (by decide) _ _ X.A.in1 _ s1 ⟨h1.1, rfl, h1.2⟩⟩
/-- a thing that is read alone from now on -/
def tFrz (t : TS) : TS := fun D σ H => ∃ d u, H d = some u ∧ Mut (some u) ∧ ∀ od, t D σ (upd H d (.frz od u))
theorem ps_frz {st : Stmt} {t : TS} (h : PS X st t) : PS X st (tFrz t) := by
  refine ⟨fun pins s σ H D I hw => ?_⟩
  obtain ⟨d, u, hd, mu, hw⟩ := hw
  obtain ⟨od, I1⟩ := I.lock hd mu
  exact h.run pins s σ _ D I1 (hw od)
end
end GL

namespace Nm
open PySem PySem.Spec PyProof.Rows L2 GL
/-! ### the text -/
def topS (i : Nat) : Stmt := PySem.Challenge.pw_nextmarks_k15_attackers_step_by_step.main.body.getD i (.Pass ⟨0, 0, 0, 0⟩)
/-! sPot -/
/-! sTake -/
/-! ### heaps -/
theorem same_upd {H : Hp} {p : Addr} {o : HO} (h : H p = none) : Same H (upd H p o) := fun b x e => by
  rw [upd_ne (ne_of_none e h)]
  exact e
/-- a pot: digits, a seed, a count of at most n -/
def Pot (H : Hp) (p : Addr) (n : Nat) : Prop := ∃ g s c : Int, H p = some (.lst [.int g, .int s, .int c]) ∧ 0 ≤ g ∧ 0 ≤ s ∧ s < 2305843009213693921 ∧ 0 ≤ c ∧ c ≤ n
/-- all but the pot is as it was -/
def Kp (p : Addr) (H H' : Hp) : Prop := ∀ b o, b ≠ p → H b = some o → H' b = some o
theorem Kp.refl (p : Addr) (H : Hp) : Kp p H H := fun _ _ _ h => h
theorem Kp.trans {p : Addr} {H H1 H2 : Hp} (a : Kp p H H1) (b : Kp p H1 H2) : Kp p H H2 := fun c o n h => b c o n (a c o n h)
theorem Kp.of {p : Addr} {H H' : Hp} (a : Same H H') : Kp p H H' := fun c o _ h => a c o h
theorem Kp.upd {p : Addr} {H : Hp} {o : HO} : Kp p H (upd H p o) := fun b x n e => by
  rw [upd_ne n]
  exact e
theorem Pot.same {H H' : Hp} {p : Addr} {n : Nat} (h : Pot H p n) (s : Same H H') : Pot H' p n := by
  obtain ⟨g, t, c, e, r⟩ := h
  exact ⟨g, t, c, s _ _ e, r⟩
theorem Pot.mono {H : Hp} {p : Addr} {m n : Nat} (h : Pot H p m) (l : m ≤ n) : Pot H p n := by
  obtain ⟨g, t, c, e, r1, r2, r3, r4, r5⟩ := h
  exact ⟨g, t, c, e, r1, r2, r3, r4, by omega⟩
theorem Kp.tup {p a : Addr} {H H' : Hp} {n : Nat} {xs : List V} (k : Kp p H H') (h : Pot H p n) (e : H a = some (.tup xs)) : H' a = some (.tup xs) := by
  obtain ⟨g, t, c, q, _⟩ := h
  exact k a _ (ne_of e q (by intro z; cases z)) e
theorem Kp.seq {K : PySem.W.Frag} {p a : Addr} {H H' : Hp} {xs : List V} (k : Kp p H H') (n : a ≠ p) (h : SqL K H a xs) : SqL K H' a xs := by
  rcases h with (h | ⟨o, h⟩) | h
  · exact .inl (.inl (k _ _ n h))
  · exact .inl (.inr ⟨o, k _ _ n h⟩)
  · exact .inr h
theorem Same.seqT {K : PySem.W.Frag} {H H' : Hp} {a : Addr} {xs : List V} (e : Same H H') (h : SqT K H a xs) : SqT K H' a xs := by
  rcases h with (h | ⟨o, h⟩) | h
  · exact .inl (.inl (e _ _ h))
  · exact .inl (.inr ⟨o, e _ _ h⟩)
  · exact .inr h
section
variable {X : Cx}
theorem op_powW : OpR X (binaryOp .Pow) (rI (fun i j => 0 ≤ j ∧ (Builtin.Int.intBits i : Int) * j ≤ 2 ^ 27) fun i j => .int (i ^ j.toNat)) :=
  opI fun _ _ _ _ _ _ _ hc q => pow_int hc.1 hc.2 q
end
section
variable {P : Program} {w : World} {K : PySem.W.Frag} {mg : Str → Option Value} {base : Heap}
/-! ### pot -/
def spPot (K : PySem.W.Frag) : Sp := fun vs H Q _ => ∃ (a : Addr) (ns : List Int) (k : Int), vs = [.ref a, .int k] ∧ SqL K H a (ns.map V.int) ∧ 0 ≤ k ∧ k < 1000 ∧
  ∀ p H', H p = none → Same H H' → Pot H' p 0 → Q (.ref p) H'
/-! ### take -/
def spTake (K : PySem.W.Frag) : Sp := fun vs H Q _ => ∃ (p : Addr) (n : Nat) (z : Int), vs = [.ref p, .int z] ∧ Pot H p n ∧ n < 1000000 ∧ 1 ≤ z ∧ z < 1000000 ∧
  ∀ r H', 0 ≤ r → r < z → Pot H' p (n + 1) → Kp p H H' → Q (.int r) H'
theorem take_lt {m z : Int} (h : 1 ≤ z) : 0 ≤ m % z ∧ m % z < z := ⟨Int.emod_nonneg _ (by omega), Int.emod_lt_of_pos _ (by omega)⟩
theorem bnd64 {x m : Int} (h0 : 0 ≤ x) (h1 : x < m) (h2 : m ≤ 2147483647) : -(2 ^ 64) < x ∧ x < 2 ^ 64 := ⟨by omega, by omega⟩
theorem prime_at {r : Int} (h0 : 0 ≤ r) (h1 : r < 5) :
    ∃ m : Int, atI [V.int 2147483647, .int 2147483629, .int 2147483587, .int 2147483579, .int 2147483563] r = some (.int m) ∧ 2147483563 ≤ m ∧ m ≤ 2147483647 := by
  obtain rfl | rfl | rfl | rfl | rfl : r = 0 ∨ r = 1 ∨ r = 2 ∨ r = 3 ∨ r = 4 := by omega
  all_goals exact ⟨_, rfl, by decide, by decide⟩
end
end Nm

namespace Nm
open PySem PySem.Spec PyProof.Rows L2 GL
/-! sPick -/
/-! sMixed -/
/-! sSome -/
/-! ### data -/
theorem dpInts {K : PySem.W.Frag} {H : Hp} : ∀ ns : List Int, DpAll K H (ns.map V.int) (ns.map PyData.int)
  | [] => .nil
  | n :: ns => .cons (.int n) (dpInts ns)
theorem layInts : ∀ ns : List Int, PyData.canLayAll0 (ns.map PyData.int) = true
  | [] => by simp [PyData.canLayAll0]
  | n :: ns => by simp [PyData.canLayAll0, PyData.canLay0, layInts ns]
theorem deepInts : ∀ ns : List Int, PyData.depthAll (ns.map PyData.int) = 0
  | [] => by simp [PyData.depthAll]
  | n :: ns => by simp [PyData.depthAll, PyData.depth, deepInts ns]
theorem shapedL (ns : List Int) : SeqAt.shaped (.list (ns.map PyData.int)) = true := by
  simp [SeqAt.shaped, PyData.canLay0, layInts, PyData.depth, deepInts]
theorem shapedT (ns : List Int) : SeqAt.shaped (.tuple (ns.map PyData.int)) = true := by
  simp [SeqAt.shaped, PyData.canLay0, layInts, PyData.depth, deepInts]
theorem eqv_nil (ns : List Int) : PyData.eqv (.list (ns.map PyData.int)) (.list []) = ns.isEmpty := by
  cases ns <;> simp [PyData.eqv, PyData.eqvAll]
theorem pot_lst {H : Hp} {p : Addr} {n : Nat} (h : Pot H p n) : ∃ xs, H p = some (.lst xs) := by
  obtain ⟨g, t, c, e, _⟩ := h
  exact ⟨_, e⟩
theorem atI_of {α : Type} {xs : List α} {r : Int} (h0 : 0 ≤ r) (h1 : r < (xs.length : Int)) : atI xs r = some (xs[r.toNat]'(by omega)) := by
  have hi : r.toNat < xs.length := by omega
  have z := atI_nat (xs := xs) (j := r.toNat) (v := xs[r.toNat]) (List.getElem?_eq_getElem hi)
  have e : ((r.toNat : Nat) : Int) = r := by omega
  rw [e] at z
  exact z
section
variable {P : Program} {w : World} {K : PySem.W.Frag} {mg : Str → Option Value} {base : Heap}
/-! ### pick -/
def spPick (K : PySem.W.Frag) : Sp := fun vs H Q _ => ∃ (p a : Addr) (n : Nat) (xs : List V), vs = [.ref p, .ref a] ∧ Pot H p n ∧ n < 1000000 ∧ SqL K H a xs ∧ a ≠ p ∧ xs ≠ [] ∧ xs.length < 1000000 ∧
  ∀ (i : Nat) (v : V) (H' : Hp), xs[i]? = some v → Pot H' p (n + 1) → Kp p H H' → Q v H'
/-! ### mixed -/
def spMixed (K : PySem.W.Frag) : Sp := fun vs H Q _ => ∃ (p a : Addr) (n : Nat) (ns : List Int), vs = [.ref p, .ref a] ∧ Pot H p n ∧ n + ns.length < 1000000 ∧ SqL K H a (ns.map V.int) ∧
  ∀ (o : Addr) (ms : List Int) (H' : Hp), H o = none → ms.Perm ns → H' o = some (.lst (ms.map V.int)) → Pot H' p (n + ns.length) → Kp p H H' → Q (.ref o) H'
theorem erase_perm {α : Type} : ∀ {l : List α} {i : Nat} {x : α}, l[i]? = some x → (x :: l.eraseIdx i).Perm l
  | [], i, x, h => by simp at h
  | y :: l, 0, x, h => by
    have e : y = x := by simpa using h
    subst e
    exact List.Perm.refl _
  | y :: l, i + 1, x, h => by
    have ih := erase_perm (l := l) (i := i) (x := x) (by simpa using h)
    rw [List.eraseIdx_cons_succ]
    exact (List.Perm.swap y x _).trans (ih.cons y)
theorem map_eraseIdx {α β : Type} (f : α → β) : ∀ (l : List α) (i : Nat), (l.map f).eraseIdx i = (l.eraseIdx i).map f
  | [], i => by simp
  | x :: l, 0 => by simp
  | x :: l, i + 1 => by simp [map_eraseIdx f l i]
theorem lenLine {n : Nat} (h : n < 1000001) : n < sizeLine := Nat.lt_of_lt_of_le h (by decide)
/-! ### some -/
def spSome (K : PySem.W.Frag) : Sp := fun vs H Q _ => ∃ (p a : Addr) (n : Nat) (ns : List Int) (z : Int), vs = [.ref p, .ref a, .int z] ∧ Pot H p n ∧ n + ns.length < 1000000 ∧ SqL K H a (ns.map V.int) ∧ a ≠ p ∧ 1 ≤ z ∧ z < 1000000 ∧
  ∀ (o : Addr) (ms : List Int) (H' : Hp), H o = none → ms.Sublist ns → H' o = some (.tup (ms.map V.int)) → Pot H' p (n + ns.length) → Kp p H H' → Q (.ref o) H'
end
end Nm

namespace Nm
open PySem PySem.Spec PyProof.Rows L2 GL
/-! sNamed -/
abbrev nNamed : List Str := ["_law_wide", "_law_signs", "_law_own", "_law_named_here", "_law_at", "_law_pair"]
/-! ### pairs and tables -/
section
variable {α β : Type} {F : α → β → Prop}
theorem paired_get : ∀ {l₁ : List α} {l₂ : List β} {i : Nat} {a : α}, Paired F l₁ l₂ → l₁[i]? = some a → ∃ b, l₂[i]? = some b ∧ F a b
  | _, _, _, _, .nil, e => by simp at e
  | _, _, 0, _, .cons r _, e => by
    simp at e
    subst e
    exact ⟨_, rfl, r⟩
  | _, _, i + 1, a, .cons _ t, e => by
    obtain ⟨u, h1, h2⟩ := paired_get (i := i) (a := a) t (by simpa using e)
    exact ⟨u, by simpa using h1, h2⟩
theorem paired_append : ∀ {l₁ m₁ : List α} {l₂ m₂ : List β}, Paired F l₁ l₂ → Paired F m₁ m₂ → Paired F (l₁ ++ m₁) (l₂ ++ m₂)
  | _, _, _, _, .nil, s => s
  | _, _, _, _, .cons r t, s => .cons r (paired_append t s)
end
/-- pairs of ints at these addresses -/
def PR (H : Hp) (rs : List Addr) (ps : List (Int × Int)) : Prop := Paired (fun a q => H a = some (.tup [.int q.1, .int q.2])) rs ps
/-- rows of ints at these addresses -/
def Rows (H : Hp) (rs : List Addr) (T : List (List Int)) : Prop := Paired (fun a row => H a = some (.tup (row.map V.int))) rs T
/-- a table: a tuple of rows -/
def Tbl (H : Hp) (p : Addr) (T : List (List Int)) : Prop := ∃ rs : List Addr, H p = some (.tup (rs.map V.ref)) ∧ Rows H rs T
theorem PR.same {H H' : Hp} {rs : List Addr} {ps : List (Int × Int)} (h : PR H rs ps) (s : Same H H') : PR H' rs ps := Paired.mapP h fun a b e => s _ _ e
theorem Rows.same {H H' : Hp} {rs : List Addr} {T : List (List Int)} (h : Rows H rs T) (s : Same H H') : Rows H' rs T := Paired.mapP h fun a b e => s _ _ e
theorem Tbl.same {H H' : Hp} {p : Addr} {T : List (List Int)} (h : Tbl H p T) (s : Same H H') : Tbl H' p T := by
  obtain ⟨rs, e, r⟩ := h
  exact ⟨rs, s _ _ e, r.same s⟩
theorem Rows.kp {p : Addr} {n : Nat} {H H' : Hp} {rs : List Addr} {T : List (List Int)} (h : Rows H rs T) (k : Kp p H H') (hp : Pot H p n) : Rows H' rs T := Paired.mapP h fun a b e => k.tup hp e
theorem Tbl.kp {q : Addr} {n : Nat} {H H' : Hp} {p : Addr} {T : List (List Int)} (h : Tbl H p T) (k : Kp q H H') (hp : Pot H q n) : Tbl H' p T := by
  obtain ⟨rs, e, r⟩ := h
  exact ⟨rs, k.tup hp e, r.kp k hp⟩
/-- a table is stays where only lists are changed -/
def KT (H H' : Hp) : Prop := ∀ a xs, H a = some (.tup xs) → H' a = some (.tup xs)
theorem Rows.kt {H H' : Hp} {rs : List Addr} {T : List (List Int)} (h : Rows H rs T) (k : KT H H') : Rows H' rs T := Paired.mapP h fun a b e => k _ _ e
theorem PR.kt {H H' : Hp} {rs : List Addr} {T : List (Int × Int)} (h : PR H rs T) (k : KT H H') : PR H' rs T := Paired.mapP h fun a b e => k _ _ e
theorem KT.of {H H' : Hp} (s : Same H H') : KT H H' := fun _ _ e => s _ _ e
theorem KT.trans {H H1 H2 : Hp} (a : KT H H1) (b : KT H1 H2) : KT H H2 := fun _ _ e => b _ _ (a _ _ e)
theorem KT.lst {H : Hp} {l : Addr} {xs : List V} {o : HO} (h : H l = some (.lst xs)) : KT H (upd H l o) := fun a ys e => by
  rw [upd_ne (ne_of e h (by intro z; cases z))]
  exact e
theorem KT.new {H : Hp} {l : Addr} {o : HO} (h : H l = none) : KT H (upd H l o) := .of (same_upd h)
theorem ref_at {rs : List Addr} {i : Nat} {x : V} (h : (rs.map V.ref)[i]? = some x) : ∃ a, rs[i]? = some a ∧ x = .ref a := by
  rw [List.getElem?_map] at h
  cases e : rs[i]? with
  | none => rw [e] at h; cases h
  | some a => rw [e] at h; exact ⟨a, rfl, (Option.some.inj h).symm⟩
theorem int_at {ns : List Int} {i : Nat} {x : V} (h : (ns.map V.int)[i]? = some x) : ∃ a, ns[i]? = some a ∧ x = .int a := by
  rw [List.getElem?_map] at h
  cases e : ns[i]? with
  | none => rw [e] at h; cases h
  | some a => rw [e] at h; exact ⟨a, rfl, (Option.some.inj h).symm⟩
theorem yesI {σ : L2.St} {H : Hp} {A B : Hp → Prop} (h : A H) : tYes σ H (fun b H3 => if b = true then A H3 else B H3) := by
  show if true = true then A H else B H
  exact iteT h
def prsTo (w i : Nat) : List (Int × Int) := (List.range i).flatMap fun (o : Nat) => (List.range w).map fun (m : Nat) => ((o : Int), (m : Int))
theorem prsTo_succ (w i : Nat) : prsTo w (i + 1) = prsTo w i ++ (List.range w).map fun (m : Nat) => ((i : Int), (m : Int)) := by
  unfold prsTo
  rw [List.range_succ, List.flatMap_append, List.flatMap_singleton]
theorem prsTo_length (w : Nat) : ∀ i, (prsTo w i).length = i * w
  | 0 => by simp [prsTo]
  | i + 1 => by rw [prsTo_succ, List.length_append, prsTo_length w i, List.length_map, List.length_range, Nat.add_mul, Nat.one_mul]
def rowTo (ps : List (Int × Int)) (m : Int) (j : Nat) : List Int := ((List.range j).filter fun (i : Nat) => decide (ps[i]?.map (·.1) = some m)).map fun (i : Nat) => (i : Int)
theorem rowTo_yes {ps : List (Int × Int)} {m : Int} {j : Nat} (h : ps[j]?.map (·.1) = some m) : rowTo ps m (j + 1) = rowTo ps m j ++ [(j : Int)] := by
  unfold rowTo
  rw [List.range_succ, List.filter_append, List.map_append]
  simp [h]
theorem rowTo_no {ps : List (Int × Int)} {m : Int} {j : Nat} (h : ps[j]?.map (·.1) ≠ some m) : rowTo ps m (j + 1) = rowTo ps m j := by
  unfold rowTo
  rw [List.range_succ, List.filter_append, List.map_append]
  simp [h]
theorem rowTo_length (ps : List (Int × Int)) (m : Int) (j : Nat) : (rowTo ps m j).length ≤ j := by
  unfold rowTo
  rw [List.length_map]
  exact Nat.le_trans (List.length_filter_le _ _) (by simp)
def ofPrs (ps : List (Int × Int)) : List (List Int) := ps.map fun q => rowTo ps q.2 ps.length
section
variable {P : Program} {w : World} {K : PySem.W.Frag} {mg : Str → Option Value} {base : Heap}
/-! ### named -/
def spNamed (K : PySem.W.Frag) : Sp := fun vs H Q _ => ∃ n : Nat, vs = [.int n] ∧ n ≤ 4 ∧
  ∀ (p : Addr) (H' : Hp), H p = none → Same H H' → Tbl H' p (ofPrs (prsTo n n)) → Q (.ref p) H'
end
end Nm

/-! enumerate over a tuple -/
namespace PySem
open PyProof.Rows
set_option maxHeartbeats 1000000 in
theorem enumNew1 {v : Value} {o : Obj} {H : Heap → Prop} (B : Begins v o H) :
    Meets (Builtin.«enumerate.__new__» ⟨[.type "enumerate", v], []⟩) (fun _ R s => H s.heap ∧
      R (.ok (.ret (.ref (s.heap.push o).objs.size)))
        { s with heap := (s.heap.push o).push { cls := .type "enumerate", data := .fields #[.none, .bool false, .ref s.heap.objs.size, rawInt 0, .none, .none] } }) :=
  .of_wp fun prog w A R s h => by
    obtain ⟨hp, g, d, tk, os⟩ := s
    obtain ⟨h1, h2⟩ := h
    have sub := sub_enumerate
    have go : ∀ {A' : Around} {E : Value → Shared → Prop} {Q : Value → Shared → Prop}, Q (.ref hp.objs.size) ⟨hp.push o, g, d, tk, os⟩ →
        wpAny (model prog w) A' (pyIter v) Q E ⟨hp, g, d, tk, os⟩ := fun q => B.iter prog w _ _ ⟨hp, g, d, tk, os⟩ _ h1 q
    wp_walk using go
    refine wpAny_stack_any fun st => wpAny_pure ?_
    split
    · rename_i c _ _ _ _ _
      by_cases e : (c == Value.type "enumerate") = true
      · rw [e]
        wp_walk using go
        exact ⟨_, rfl, h2⟩
      · rw [Bool.eq_false_iff.mpr e]
        wp_walk using go
        exact ⟨_, rfl, h2⟩
    · wp_walk using go
      exact ⟨_, rfl, h2⟩
section
variable {prog : Program} {w : World} {A : Around} {E : Value → Shared → Prop} {s : Shared}
theorem enumCall1 {v : Value} {o : Obj} {H : Heap → Prop} {Q : Value → Shared → Prop} (B : Begins v o H) (h1 : H s.heap)
    (h : ∀ h', IsEnum h' (s.heap.objs.size + 1) s.heap.objs.size 0 .none → h'.get? s.heap.objs.size = some o → h'.objs.size = s.heap.objs.size + 2 →
      (∀ b o, s.heap.get? b = some o → h'.get? b = some o) → Q (.ref (s.heap.objs.size + 1)) { s with heap := h' }) :
    wpAny (model prog w) A (call (.type "enumerate") [v]) Q E s := by
  refine callType_new F.called_enumerate (by decide) (F.typeCall_enumerate_1 _) (F.newCall_enumerate_1 _) (fun obj => F.args_object_init_2 obj _)
    F.entry_enumerate_new (enumNew1 B) (And.intro h1 ?_)
  have size1 : (s.heap.push o).objs.size = s.heap.objs.size + 1 := Heap.size_push ..
  show _ ∧ _
  rw [size1]
  have en : IsEnum ((s.heap.push o).push { cls := .type "enumerate", data := .fields #[.none, .bool false, .ref s.heap.objs.size, rawInt 0, .none, .none] })
      (s.heap.objs.size + 1) s.heap.objs.size 0 .none := by
    have z := Heap.get?_push_size (s.heap.push o) (o := { cls := .type "enumerate", data := .fields #[.none, .bool false, .ref s.heap.objs.size, rawInt 0, .none, .none] }) rfl
    rw [size1] at z
    exact z
  have h0 := Heap.get?_push_size s.heap (o := o) B.free
  refine And.intro ⟨_, en, rfl⟩ (h _ en (Heap.get?_push_of_some _ h0) ?_ ?_)
  · rw [Heap.size_push, size1]
  · intro b ob q
    exact Heap.get?_push_of_some _ (Heap.get?_push_of_some _ q)
end
end PySem
namespace GL
open PySem PySem.Spec PyProof.Rows L2
/-- the tuple at a, each item in a new pair -/
def IteT (K : PySem.W.Frag) (a : Addr) : It where
  go i H := ∃ (xs : List V) (x : V), SqT K H a xs ∧ xs[i]? = some x
  yld i H v H' := ∃ T x, v = .ref T ∧ H T = none ∧ H' = upd H T (.tup [.int (i : Nat), x]) ∧ ∀ xs, SqT K H a xs → xs[i]? = some x
  stop i H := ∃ xs : List V, SqT K H a xs ∧ xs.length = i
theorem turnET {P : Program} {w : World} {K : PySem.W.Frag} {elts : List Expr} {kk : Nat} {tpos : Pos} (a e it : Addr) :
    Turn P w K (.Tuple elts kk tpos) (IteT K a) [e, it] e
      (fun i h => (∃ old, IsEnum h e it ((i : Nat) : Int) old) ∧ h.IsTupleIter it a i ∧ e ≠ it ∧ a ≠ it ∧ e ≠ a) where
  mem := List.mem_cons_self
  obj := by
    rintro i h ⟨⟨old, he⟩, ⟨o, ho, hc, hd⟩, _⟩ b hb
    rcases List.mem_cons.mp hb with rfl | hb
    · exact ⟨_, he, fun v q => nomatch q⟩
    · rcases List.mem_cons.mp hb with rfl | hb
      · exact ⟨o, ho, fun v q => by rw [hd] at q; cases q⟩
      · cases hb
  keep := by
    rintro i h h' ⟨⟨old, he⟩, hi, r⟩ k
    exact ⟨⟨old, k e (by simp) _ he⟩, hi.at fun o q => k it (by simp) o q, r⟩
  item := by
    intro X hP hw hK hc i pins s σ H E I hf st hg
    subst hP hw hK
    obtain ⟨⟨old, he⟩, hit, n1, n2, n3⟩ := st
    obtain ⟨xs, x, hq, hx⟩ := hg
    obtain ⟨its, rv, tp, hz⟩ := I.tuple hq
    obtain ⟨u, hu, ru⟩ := rv.get hx
    have el : e < s.heap.objs.size := Heap.lt_size he
    have il : it < s.heap.objs.size := by
      obtain ⟨_, q, _⟩ := hit
      exact Heap.lt_size q
    have dr := Draws.tuple (prog := X.prog) (w := X.w) (A := X.A.in1) (I.ok.hd hc) it a n2 its.toArray
    have hlt : i < its.toArray.size := by
      have := (List.getElem?_eq_some_iff.mp hu).1
      simpa using this
    have nef : e ∉ [it, a] := by
      simp [n1, n3]
    refine wpAny_pyNext_enum_itemD dr he ⟨hit, tp⟩ hlt n1 nef fun y h' tk hy ho st' hT hsz hk => ?_
    have ey : y = u := by
      have hy' : its.toArray[i]? = some y := hy
      rw [List.getElem?_toArray, hu] at hy'
      exact (Option.some.inj hy').symm
    subst ey
    refine ⟨_, rfl, wpAny_letOwnedTupleGo_enum (s := { s with heap := h', toks := tk + 1 }) ho fun h'' he' sb => ?_⟩
    have hT2 : h''.get? s.heap.objs.size = some { cls := .type "tuple", data := .seq #[.int i tk, y] } := (sb.2 _ (Nat.ne_of_gt el)).trans hT
    have neu : ObjOk X.prog X.w (upd H s.heap.objs.size (.tup [.int (i : Nat), x])) h'' s.heap.objs.size (.tup [.int (i : Nat), x]) := by
      refine ⟨?_, [.int i tk, y], .cons ⟨_, rfl⟩ (.cons ru .nil), ⟨_, hT2, rfl, _, rfl⟩⟩
      show 2 ≤ sizeLine
      decide
    have J : Inv X pins σ (upd H s.heap.objs.size (.tup [.int (i : Nat), x])) { s with heap := h'', toks := tk + 1 } := by
      refine I.turnedNew (ch := [e, it]) (fun b ob hb q => ?_) hf (Nat.le_refl _) neu
      have b1 : b ≠ e := fun z => hb (by simp [z])
      have b2 : b ≠ it := fun z => hb (by simp [z])
      exact (sb.2 b b1).trans (hk b ob b1 b2 q)
    refine ⟨.ref s.heap.objs.size, _, J, rfl, ⟨_, x, rfl, I.hok.fresh (Nat.le_refl _), rfl, fun ys hy' => ?_⟩, ⟨⟨y, ?_⟩, ?_, n1, n2, n3⟩, fun b hb => ?_⟩
    · rw [I.tuple_inj hy' hq]
      exact hx
    · have e1 : ((i + 1 : Nat) : Int) = (i : Int) + 1 := by omega
      rw [e1]
      exact he'
    · exact st'.1.at fun o q => (sb.2 it (Ne.symm n1)).trans q
    · have lb : b < s.heap.objs.size := by
        rcases List.mem_cons.mp hb with rfl | hb
        · exact el
        · rcases List.mem_cons.mp hb with rfl | hb
          · exact il
          · cases hb
      rw [upd_ne (Nat.ne_of_lt lb)]
      exact (hf b hb).1
  done := by
    intro X hP hw hK hc i pins s σ H E I hf st hg
    subst hP hw hK
    obtain ⟨⟨old, he⟩, hit, n1, n2, n3⟩ := st
    obtain ⟨xs, hq, hx⟩ := hg
    obtain ⟨its, rv, tp, hz⟩ := I.tuple hq
    obtain ⟨f0, f1, f2, f3, f4, f5⟩ := hf it (by simp)
    have hl := rv.length
    have dr := Draws.tuple (prog := X.prog) (w := X.w) (A := X.A.in1) (I.ok.hd hc) it a n2 its.toArray
    have ei : its.toArray.size = i := by
      simp
      omega
    rw [← ei] at hit
    exact wpAny_pyNext_enum_endD dr he ⟨hit, tp⟩ fun h' eb => ⟨rfl, I.turned (t' := s.toks) (fun b o hb q => eb b o hb q) f0 f1 f3 f4 f5⟩
  self := by
    rintro A i s Q E ⟨⟨_, he⟩, _⟩ h
    exact wpAny_pyIter_enum he h
def iEnumT (K : PySem.W.Frag) (ta : TA) : TI := fun σ H R => ta σ H fun vs H1 => ∃ a xs, vs = [.ref a] ∧ SqT K H1 a xs ∧ R (IteT K a) H1
theorem pi_enumT {X : Cx} {K : PySem.W.Frag} {e : Expr} {ta : TA} {p pos tpos : Pos} {elts : List Expr} {kk : Nat} (hg : Gl X "enumerate") (hm : X.mg "enumerate" = none) (ha : PA X [e] ta)
    (hs : starEach [e] X.env = [(false, eval e X.env)] := by rfl) (hK : X.K = K := by rfl) : PI X (.Tuple elts kk tpos) (.Call (.Name "enumerate" p) [e] [] pos) (iEnumT K ta) := by
  subst hK
  constructor
  intro pins s σ H R I h
  refine Call_ ?_
  refine ld_blt I hg hm boot_enumerate (PyProof.Rows.callWith_type1 (thn (ha.run pos pins s σ H _ I h) ?_) hs rfl)
  rintro us s1 ⟨vs, H1, I1, r1, a, xs, rfl, hq, q⟩
  cases r1 with
  | cons r rr =>
    cases rr
    cases r
    obtain ⟨its, rv, tp, hz⟩ := I1.tuple hq
    have al : a < s1.heap.objs.size := by
      obtain ⟨o, ho, _⟩ := tp
      exact Heap.lt_size ho
    refine enumCall1 (begins_tuple a its.toArray) tp fun h' he hit hsz hk => wpAny_pyIter_enum he ?_
    have I2 : Inv X pins σ H1 { s1 with heap := h' } := I1.kept (t' := s1.toks) hk
    refine ⟨s1.heap.objs.size + 1, [s1.heap.objs.size + 1, s1.heap.objs.size], _, _, H1, rfl, I2, turnET a (s1.heap.objs.size + 1) s1.heap.objs.size,
      ⟨⟨.none, he⟩, ⟨_, hit, rfl, rfl⟩, Nat.succ_ne_self _, Nat.ne_of_lt al, Nat.ne_of_gt (Nat.lt_succ_of_lt al)⟩, fun b hb => ?_, q⟩
    have le : s1.heap.objs.size ≤ b := by
      rcases List.mem_cons.mp hb with rfl | hb
      · exact Nat.le_succ _
      · rcases List.mem_cons.mp hb with rfl | hb
        · exact Nat.le_refl _
        · cases hb
    exact I1.fpOk le (I1.hok.fresh le)
theorem walkET {K : PySem.W.Frag} {a : Addr} {xs : List V} : Walk (IteT K a) xs.length (fun H => SqT K H a xs) (YPair (fun i => some (.int (i : Nat))) (fun i => xs[i]?)) := by
  refine ⟨fun i _ hi q => ⟨xs, xs[i], q, List.getElem?_eq_getElem hi⟩, fun _ q => ⟨xs, q, rfl⟩, ?_⟩
  rintro i H v H' _ q ⟨T, x, h1, h2, h3, h4⟩
  exact ⟨T, .int (i : Nat), x, h1, h2, h3, rfl, h4 xs q⟩
end GL

namespace Nm
open PySem PySem.Spec PyProof.Rows L2 GL
/-! sCso -/
abbrev nCso : List Str := ["_law_table_here", "_law_led", "_law_found", "_law_sign", "_law_row", "_law_near"]
/-! ### marks called otherwise -/
def rangeI (n : Nat) : List Int := (List.range n).map fun (i : Nat) => (i : Int)
theorem rangeI_length (n : Nat) : (rangeI n).length = n := by
  unfold rangeI
  rw [List.length_map, List.length_range]
theorem mem_rangeI {n : Nat} {x : Int} : x ∈ rangeI n ↔ 0 ≤ x ∧ x < n := by
  unfold rangeI
  rw [List.mem_map]
  constructor
  · rintro ⟨i, hi, rfl⟩
    rw [List.mem_range] at hi
    omega
  · rintro ⟨h0, h1⟩
    exact ⟨x.toNat, List.mem_range.mpr (by omega), by omega⟩
theorem nodup_rangeI (n : Nat) : (rangeI n).Nodup := by
  unfold rangeI
  refine List.Pairwise.map _ (fun a b h z => h ?_) List.nodup_range
  omega
/-- the name of a mark -/
def at_ (ms : List Int) (x : Int) : Int := ms.getD x.toNat 0
/-- row' holds the names of row, from the least on -/
def RowC (ms row row' : List Int) : Prop := row'.Perm (row.map (at_ ms)) ∧ row'.Pairwise (· ≤ ·)
def Called (T T' : List (List Int)) (ms : List Int) : Prop := T'.length = T.length ∧ ∀ (s : Nat) (row : List Int) (j : Int), T[s]? = some row → ms[s]? = some j → ∃ row', T'[j.toNat]? = some row' ∧ RowC ms row row'
theorem putK_length {κ : Type} [DecidableEq κ] (kvs : List (κ × V)) (k : κ) (v : V) : (putK kvs k v).length ≤ kvs.length + 1 := by
  unfold putK
  split
  · rw [List.length_map]
    omega
  · rw [List.length_append]
    exact Nat.le_refl _
def Sq (K : PySem.W.Frag) (H : Hp) (a : Addr) (xs : List V) : Prop := SqL K H a xs ∨ SqT K H a xs
theorem Sq.same {K : PySem.W.Frag} {H H' : Hp} {a : Addr} {xs : List V} (h : Sq K H a xs) (s : Same H H') : Sq K H' a xs := h.elim (fun z => .inl (s.seq z)) fun z => .inr (Nm.Same.seqT s z)
theorem ixSeqK {X : Cx} {K : PySem.W.Frag} (hK : X.K = K := by rfl) : IxR X (rIx K) := by
  subst hK
  exact ix_seq
theorem rIx_of {K : PySem.W.Frag} {H : Hp} {a : Addr} {xs : List V} {i : Int} {v : V} {Q : VK} (h : Sq K H a xs) (e : atI xs i = some v) (q : Q v H) : rIx K (.ref a) (.int i) H Q :=
  h.elim (fun z => .inl ⟨a, xs, i, v, rfl, rfl, z, e, q⟩) fun z => .inr (.inl ⟨a, xs, i, v, rfl, rfl, z, e, q⟩)
theorem at_get {ms : List Int} {x : Int} (h0 : 0 ≤ x) (h1 : x < (ms.length : Int)) : atI (ms.map V.int) x = some (.int (at_ ms x)) := by
  have hi : x.toNat < ms.length := by omega
  have z := atI_nat (xs := ms.map V.int) (j := x.toNat) (v := .int (at_ ms x)) (by
    rw [List.getElem?_map, List.getElem?_eq_getElem hi]
    unfold at_
    rw [List.getD_eq_getElem?_getD, List.getElem?_eq_getElem hi]
    rfl)
  have e : ((x.toNat : Nat) : Int) = x := by omega
  rw [e] at z
  exact z
section
variable {P : Program} {w : World} {K : PySem.W.Frag} {mg : Str → Option Value} {base : Heap}
def spCso (K : PySem.W.Frag) : Sp := fun vs H Q _ => ∃ (p l : Addr) (T : List (List Int)) (ms : List Int), vs = [.ref p, .ref l] ∧ Tbl H p T ∧ Sq K H l (ms.map V.int) ∧ T.length ≤ 1000 ∧ ms.Perm (rangeI T.length) ∧
  (∀ row ∈ T, row.length < 64 ∧ ∀ x ∈ row, 0 ≤ x ∧ x < (T.length : Int)) ∧
  ∀ (p' : Addr) (T' : List (List Int)) (H' : Hp), H p' = none → Same H H' → Tbl H' p' T' → Called T T' ms → Q (.ref p') H'
end
end Nm

namespace Nm
open PySem PySem.Spec PyProof.Rows L2 GL
/-! sChg -/
abbrev nChg : List Str := ["_law_pot_here", "_law_table_here", "_law_rows", "_law_turn", "_law_sign", "_law_near", "_law_row"]
/-! ### rules -/
def Good (n : Nat) (row : List Int) : Prop := row.Pairwise (· < ·) ∧ ∀ x ∈ row, 0 ≤ x ∧ x < (n : Int)
def IsRule (T : List (List Int)) : Prop := 1 ≤ T.length ∧ T.length ≤ 16 ∧ ∀ row ∈ T, Good T.length row
theorem asc_len (n : Nat) : ∀ (row : List Int) (a : Nat), row.Pairwise (· < ·) → (∀ x ∈ row, (a : Int) ≤ x ∧ x < (n : Int)) → row.length + a ≤ n ∨ row = []
  | [], _, _, _ => .inr rfl
  | x :: r, a, hp, hx => by
    have h0 := hx x List.mem_cons_self
    have hp' := List.pairwise_cons.mp hp
    rcases asc_len n r (x.toNat + 1) hp'.2 (fun y hy => ⟨by have := hp'.1 y hy; omega, (hx y (List.mem_cons_of_mem _ hy)).2⟩) with h | h
    · left
      rw [List.length_cons]
      omega
    · left
      subst h
      simp
      omega
theorem Good.len {n : Nat} {row : List Int} (h : Good n row) : row.length ≤ n := by
  rcases asc_len n row 0 h.1 h.2 with z | z
  · omega
  · subst z
    exact Nat.zero_le _
theorem Good.nodup {n : Nat} {row : List Int} (h : Good n row) : row.Nodup := h.1.imp fun h => Int.ne_of_lt h
theorem strict_of {l : List Int} (h : l.Pairwise (· ≤ ·)) (nd : l.Nodup) : l.Pairwise (· < ·) :=
  (List.Pairwise.and h nd).imp fun ⟨a, b⟩ => by omega
theorem Good.sub {n : Nat} {row r : List Int} (h : Good n row) (s : r.Sublist row) : Good n r := ⟨h.1.sublist s, fun x hx => h.2 x (s.subset hx)⟩
/-! ### lists of rows that change -/
structure LR (H : Hp) (ls : List Addr) (T : List (List Int)) : Prop where
  len : ls.length = T.length
  at' : ∀ (i : Nat) (a : Addr) (row : List Int), ls[i]? = some a → T[i]? = some row → H a = some (.lst (row.map V.int))
  inj : ∀ (i j : Nat) (a : Addr), ls[i]? = some a → ls[j]? = some a → i = j
theorem inV_int (x : Int) : ∀ row : List Int, inV (.int x) (row.map V.int) = decide (x ∈ row)
  | [] => by simp [inV]
  | y :: r => by
    have ih := inV_int x r
    unfold inV at ih ⊢
    rw [List.map_cons, List.any_cons, ih]
    have e : eqV (.int y) (.int x) = decide (y = x) := by
      by_cases h : y = x
      · subst h
        simp [eqV]
      · simp [eqV, h]
    rw [e]
    by_cases h : y = x
    · subst h
      simp
    · have h' : ¬ x = y := fun z => h z.symm
      simp [h, h']
theorem flat_ints (row : List Int) : (row.map V.int).all flatV = true := by
  rw [List.all_eq_true]
  intro x hx
  obtain ⟨y, _, rfl⟩ := List.mem_map.mp hx
  rfl
theorem first_at {row : List Int} {x : Int} (h : x ∈ row) : ∃ (j : Nat), row[j]? = some x ∧ ∀ (m : Nat), m < j → row[m]? ≠ some x := by
  induction row with
  | nil => cases h
  | cons y r ih =>
    by_cases e : y = x
    · subst e
      exact ⟨0, rfl, fun m hm => absurd hm (Nat.not_lt_zero _)⟩
    · have hr : x ∈ r := by
        rcases List.mem_cons.mp h with z | z
        · exact absurd z.symm e
        · exact z
      obtain ⟨j, h1, h2⟩ := ih hr
      refine ⟨j + 1, by simpa using h1, fun m hm => ?_⟩
      cases m with
      | zero =>
        intro z
        exact e (by simpa using z)
      | succ m =>
        have := h2 m (by omega)
        simpa using this
theorem mem_set {α : Type} {l : List α} {i : Nat} {a x : α} (h : x ∈ l.set i a) : x ∈ l ∨ x = a := List.mem_or_eq_of_mem_set h
theorem ixN_of {n : Nat} {k : Int} (h0 : 0 ≤ k) (h1 : k < (n : Int)) : ixN n k = some k.toNat := by
  unfold ixN
  rw [if_pos h0, if_pos h1]
/-- the rows between two turns -/
def Mid (H0 H : Hp) (p L : Addr) (m c : Nat) : Prop := ∃ (ls : List Addr) (T : List (List Int)), H L = some (.lst (ls.map V.ref)) ∧ LR H ls T ∧ (∀ a ∈ ls, H0 a = none ∧ a ≠ L) ∧ T.length = m ∧ (∀ row ∈ T, Good m row) ∧ Pot H p c ∧ Kp p H0 H
theorem Mid.kp {H0 H H' : Hp} {p L : Addr} {m c c' : Nat} {xs : List V} (h : Mid H0 H p L m c) (k : Kp p H H') (hp : Pot H' p c') (h0 : H0 p = some (.lst xs)) (nL : H0 L = none) : Mid H0 H' p L m c' := by
  obtain ⟨ls, T, hL, ⟨l1, l2, l3⟩, fr, lt, gd, _, kp⟩ := h
  have nLp : L ≠ p := fun z => by subst z; rw [h0] at nL; cases nL
  refine ⟨ls, T, k _ _ nLp hL, ⟨l1, fun i a row hi hr => k _ _ (fun z => ?_) (l2 i a row hi hr), l3⟩, fr, lt, gd, hp, kp.trans k⟩
  have := (fr a (List.mem_of_getElem? hi)).1
  subst z
  rw [h0] at this
  cases this
section
variable {P : Program} {w : World} {K : PySem.W.Frag} {mg : Str → Option Value} {base : Heap}
def spChg (K : PySem.W.Frag) : Sp := fun vs H Q _ => ∃ (p a : Addr) (n : Nat) (T : List (List Int)), vs = [.ref p, .ref a] ∧ Pot H p n ∧ n + 7 < 1000000 ∧ Tbl H a T ∧ IsRule T ∧
  ∀ (o : Addr) (T' : List (List Int)) (H' : Hp), H o = none → Pot H' p (n + 7) → Kp p H H' → Tbl H' o T' → IsRule T' → T'.length = T.length → Q (.ref o) H'
end
end Nm

namespace Nm
open PySem PySem.Spec PyProof.Rows L2 GL
/-! sTab -/
abbrev nTab : List Str := ["_law_pot_here", "_law_most", "_law_way", "_law_size", "_law_signs", "_law_table_here", "_law_sign", "_law_wide"]
theorem allK {X : Cx} {K : PySem.W.Frag} (hc : X.calm = true) (hK : X.K = K := by rfl) : CallR X (.builtin "all") (rAll K) := by
  subst hK
  exact cr_all hc
theorem rgV_range (n : Nat) : rgV 0 (n : Int) = (rangeI n).map V.int := by
  unfold rgV rangeI
  rw [List.map_map, show ((n : Int) - 0).toNat = n by omega]
  refine List.map_congr_left fun i _ => ?_
  show V.int (0 + (i : Int)) = V.int (i : Int)
  rw [Int.zero_add]
theorem rangeI_asc (n : Nat) : (rangeI n).Pairwise (· < ·) := by
  unfold rangeI
  refine List.Pairwise.map _ (fun a b h => ?_) List.pairwise_lt_range
  omega
theorem good_sub {n : Nat} {row : List Int} (h : row.Sublist (rangeI n)) : Good n row := ⟨(rangeI_asc n).sublist h, fun x hx => mem_rangeI.mp (h.subset hx)⟩
instance (n : Nat) (row : List Int) : Decidable (Good n row) := inferInstanceAs (Decidable (_ ∧ _))
instance (T : List (List Int)) : Decidable (IsRule T) := inferInstanceAs (Decidable (_ ∧ _))
theorem named_rule {m : Nat} (h1 : 1 ≤ m) (h4 : m ≤ 4) : IsRule (ofPrs (prsTo m m)) := by
  obtain rfl | rfl | rfl | rfl : m = 1 ∨ m = 2 ∨ m = 3 ∨ m = 4 := by omega
  all_goals decide +kernel
theorem at_mem {ms : List Int} {x : Int} (h0 : 0 ≤ x) (h1 : x < (ms.length : Int)) : at_ ms x ∈ ms := by
  have hi : x.toNat < ms.length := by omega
  unfold at_
  rw [List.getD_eq_getElem?_getD, List.getElem?_eq_getElem hi]
  exact List.getElem_mem hi
theorem at_some {ms : List Int} {x : Int} (h0 : 0 ≤ x) (h1 : x < (ms.length : Int)) : ms[x.toNat]? = some (at_ ms x) := by
  have hi : x.toNat < ms.length := by omega
  unfold at_
  rw [List.getD_eq_getElem?_getD, List.getElem?_eq_getElem hi]
  rfl
theorem at_inj {ms : List Int} (nd : ms.Nodup) {x y : Int} (h0 : 0 ≤ x) (h1 : x < (ms.length : Int)) (k0 : 0 ≤ y) (k1 : y < (ms.length : Int)) (e : at_ ms x = at_ ms y) : x = y := by
  have hx := at_some h0 h1
  have hy := at_some k0 k1
  rw [e] at hx
  have := (List.getElem?_inj (by omega) nd).mp (hx.trans hy.symm)
  omega
theorem rowC_good {n : Nat} {ms row row' : List Int} (g : Good n row) (pm : ms.Perm (rangeI n)) (h : RowC ms row row') : Good n row' := by
  have lm : ms.length = n := by rw [pm.length_eq, rangeI_length]
  have ndm : ms.Nodup := pm.nodup_iff.mpr (nodup_rangeI _)
  have nd : row'.Nodup := by
    refine h.1.nodup_iff.mpr ?_
    refine List.pairwise_map.mpr (List.Pairwise.imp_of_mem (fun {a b} ha hb hab z => ?_) g.nodup)
    have h1 := g.2 a ha
    have h2 := g.2 b hb
    exact hab (at_inj ndm h1.1 (by omega) h2.1 (by omega) z)
  refine ⟨strict_of h.2 nd, fun x hx => ?_⟩
  obtain ⟨y, hy, rfl⟩ := List.mem_map.mp (h.1.mem_iff.mp hx)
  have h1 := g.2 y hy
  exact mem_rangeI.mp (pm.mem_iff.mp (at_mem h1.1 (by omega)))
theorem called_rule {T T' : List (List Int)} {ms : List Int} (r : IsRule T) (pm : ms.Perm (rangeI T.length)) (c : Called T T' ms) : IsRule T' := by
  obtain ⟨l, hc⟩ := c
  have lm : ms.length = T.length := by rw [pm.length_eq, rangeI_length]
  refine ⟨by rw [l]; exact r.1, by rw [l]; exact r.2.1, fun row' hr => ?_⟩
  rw [l]
  obtain ⟨j, hj⟩ := List.mem_iff_getElem?.mp hr
  have jl := (List.getElem?_eq_some_iff.mp hj).1
  have jm : (j : Int) ∈ ms := pm.mem_iff.mpr (mem_rangeI.mpr ⟨by omega, by omega⟩)
  obtain ⟨s, hs⟩ := List.mem_iff_getElem?.mp jm
  have sl := (List.getElem?_eq_some_iff.mp hs).1
  obtain ⟨row, hrow⟩ : ∃ row, T[s]? = some row := ⟨_, List.getElem?_eq_getElem (by omega)⟩
  obtain ⟨row2, h1, h2⟩ := hc s row j hrow hs
  rw [Int.toNat_natCast, hj] at h1
  cases h1
  exact rowC_good (r.2.2 row (List.mem_of_getElem? hrow)) pm h2
section
variable {P : Program} {w : World} {K : PySem.W.Frag} {mg : Str → Option Value} {base : Heap}
/-- what the drawing defs lean on -/
structure Lib (K : PySem.W.Frag) (mg : Str → Option Value) : Prop where
  len : mg "len" = none
  abs : mg "abs" = none
  list : mg "list" = none
  tuple : mg "tuple" = none
  range : mg "range" = none
  enum : mg "enumerate" = none
  sorted : mg "sorted" = none
def spTab (K : PySem.W.Frag) : Sp := fun vs H Q _ => ∃ (p : Addr) (n : Nat), vs = [.ref p, .int 16] ∧ Pot H p n ∧ n + 1000 < 1000000 ∧
  ∀ (o : Addr) (T : List (List Int)) (H' : Hp), Pot H' p (n + 1000) → Kp p H H' → Tbl H' o T → IsRule T → Q (.ref o) H'
end
end Nm

namespace Nm
open PySem PySem.Spec PyProof.Rows L2 GL
/-! ### stage 2's drawing: pot, take, of, shuffled -/
abbrev sPot2 : Stmt := topS 20
abbrev sTake2 : Stmt := topS 21
abbrev sOf2 : Stmt := topS 22
abbrev sShuf2 : Stmt := topS 23
theorem scPot2 : FnScope ["_law_script", "_law_k", "_law_cell", "_law_digits"] ["_law_script", "_law_k"] (defScope sPot2) := ⟨rfl, rfl, rfl, by decide +kernel, rfl, by decide +kernel, by decide +kernel⟩
theorem scTake2 : FnScope ["_law_pot_here", "_law_many", "_law_digit", "_law_prime", "_law_mixed"] ["_law_pot_here", "_law_many"] (defScope sTake2) := ⟨rfl, rfl, rfl, by decide +kernel, rfl, by decide +kernel, by decide +kernel⟩
theorem scOf2 : FnScope ["_law_pot_here", "_law_some"] ["_law_pot_here", "_law_some"] (defScope sOf2) := ⟨rfl, rfl, rfl, by decide +kernel, rfl, by decide +kernel, by decide +kernel⟩
theorem scShuf2 : FnScope ["_law_pot_here", "_law_many", "_law_rest", "_law_found"] ["_law_pot_here", "_law_many"] (defScope sShuf2) := ⟨rfl, rfl, rfl, by decide +kernel, rfl, by decide +kernel, by decide +kernel⟩
theorem bit_bd (b : Bool) : -(2 ^ 64) < (if b = true then (1 : Int) else 0) ∧ (if b = true then (1 : Int) else 0) < 2 ^ 64 := by cases b <;> exact ⟨by decide, by decide⟩
theorem bit_nn (b : Bool) : 0 ≤ (if b = true then (1 : Int) else 0) := by cases b <;> decide
theorem prime_at2 {r : Int} (h0 : 0 ≤ r) (h1 : r < 4) :
    ∃ m : Int, atI [V.int 2305843009213693951, .int 2305843009213693921, .int 2305843009213693907, .int 2305843009213693723] r = some (.int m) ∧ 2305843009213693723 ≤ m ∧ m ≤ 2305843009213693951 := by
  obtain rfl | rfl | rfl | rfl : r = 0 ∨ r = 1 ∨ r = 2 ∨ r = 3 := by omega
  all_goals exact ⟨_, rfl, by decide, by decide⟩
section
variable {P : Program} {w : World} {K : PySem.W.Frag} {mg : Str → Option Value} {base : Heap}
theorem ok_pot2 {f : Addr} {fd : FuncData} {k : Nat} (F : Fun K "_law_pot" "_law_pot" sPot2 f fd) (ml : mg "len" = none) (ma : mg "abs" = none) (mi : mg "int" = none) :
    FnOk P w K mg base CX0 (k + 1) f fd ["_law_script", "_law_k"] (spPot K) := by
  refine F.ok scPot2 (fun vs H Q E h => ?_) (fun cdv A outer s H vs Q E hr h => ?_)
  · obtain ⟨a, ns, k, rfl, _⟩ := h
    rfl
  · obtain ⟨a, ns, k, rfl, hS, k0, k3, q⟩ := h
    refine ⟨_, pss_cons (ps_set (i := 2) scPot2.nd rfl (.inl rfl) (pe_cut (pe_ifExp (pt_cmpR op_lt (pv 1) (pe_callB call_len_seq (by rfl) ml PySem.boot_len (pa_cons (pv 0) pa_nil)) (nomark _))
          (pe_ix ix_list (pv 0) (pv 1) (fun _ _ => rfl)) (pe_op op_add (pe_op op_mul pe_int (pv 1)) pe_int))))
      (pss_cons (ps_set (i := 3) scPot2.nd rfl (.inl rfl) (pe_cut (pe_op op_mul (pe_op op_mod (pe_callB call_abs (by rfl) ma (by decide +kernel) (pa_cons (pv 2) pa_nil)) (pe_op op_mulW (pe_op op_mulW (pe_op op_pow pe_int pe_int) (pe_op op_pow pe_int pe_int)) (pe_op op_pow pe_int pe_int)))
          (pe_callTy call_int1 (by rfl) mi (by decide +kernel) (pa_cons (pe_cmpR op_ge (pe_callB call_abs (by rfl) ma (by decide +kernel) (pa_cons (pv 2) pa_nil)) (pe_op op_pow pe_int pe_int) (nomark _)) pa_nil)))))
      (pss_one (ps_ret (pe_lst (pa_cons (pv 3) (pa_cons (pe_op op_mod (pe_op op_add (pe_op op_add (pe_op op_mul (pe_op op_mod (pv 2) pe_int) pe_int) (pe_op op_mul pe_int (pv 1))) pe_int) pe_int)
          (pa_cons pe_int pa_nil))))))), ?_⟩
    have hl : (ns.map V.int).length = ns.length := List.length_map _
    refine ⟨fun v H' => (∃ c, v = .int c) ∧ H' = H, ?_, ?_⟩
    · refine ⟨.int k, rfl, .ref a, rfl, a, _, rfl, .inl hS, _, _, rfl, rfl, _, rfl, ?_⟩
      refine ite2 (fun e => ?_) (fun e => ?_)
      · have hk : k < (ns.length : Int) := by
          have := of_decide_eq_true e
          rw [hl] at this
          exact this
        have hi : k.toNat < ns.length := by omega
        have ek : k = (k.toNat : Int) := by omega
        refine ⟨.ref a, rfl, .int k, rfl, a, _, k, .int ns[k.toNat], rfl, rfl, hS, ?_, ⟨_, rfl⟩, rfl⟩
        have z := atI_nat (xs := ns.map V.int) (j := k.toNat) (v := .int ns[k.toNat]) (by rw [List.getElem?_map, List.getElem?_eq_getElem hi]; rfl)
        rw [← ek] at z
        exact z
      · exact ⟨.int k, rfl, 7, k, rfl, rfl, .inl ⟨by decide, by decide⟩, _, _, rfl, rfl, ⟨_, rfl⟩, rfl⟩
    rintro v H' ⟨⟨c, rfl⟩, rfl⟩
    refine ⟨fun v H'' => (∃ c, v = .int c ∧ 0 ≤ c) ∧ H'' = H', ?_, ?_⟩
    · refine ⟨.int c, rfl, c, rfl, 10, 60, rfl, rfl, ⟨by decide, by decide, by decide⟩, 10, 60, rfl, rfl, ⟨by decide, by decide, by decide⟩, _, _, rfl, rfl, wide_mul (a := 200) (b := 200) (by decide +kernel) (by decide +kernel) (by decide) (by decide) (by decide), 10, 60, rfl, rfl, ⟨by decide, by decide, by decide⟩, _, _, rfl, rfl, wide_mul (a := 400) (b := 200) (by decide +kernel) (by decide +kernel) (by decide) (by decide) (by decide), _, _, rfl, rfl, (by show (0 : Int) < 10 ^ Int.toNat 60 * 10 ^ Int.toNat 60 * 10 ^ Int.toNat 60; decide +kernel), ?_⟩
      refine ⟨.int c, rfl, c, rfl, 10, 18, rfl, rfl, ⟨by decide, by decide, by decide⟩, _, _, rfl, rfl, .inr ⟨_, rfl, _, _, rfl, rfl, .inr ?_, ⟨_, rfl, ?_⟩, rfl⟩⟩
      · exact bit_bd _
      · refine Int.mul_nonneg (Int.emod_nonneg _ (by decide +kernel)) (bit_nn _)
    rintro v H'' ⟨⟨g, rfl, g0⟩, rfl⟩
    have hM := Int.emod_nonneg (c % 2305843009213693951 * 1000003 + 104729 * k + 71) (show (2305843009213693921 : Int) ≠ 0 by decide)
    have hM2 := Int.emod_lt_of_pos (c % 2305843009213693951 * 1000003 + 104729 * k + 71) (show (0 : Int) < 2305843009213693921 by decide)
    refine ⟨.int g, rfl, .int c, rfl, c, 2305843009213693951, rfl, rfl, (by show (0 : Int) < 2305843009213693951; decide), _, 1000003, rfl, rfl, .inr ⟨by decide, by decide⟩, .int k, rfl, 104729, k, rfl, rfl, .inl ⟨by decide, by decide⟩, _, _, rfl, rfl, _, _, rfl, rfl, _, _, rfl, rfl, (by show (0 : Int) < 2305843009213693921; decide), by show 3 ≤ sizeLine; decide, fun p np => ?_⟩
    exact q p _ np (same_upd np) ⟨_, _, _, upd_same, g0, hM, hM2, by decide, by decide⟩
theorem ok_take2 {f : Addr} {fd : FuncData} {k : Nat} (F : Fun K "_law_take" "_law_take" sTake2 f fd) :
    FnOk P w K mg base CX0 (k + 1) f fd ["_law_pot_here", "_law_many"] (spTake K) := by
  refine F.ok scTake2 (fun vs H Q E h => ?_) (fun cdv A outer s H vs Q E hr h => ?_)
  · obtain ⟨p, n, z, rfl, _⟩ := h
    rfl
  · obtain ⟨p, n, z, rfl, ⟨g, t, c, hp, g0, t0, t1, c0, c1⟩, hn, z1, z2, q⟩ := h
    have i0 : ∀ {a b d : V}, atI [a, b, d] 0 = some a := fun {a b d} => rfl
    have i1 : ∀ {a b d : V}, atI [a, b, d] 1 = some b := fun {a b d} => rfl
    have i2 : ∀ {a b d : V}, atI [a, b, d] 2 = some d := fun {a b d} => rfl
    refine ⟨_, pss_cons (ps_if (pt_cmpR op_gt (pe_ix ix_list (pv 0) pe_int (fun _ _ => rfl)) pe_int (nomark _))
          (pss_cons (ps_set (i := 2) scTake2.nd rfl (.inl rfl) (pe_op op_mod (pe_ix ix_list (pv 0) pe_int (fun _ _ => rfl)) (pv 1)))
          (pss_cons (ps_asg (pe_op op_fdivN (pe_ix ix_list (pv 0) pe_int (fun _ _ => rfl)) (pv 1)) (pg_sub (pv 0) pe_int set_list))
          (pss_one (ps_ret (pv 2))))) pss_nil)
      (pss_cons (ps_asg (pe_op op_add (pe_ix ix_list (pv 0) pe_int (fun _ _ => rfl)) pe_int) (pg_sub (pv 0) pe_int set_list))
      (pss_cons (ps_set (i := 3) scTake2.nd rfl (.inl rfl) (pe_cut (pe_ix ix_list (pe_lst (pa_cons pe_int (pa_cons pe_int (pa_cons pe_int (pa_cons pe_int pa_nil)))))
          (pe_op op_mod (pe_ix ix_list (pv 0) pe_int (fun _ _ => rfl)) pe_int) (fun _ _ => rfl))))
      (pss_cons (ps_set (i := 4) scTake2.nd rfl (.inl rfl) (pe_op op_mod (pe_op op_pow (pe_op op_add (pe_op op_add (pe_ix ix_list (pv 0) pe_int (fun _ _ => rfl))
            (pe_op op_mul (pe_op op_mul pe_int (pe_ix ix_list (pv 0) pe_int (fun _ _ => rfl))) (pe_ix ix_list (pv 0) pe_int (fun _ _ => rfl)))) pe_int) pe_int) (pv 3)))
      (pss_one (ps_ret (pe_op op_mod (pe_op op_fdivN (pe_op op_mod (pe_op op_mul (pv 4) (pe_op op_add (pe_op op_mod (pv 4) pe_int) (pe_ix ix_list (pv 0) pe_int (fun _ _ => rfl)))) (pv 3)) pe_int) (pv 1))))))), ?_⟩
    refine ⟨.ref p, rfl, p, _, 0, _, rfl, rfl, SqL.of hp, i0, g, 0, rfl, rfl, _, rfl, ite2 (fun e => ?_) (fun e => ?_)⟩
    · have hd := take_lt (m := g) z1
      refine ⟨.ref p, rfl, p, _, 0, _, rfl, rfl, SqL.of hp, i0, .int z, rfl, g, z, rfl, rfl, (by show (0 : Int) < z; omega), ?_⟩
      refine ⟨.ref p, rfl, p, _, 0, _, rfl, rfl, SqL.of hp, i0, .int z, rfl, g, z, rfl, rfl, ⟨by omega, by omega⟩, .ref p, rfl, p, _, 0, 0, rfl, rfl, hp, rfl, ?_⟩
      refine ⟨_, rfl, q _ _ hd.1 hd.2 ⟨_, t, c, upd_same, ?_, t0, t1, c0, by omega⟩ Kp.upd⟩
      exact Int.fdiv_nonneg g0 (by omega)
    · refine ⟨.ref p, rfl, p, _, 2, _, rfl, rfl, SqL.of hp, i2, c, 1, rfl, rfl, .ref p, rfl, p, _, 2, 2, rfl, rfl, hp, rfl, ?_⟩
      have hp1 : upd H p (.lst ([V.int g, .int t, .int c].set 2 (.int (c + 1)))) p = some (.lst [.int g, .int t, .int (c + 1)]) := upd_same
      generalize eH : upd H p (.lst ([V.int g, .int t, .int c].set 2 (.int (c + 1)))) = H1 at hp1 ⊢
      have k1 : Kp p H H1 := by
        rw [← eH]
        exact Kp.upd
      generalize ed : c + 1 = d at hp1
      have d0 : 0 ≤ d := by omega
      have d1 : d ≤ 1000000 := by omega
      refine ⟨fun v H' => (∃ m : Int, v = .int m ∧ 2305843009213693723 ≤ m ∧ m ≤ 2305843009213693951) ∧ Same H1 H', ?_, ?_⟩
      · refine ⟨by show 4 ≤ sizeLine; decide, fun l nl => ?_⟩
        have s2 := same_upd (o := .lst [V.int 2305843009213693951, .int 2305843009213693921, .int 2305843009213693907, .int 2305843009213693723]) nl
        have h4 := take_lt (m := d) (z := 4) (by decide)
        obtain ⟨m, em, m1, m2⟩ := prime_at2 h4.1 h4.2
        exact ⟨.ref p, rfl, p, _, 2, _, rfl, rfl, SqL.of (s2 _ _ hp1), i2, d, 4, rfl, rfl, (by show (0 : Int) < 4; decide), l, _, _, _, rfl, rfl, SqL.of upd_same, em, ⟨m, rfl, m1, m2⟩, s2⟩
      rintro v H2 ⟨⟨m, rfl, m1, m2⟩, s2⟩
      have hp2 := s2 _ _ hp1
      have b1 : 0 ≤ 15485863 * d * d ∧ 15485863 * d * d ≤ 15485863 * 1000000 * 1000000 := by
        refine ⟨Int.mul_nonneg (by omega) d0, Int.mul_le_mul (by omega) d1 d0 (by omega)⟩
      have hm := take_lt (m := (t + 15485863 * d * d + 7) ^ Int.toNat 3) (z := m) (by omega)
      refine ⟨.ref p, rfl, p, _, 1, _, rfl, rfl, SqL.of hp2, i1, .ref p, rfl, p, _, 2, _, rfl, rfl, SqL.of hp2, i2, 15485863, d, rfl, rfl, .inl ⟨by decide, by decide⟩,
        .ref p, rfl, p, _, 2, _, rfl, rfl, SqL.of hp2, i2, _, d, rfl, rfl, .inr ⟨by omega, by omega⟩, t, _, rfl, rfl, _, 7, rfl, rfl, _, 3, rfl, rfl, ⟨by decide, by decide, by omega⟩, .int m, rfl, _, m, rfl, rfl, (by show (0 : Int) < m; omega), ?_⟩
      refine ⟨_, rfl, _, rfl, _, 1000003, rfl, rfl, (by show (0 : Int) < 1000003; decide), .ref p, rfl, p, _, 2, _, rfl, rfl, SqL.of hp2, i2, _, _, rfl, rfl, _, _, rfl, rfl, .inl ⟨by have := hm.1; omega, by have := hm.2; omega⟩,
        .int m, rfl, _, m, rfl, rfl, (by show (0 : Int) < m; omega), _, 4099, rfl, rfl, ⟨by decide, by decide⟩, .int z, rfl, _, z, rfl, rfl, (by show (0 : Int) < z; omega), ?_⟩
      refine q _ _ (take_lt z1).1 (take_lt z1).2 ⟨g, t, d, hp2, g0, t0, t1, d0, by omega⟩ (k1.trans (.of s2))
/-- one of a list or a tuple -/
def spOf2 (K : PySem.W.Frag) : Sp := fun vs H Q _ => ∃ (p a : Addr) (n : Nat) (xs : List V), vs = [.ref p, .ref a] ∧ Pot H p n ∧ n < 1000000 ∧ Sq K H a xs ∧ (∀ H', Kp p H H' → Sq K H' a xs) ∧ xs ≠ [] ∧ xs.length < 1000000 ∧
  ∀ (i : Nat) (v : V) (H' : Hp), xs[i]? = some v → Pot H' p (n + 1) → Kp p H H' → Q v H'
theorem ok_of2 {f fT : Addr} {fd fdT : FuncData} {k : Nat} (F : Fun K "_law_of" "_law_of" sOf2 f fd) (FT : Fun K "_law_take" "_law_take" sTake2 fT fdT) (bT : Binds K fdT ["_law_pot_here", "_law_many"] []) (gT : mg "_law_take" = some (.ref fT)) (ml : mg "len" = none) :
    FnOk P w K mg base CX0 (k + 2) f fd ["_law_pot_here", "_law_some"] (spOf2 K) := by
  have GT : FnOk P w K mg base CX0 (k + 1) fT fdT ["_law_pot_here", "_law_many"] (spTake K) := ok_take2 FT
  refine F.ok scOf2 (fun vs H Q E h => ?_) (fun cdv A outer s H vs Q E hr h => ?_)
  · obtain ⟨p, a, n, xs, rfl, _⟩ := h
    rfl
  · obtain ⟨p, a, n, xs, rfl, hp, hn, hS, hk, h0, hl, q⟩ := h
    refine ⟨_, pss_one (ps_ret (pe_ix (ixSeqK (K := K)) (pv 1) (pe_call GT hr (by rfl) gT FT.kp bT .nil pass0 (pa_cons (pv 0) (pa_cons (pe_callB (lenK (K := K)) (by rfl) ml PySem.boot_len (pa_cons (pv 1) pa_nil)) pa_nil))) (fun _ _ => rfl))), ?_⟩
    have l0 : 0 < xs.length := List.length_pos_iff.mpr h0
    refine ⟨.ref a, rfl, .ref p, rfl, .ref a, rfl, a, xs, rfl, hS, p, n, _, rfl, hp, hn, by omega, by omega, fun r H' r0 r1 hp' kp => ?_⟩
    exact rIx_of (hk H' kp) (atI_of r0 r1) (q r.toNat _ H' (List.getElem?_eq_getElem (by omega)) hp' kp)
theorem sq_list {H : Hp} {p a : Addr} {xs : List V} (h : H a = some (.lst xs)) (n : a ≠ p) : ∀ H', Kp p H H' → Sq K H' a xs := fun H' k => .inl (SqL.of (k _ _ n h))
/-- numbers in a drawn order -/
def spShuf2 (K : PySem.W.Frag) : Sp := fun vs H Q _ => ∃ (p : Addr) (n m : Nat), vs = [.ref p, .int m] ∧ Pot H p n ∧ n + m < 1000000 ∧ m < 1000 ∧
  ∀ (o : Addr) (ms : List Int) (H' : Hp), ms.Perm (rangeI m) → H' o = some (.tup (ms.map V.int)) → Pot H' p (n + m) → Kp p H H' → Q (.ref o) H'
set_option maxHeartbeats 2000000 in
theorem ok_shuf2 {f fT : Addr} {fd fdT : FuncData} {k : Nat} (F : Fun K "_law_shuffled" "_law_shuffled" sShuf2 f fd) (FT : Fun K "_law_take" "_law_take" sTake2 fT fdT) (bT : Binds K fdT ["_law_pot_here", "_law_many"] []) (gT : mg "_law_take" = some (.ref fT)) (B : Lib K mg) :
    FnOk P w K mg base CX0 (k + 2) f fd ["_law_pot_here", "_law_many"] (spShuf2 K) := by
  have GT : FnOk P w K mg base CX0 (k + 1) fT fdT ["_law_pot_here", "_law_many"] (spTake K) := ok_take2 FT
  refine F.ok scShuf2 (fun vs H Q E h => ?_) (fun cdv A outer s H vs Q E hr h => ?_)
  · obtain ⟨p, n, m, rfl, _⟩ := h
    rfl
  · obtain ⟨p, n, m, rfl, hp, hn, hm, q⟩ := h
    refine ⟨_, pss_cons (ps_par (i := 2) (j := 3) (by rfl) scShuf2.nd rfl rfl (by decide) rfl rfl (pa_cons (pe_listRg (by rfl) (by rfl) B.list (prg_1 (by rfl) B.range (pv 1))) (pa_cons (pe_lst pa_nil) pa_nil)) (by rfl))
      (pss_cons (ps_while PassesOwn.never (pt_cmpR (op_neD hr.units) (pv 2) (pe_lst pa_nil) (nomark _))
        (pss_one (ps_expr (pe_bm PySem.F.plainAttrs_list PySem.F.slot_list_append PySem.F.type_list_append mt_append (pv 3)
          (pa_cons (pe_bm PySem.F.plainAttrs_list PySem.F.slot_list_pop PySem.F.type_list_pop mt_popAt (pv 2)
            (pa_cons (pe_call GT hr (by rfl) gT FT.kp bT .nil pass0 (pa_cons (pv 0) (pa_cons (pe_callB call_len_seq (by rfl) B.len PySem.boot_len (pa_cons (pv 2) pa_nil)) pa_nil))) pa_nil)) pa_nil)))))
      (pss_one (ps_ret (pe_callTy (tupOfK (K := K)) (by rfl) B.tuple (by decide +kernel) (pa_cons (pv 3) pa_nil))))), ?_⟩
    refine ⟨.int m, rfl, (m : Int), rfl, RgOk.of_le (by decide) (by omega) (by decide) (by omega), fun l nl => ⟨Nat.zero_le _, fun o no => ?_⟩⟩
    rw [rgV_range] at no ⊢
    obtain ⟨ns, ens⟩ : ∃ ns, ns = rangeI m := ⟨_, rfl⟩
    rw [← ens] at no ⊢
    have lns : ns.length = m := by rw [ens, rangeI_length]
    have s1 := same_upd (o := .lst (ns.map V.int)) nl
    have s2 := same_upd (H := upd H l (.lst (ns.map V.int))) (o := .lst []) no
    have nlo : l ≠ o := ne_of_none upd_same no
    refine ⟨_, _, rfl, fun c σ H' => ∃ (ls fs : List Int), σ = [some (.ref p), some (.int m), some (.ref l), some (.ref o)] ∧ c = ls.length ∧ H' l = some (.lst (ls.map V.int)) ∧ H' o = some (.lst (fs.map V.int)) ∧
      (fs ++ ls).Perm ns ∧ Pot H' p (n + fs.length) ∧ Kp p H H', ⟨ns.length, ns, [], rfl, rfl, s2 _ _ upd_same, upd_same, List.Perm.refl _, (hp.same s1).same s2, .of (s1.trans s2)⟩, fun c σ H1 hW => ?_⟩
    obtain ⟨ls, fs, rfl, rfl, hL, hO, pm, hp1, kp1⟩ := hW
    have lenP : fs.length + ls.length = ns.length := by
      have := pm.length_eq
      rw [List.length_append] at this
      exact this
    refine ⟨.ref l, rfl, Nat.zero_le _, fun e ne => ?_⟩
    have s3 := same_upd (o := .lst []) ne
    refine ⟨.list (ls.map PyData.int), .list [], .lst (SqL.of (s3 _ _ hL)) (dpInts ls), .lst (SqL.of upd_same) .nil, shapedL ls, shapedL [], _, rfl, ?_⟩
    rw [eqv_nil]
    have hL3 := s3 _ _ hL
    have hO3 := s3 _ _ hO
    have hp3 := hp1.same s3
    have kp3 := kp1.trans (.of s3)
    generalize upd H1 e (.lst []) = H3 at hL3 hO3 hp3 kp3 ⊢
    cases ls with
    | nil =>
      refine iteF ⟨.ref o, rfl, o, _, rfl, .inl ⟨SqL.of hO3, fun t nt => ?_⟩⟩
      have st := same_upd (o := .tup (fs.map V.int)) nt
      rw [List.append_nil, ens] at pm
      exact q t fs _ pm upd_same ((hp3.same st).mono (by simp at lenP; omega)) (kp3.trans (.of st))
    | cons x ls =>
      refine iteT ⟨fun σ H' => ∃ (ls' fs' : List Int), σ = [some (.ref p), some (.int m), some (.ref l), some (.ref o)] ∧ ls'.length = ls.length ∧ H' l = some (.lst (ls'.map V.int)) ∧ H' o = some (.lst (fs'.map V.int)) ∧
        (fs' ++ ls').Perm ns ∧ Pot H' p (n + fs'.length) ∧ Kp p H H', fun σ' H' hN => ?_, ?_⟩
      · obtain ⟨ls', fs', e1, e2, e3⟩ := hN
        exact ⟨ls.length, by simp, ls', fs', e1, e2.symm, e3⟩
      · obtain ⟨xs0, hp0⟩ := pot_lst hp
        have npl : l ≠ p := fun z => by
          subst z
          rw [hp0] at nl
          cases nl
        have npo : o ≠ p := fun z => by
          subst z
          rw [s1 _ _ hp0] at no
          cases no
        have lx : ((x :: ls).map V.int).length = ls.length + 1 := by rw [List.length_map, List.length_cons]
        refine ⟨.ref o, rfl, .inl ⟨rfl, _, SqL.of hO3⟩, .ref l, rfl, .inl ⟨rfl, _, SqL.of hL3⟩, .ref p, rfl, .ref l, rfl, l, _, rfl, .inl (SqL.of hL3), p, n + fs.length, _, rfl, hp3, ?_, ?_, ?_, fun r H4 r0 r1 hp4 kp4 => ?_⟩
        · simp at lenP
          omega
        · rw [lx]
          omega
        · rw [lx]
          simp at lenP
          omega
        · have hL4 := kp4 _ _ npl hL3
          have hO4 := kp4 _ _ npo hO3
          have hi : r.toNat < (x :: ls).length := by
            rw [lx] at r1
            rw [List.length_cons]
            omega
          have hg : (x :: ls)[r.toNat]? = some (x :: ls)[r.toNat] := List.getElem?_eq_getElem hi
          have pm2 := erase_perm hg
          generalize (x :: ls)[r.toNat] = y at hg pm2
          have hO5 : upd H4 l (.lst (((x :: ls).map V.int).eraseIdx r.toNat)) o = some (.lst (fs.map V.int)) := by
            rw [upd_ne nlo.symm]
            exact hO4
          refine ⟨l, _, r, r.toNat, .int y, rfl, rfl, hL4, by omega, by omega, seqIndex_of r0 r1, ?_, o, _, .int y, rfl, rfl, hO5, ?_, ?_⟩
          · rw [List.getElem?_map, hg]
            rfl
          · rw [List.length_map]
            simp at lenP
            exact lenLine (by omega)
          · refine ⟨(x :: ls).eraseIdx r.toNat, fs ++ [y], rfl, ?_, ?_, ?_, ?_, ?_, ?_⟩
            · have := pm2.length_eq
              simp at this
              omega
            · rw [upd_ne nlo, upd_same, map_eraseIdx]
            · rw [upd_same, List.map_append]
              rfl
            · refine List.Perm.trans ?_ pm
              rw [List.append_assoc]
              exact (List.Perm.refl fs).append pm2
            · obtain ⟨g, t, c, hq, rr⟩ := hp4
              refine ⟨g, t, c, ?_, ?_⟩
              · rw [upd_ne npo.symm, upd_ne npl.symm]
                exact hq
              · rw [List.length_append, List.length_singleton, ← Nat.add_assoc]
                exact rr
            · intro b ob nb hb
              have n1 : b ≠ l := ne_of_none hb nl
              have n2 : b ≠ o := ne_of_none hb (s1.free no)
              rw [upd_ne n2, upd_ne n1]
              exact kp4 _ _ nb (kp3 _ _ nb hb)
end
end Nm

namespace Nm
open PySem PySem.Spec PyProof.Rows L2 GL
abbrev sBelow : Stmt := topS 5
/-! sAsc -/
/-! sIsRule -/
theorem scBelow : FnScope ["value", "limit"] ["value", "limit"] (defScope sBelow) := ⟨rfl, rfl, rfl, by decide +kernel, rfl, by decide +kernel, by decide +kernel⟩
theorem isiK {X : Cx} {K : PySem.W.Frag} (hK : X.K = K := by rfl) : CallR X (.builtin "isinstance") (rIsi K) := by
  subst hK
  exact call_isi
theorem chain_pw : ∀ (ns : List Int), (∀ (i : Nat) (a b : Int), ns[i]? = some a → ns[i + 1]? = some b → a < b) → ns.Pairwise (· < ·)
  | [], _ => List.Pairwise.nil
  | [x], _ => List.pairwise_singleton _ _
  | x :: y :: r, h => by
    have hr := chain_pw (y :: r) fun i a b ha hb => h (i + 1) a b (by simpa using ha) (by simpa using hb)
    have h0 := h 0 x y rfl rfl
    refine List.pairwise_cons.mpr ⟨fun z hz => ?_, hr⟩
    rcases List.mem_cons.mp hz with e | e
    · rw [e]
      exact h0
    · exact Int.lt_trans h0 ((List.pairwise_cons.mp hr).1 z e)
section
variable {P : Program} {w : World} {K : PySem.W.Frag} {mg : Str → Option Value} {base : Heap}
/-- what the judging defs lean on -/
structure LibJ (mg : Str → Option Value) : Prop where
  len : mg "len" = none
  isi : mg "isinstance" = none
  bool : mg "bool" = none
  int : mg "int" = none
  tuple : mg "tuple" = none
  range : mg "range" = none
  all : mg "all" = none
def spBelow (K : PySem.W.Frag) : Sp := fun vs H Q _ => ∃ i l : Int, vs = [.int i, .int l] ∧ Q (.bl (decide (0 ≤ i) && decide (i < l))) H
theorem ok_below {f : Addr} {fd : FuncData} {k : Nat} (F : Fun K "is_below" "is_below" sBelow f fd) (B : LibJ mg) : FnOk P w K mg base CX0 (k + 1) f fd ["value", "limit"] (spBelow K) := by
  refine F.ok scBelow (fun vs H Q E h => ?_) (fun cdv A outer s H vs Q E hr h => ?_)
  · obtain ⟨i, l, rfl, _⟩ := h
    rfl
  · obtain ⟨i, l, rfl, q⟩ := h
    refine ⟨_, pss_cons (ps_if (PW.pt (pw_or (pt_val (pe_callB (isiK (K := K)) (by rfl) B.isi (by decide +kernel) (pa_cons (pv 0) (pa_cons (pe_bltn (v := .ty "bool") (by rfl) B.bool (by decide +kernel) rfl) pa_nil))))
        (pw_or1 (pt_not (pt_val (pe_callB (isiK (K := K)) (by rfl) B.isi (by decide +kernel) (pa_cons (pv 0) (pa_cons (pe_bltn (v := .ty "int") (by rfl) B.int (by decide +kernel) rfl) pa_nil))))))))
        (pss_one (ps_ret pe_bl)) pss_nil)
      (pss_one (ps_ret (pe_chain op_le op_lt pe_int (pv 0) (pv 1)))), ?_⟩
    refine ⟨.int i, rfl, _, _, _, _, false, rfl, .ty "bool", .base (.int i), kit_ty (by decide +kernel), _, rfl, iteF ?_⟩
    refine ⟨.int i, rfl, _, _, _, _, true, rfl, .ty "int", .base (.int i), kit_ty (by decide +kernel), _, rfl, iteF ?_⟩
    refine ⟨.int i, rfl, 0, i, rfl, rfl, _, rfl, ?_⟩
    by_cases h0 : 0 ≤ i
    · rw [decide_eq_true h0] at q ⊢
      exact iteT ⟨.int l, rfl, i, l, rfl, rfl, q⟩
    · rw [decide_eq_false h0] at q ⊢
      exact iteF q
/-- a row of ints: ascending, below -/
def spAsc (K : PySem.W.Frag) : Sp := fun vs H Q _ => ∃ (a : Addr) (ns : List Int) (l : Int), vs = [.ref a, .int l] ∧ H a = some (.tup (ns.map V.int)) ∧ ns.length < 1000 ∧ (∀ x ∈ ns, 0 ≤ x ∧ x < l) ∧ ns.Pairwise (· < ·) ∧
  ∀ H', Same H H' → Q (.bl true) H'
/-- a rule is one -/
def spIsRule (K : PySem.W.Frag) : Sp := fun vs H Q _ => ∃ (p : Addr) (T : List (List Int)), vs = [.ref p] ∧ Tbl H p T ∧ IsRule T ∧ ∀ H', Same H H' → Q (.bl true) H'
end
end Nm

namespace Nm
open PySem PySem.Spec PyProof.Rows L2 GL
/-! sCalled -/
/-! sCut -/
/-! sCutSo -/
abbrev nCalled : List Str := ["rule", "order", "rows", "mark", "followers", "other"]
abbrev nCut : List Str := ["rule", "marks", "rows", "mark", "followers", "other"]
abbrev nCutSo : List Str := ["_law_table_here", "_law_some_here", "_law_found", "_law_mark", "_law_row", "_law_other"]
theorem paired_set {α β : Type} {F : α → β → Prop} {a : α} {b : β} (h : F a b) : ∀ {l₁ : List α} {l₂ : List β} (i : Nat), Paired F l₁ l₂ → Paired F (l₁.set i a) (l₂.set i b)
  | _, _, _, .nil => .nil
  | _, _, 0, .cons _ t => .cons h t
  | _, _, i + 1, .cons r t => .cons r (paired_set h i t)
theorem rep_flat {α : Type} (x : α) : ∀ n : Nat, (List.replicate n [x]).flatten = List.replicate n x
  | 0 => rfl
  | n + 1 => by
    rw [List.replicate_succ, List.flatten_cons, rep_flat x n]
    rfl
theorem paired_rep {α β : Type} {F : α → β → Prop} {a : α} {b : β} (h : F a b) : ∀ n : Nat, Paired F (List.replicate n a) (List.replicate n b)
  | 0 => .nil
  | n + 1 => .cons h (paired_rep h n)
section
variable {P : Program} {w : World} {K : PySem.W.Frag} {mg : Str → Option Value} {base : Heap}
/-! ### called -/
/-! ### cut down -/
def cutRow (few : List Int) (i : Nat) (row : List Int) : List Int := if (i : Int) ∈ few then row.filter (fun o => decide (o ∈ few)) else []
def cutTo (T : List (List Int)) (few : List Int) (m : Nat) : List (List Int) := (List.range m).map fun (i : Nat) => cutRow few i (T.getD i [])
theorem cutTo_succ {T : List (List Int)} {few : List Int} {m : Nat} {row : List Int} (h : T[m]? = some row) : cutTo T few (m + 1) = cutTo T few m ++ [cutRow few m row] := by
  unfold cutTo
  rw [List.range_succ, List.map_append, List.map_singleton, List.getD_eq_getElem?_getD, h]
  rfl
theorem cutTo_length (T : List (List Int)) (few : List Int) (m : Nat) : (cutTo T few m).length = m := by
  unfold cutTo
  rw [List.length_map, List.length_range]
def spCut (K : PySem.W.Frag) : Sp := fun vs H Q _ => ∃ (p c : Addr) (T : List (List Int)) (few : List Int), vs = [.ref p, .ref c] ∧ Tbl H p T ∧ H c = some (.tup (few.map V.int)) ∧ T.length ≤ 1000 ∧ (∀ row ∈ T, row.length ≤ 1000) ∧
  ∀ (o : Addr) (H' : Hp), H o = none → Same H H' → Tbl H' o (cutTo T few T.length) → Q (.ref o) H'
theorem take_filter_yes {few row : List Int} {m : Nat} {y : Int} (h : row[m]? = some y) (hy : y ∈ few) : (row.take (m + 1)).filter (fun o => decide (o ∈ few)) = (row.take m).filter (fun o => decide (o ∈ few)) ++ [y] := by
  rw [List.take_add_one, h, List.filter_append]
  congr 1
  simp [hy]
theorem take_filter_no {few row : List Int} {m : Nat} {y : Int} (h : row[m]? = some y) (hy : y ∉ few) : (row.take (m + 1)).filter (fun o => decide (o ∈ few)) = (row.take m).filter (fun o => decide (o ∈ few)) := by
  rw [List.take_add_one, h, List.filter_append]
  simp [hy]
theorem filter_le {few row : List Int} {m : Nat} : ((row.take m).filter (fun o => decide (o ∈ few))).length ≤ row.length :=
  Nat.le_trans (List.length_filter_le _ _) (by rw [List.length_take]; omega)
end
end Nm

namespace Nm
open PySem PySem.Spec PyProof.Rows L2 GL
/-! ### tables called and cut down, as such -/
theorem rowC_same {ms row r1 r2 : List Int} (h1 : RowC ms row r1) (h2 : RowC ms row r2) : r1 = r2 := (h1.1.trans h2.1.symm).eq_of_pairwise (fun x y _ _ a b => Int.le_antisymm a b) h1.2 h2.2
theorem called_same {T T1 T2 : List (List Int)} {ms : List Int} (pm : ms.Perm (rangeI T.length)) (h1 : Called T T1 ms) (h2 : Called T T2 ms) : T1 = T2 := by
  have lm : ms.length = T.length := by rw [pm.length_eq, rangeI_length]
  refine List.ext_getElem? fun j => ?_
  by_cases hj : j < T.length
  · have jm : (j : Int) ∈ ms := pm.mem_iff.mpr (mem_rangeI.mpr ⟨by omega, by omega⟩)
    obtain ⟨s, hs⟩ := List.mem_iff_getElem?.mp jm
    have sl := (List.getElem?_eq_some_iff.mp hs).1
    obtain ⟨row, hrow⟩ : ∃ row, T[s]? = some row := ⟨_, List.getElem?_eq_getElem (by omega)⟩
    obtain ⟨r1, e1, c1⟩ := h1.2 s row j hrow hs
    obtain ⟨r2, e2, c2⟩ := h2.2 s row j hrow hs
    rw [Int.toNat_natCast] at e1 e2
    rw [e1, e2, rowC_same c1 c2]
  · rw [List.getElem?_eq_none (by rw [h1.1]; omega), List.getElem?_eq_none (by rw [h2.1]; omega)]
theorem cut_rule {T : List (List Int)} {few : List Int} (r : IsRule T) : IsRule (cutTo T few T.length) := by
  refine ⟨by rw [cutTo_length]; exact r.1, by rw [cutTo_length]; exact r.2.1, fun row' h => ?_⟩
  rw [cutTo_length]
  obtain ⟨i, hi, rfl⟩ := List.mem_map.mp h
  have il := List.mem_range.mp hi
  have g := r.2.2 (T.getD i []) (by rw [List.getD_eq_getElem?_getD, List.getElem?_eq_getElem il]; exact List.getElem_mem il)
  unfold cutRow
  split
  · exact g.sub List.filter_sublist
  · exact ⟨List.Pairwise.nil, fun x h => by simp at h⟩
theorem at_nat {ms : List Int} {s : Nat} {j : Int} (h : ms[s]? = some j) : at_ ms (s : Int) = j := by
  unfold at_
  rw [Int.toNat_natCast, List.getD_eq_getElem?_getD, h]
  rfl
theorem perm_len {ms : List Int} {n : Nat} (p : ms.Perm (rangeI n)) : ms.length = n := by rw [p.length_eq, rangeI_length]
theorem perm_in {ms : List Int} {n : Nat} (p : ms.Perm (rangeI n)) {x : Int} (h0 : 0 ≤ x) (h1 : x < (n : Int)) : 0 ≤ at_ ms x ∧ at_ ms x < (n : Int) :=
  mem_rangeI.mp (p.mem_iff.mp (at_mem h0 (by rw [perm_len p]; exact h1)))
theorem called_trans {T T1 T2 : List (List Int)} {one two both : List Int} (r : IsRule T) (p1 : one.Perm (rangeI T.length)) (p2 : two.Perm (rangeI T.length)) (lb : both.length = T.length)
    (hb : ∀ x : Int, 0 ≤ x → x < (T.length : Int) → at_ both x = at_ two (at_ one x)) (c1 : Called T T1 one) (c2 : Called T1 T2 two) : Called T T2 both := by
  refine ⟨c2.1.trans c1.1, fun s row j hs hj => ?_⟩
  have sl := (List.getElem?_eq_some_iff.mp hs).1
  have ej := at_nat hj
  have l1 := perm_len p1
  have l2 := perm_len p2
  have hi : one[s]? = some (at_ one (s : Int)) := by
    have z := at_some (ms := one) (x := (s : Int)) (by omega) (by omega)
    rw [Int.toNat_natCast] at z
    exact z
  have ib := perm_in p1 (x := (s : Int)) (by omega) (by omega)
  obtain ⟨r1, e1, c⟩ := c1.2 s row _ hs hi
  obtain ⟨r2, e2, c'⟩ := c2.2 _ r1 _ e1 (at_some (ms := two) ib.1 (by omega))
  rw [← hb s (by omega) (by omega), ej] at e2
  refine ⟨r2, e2, c'.1.trans ((c.1.map _).trans ?_), c'.2⟩
  rw [List.map_map]
  refine List.Perm.of_eq (List.map_congr_left fun x hx => ?_)
  have g := (r.2.2 row (List.mem_of_getElem? hs)).2 x hx
  exact (hb x g.1 g.2).symm
theorem at_range {n : Nat} {x : Int} (h0 : 0 ≤ x) (h1 : x < (n : Int)) : at_ (rangeI n) x = x := by
  unfold at_ rangeI
  rw [List.getD_eq_getElem?_getD, List.getElem?_map, List.getElem?_range (by omega)]
  show ((x.toNat : Nat) : Int) = x
  omega
theorem called_id {T : List (List Int)} (r : IsRule T) : Called T T (rangeI T.length) := by
  refine ⟨rfl, fun s row j hs hj => ?_⟩
  have sl := (List.getElem?_eq_some_iff.mp hs).1
  have ej := at_nat hj
  rw [at_range (by omega) (by omega)] at ej
  rw [← ej, Int.toNat_natCast]
  have g := r.2.2 row (List.mem_of_getElem? hs)
  refine ⟨row, hs, List.Perm.of_eq ?_, g.1.imp fun h => Int.le_of_lt h⟩
  have z : row.map (at_ (rangeI T.length)) = row.map id := List.map_congr_left fun x hx => at_range (g.2 x hx).1 (g.2 x hx).2
  rw [z, List.map_id]
theorem cutTo_at {T : List (List Int)} {few : List Int} {n i : Nat} (h : i < n) : (cutTo T few n).getD i [] = cutRow few i (T.getD i []) := by
  unfold cutTo
  rw [List.getD_eq_getElem?_getD, List.getElem?_map, List.getElem?_range h]
  rfl
theorem cut_cut {T : List (List Int)} {few some_ both : List Int} {n : Nat} (hb : ∀ x, x ∈ both ↔ x ∈ few ∧ x ∈ some_) : cutTo (cutTo T few n) some_ n = cutTo T both n := by
  show (List.range n).map _ = (List.range n).map _
  refine List.map_congr_left fun i hi => ?_
  rw [cutTo_at (List.mem_range.mp hi)]
  unfold cutRow
  by_cases h1 : (i : Int) ∈ few
  · by_cases h2 : (i : Int) ∈ some_
    · rw [if_pos h2, if_pos h1, if_pos ((hb _).mpr ⟨h1, h2⟩), List.filter_filter]
      refine List.filter_congr fun x _ => ?_
      rw [← Bool.decide_and]
      refine decide_eq_decide.mpr ⟨fun z => (hb _).mpr ⟨z.2, z.1⟩, fun z => ?_⟩
      have y := (hb _).mp z
      exact ⟨y.2, y.1⟩
    · rw [if_neg h2, if_neg fun z => h2 ((hb _).mp z).2]
  · rw [if_neg h1, if_neg fun z => h1 ((hb _).mp z).1]
    split <;> rfl
theorem cut_called {T T1 : List (List Int)} {few led one : List Int} (r : IsRule T) (p1 : one.Perm (rangeI T.length)) (c1 : Called T T1 one)
    (hf : ∀ x ∈ few, 0 ≤ x ∧ x < (T.length : Int)) (hl : ∀ x, x ∈ led ↔ ∃ y ∈ few, x = at_ one y) : Called (cutTo T few T.length) (cutTo T1 led T.length) one := by
  have l1 := perm_len p1
  have nd1 : one.Nodup := p1.nodup_iff.mpr (nodup_rangeI _)
  have key : ∀ x : Int, 0 ≤ x → x < (T.length : Int) → (at_ one x ∈ led ↔ x ∈ few) := fun x x0 x1 => by
    rw [hl]
    refine ⟨fun ⟨y, hy, e⟩ => ?_, fun h => ⟨x, h, rfl⟩⟩
    have yb := hf y hy
    rw [at_inj nd1 x0 (by omega) yb.1 (by omega) e]
    exact hy
  refine ⟨by rw [cutTo_length, cutTo_length], fun s row j hs hj => ?_⟩
  have sl := (List.getElem?_eq_some_iff.mp hs).1
  rw [cutTo_length] at sl
  have erow : row = cutRow few s (T.getD s []) := by
    have z := cutTo_at (T := T) (few := few) sl
    rw [List.getD_eq_getElem?_getD, hs] at z
    exact z
  obtain ⟨row0, hr0⟩ : ∃ row0, T[s]? = some row0 := ⟨_, List.getElem?_eq_getElem sl⟩
  rw [List.getD_eq_getElem?_getD, hr0] at erow
  obtain ⟨r1, e1, c⟩ := c1.2 s row0 j hr0 hj
  have jb : 0 ≤ j ∧ j < (T.length : Int) := by
    have z := perm_in p1 (x := (s : Int)) (by omega) (by omega)
    rw [at_nat hj] at z
    exact z
  refine ⟨cutRow led j.toNat r1, ?_, ?_⟩
  · have z := cutTo_at (T := T1) (few := led) (n := T.length) (i := j.toNat) (by omega)
    rw [List.getD_eq_getElem?_getD, List.getD_eq_getElem?_getD, e1] at z
    rw [List.getElem?_eq_getElem (by rw [cutTo_length]; omega)] at z ⊢
    exact congrArg some z
  · have ks := key (s : Int) (by omega) (by omega)
    rw [at_nat hj] at ks
    rw [erow]
    unfold cutRow
    rw [show ((j.toNat : Nat) : Int) = j by omega]
    by_cases h : (s : Int) ∈ few
    · rw [if_pos h, if_pos (ks.mpr h)]
      refine ⟨(c.1.filter _).trans ?_, c.2.sublist List.filter_sublist⟩
      rw [List.filter_map]
      refine List.Perm.of_eq (congrArg (List.map (at_ one)) (List.filter_congr fun x hx => ?_))
      have g := (r.2.2 row0 (List.mem_of_getElem? hr0)).2 x hx
      exact decide_eq_decide.mpr (key x g.1 g.2)
    · rw [if_neg h, if_neg fun z => h (ks.mp z)]
      exact ⟨.nil, List.Pairwise.nil⟩
theorem cut_all {T : List (List Int)} (r : IsRule T) : cutTo T (rangeI T.length) T.length = T := by
  refine List.ext_getElem? fun i => ?_
  by_cases hi : i < T.length
  · unfold cutTo
    rw [List.getElem?_map, List.getElem?_range hi, List.getElem?_eq_getElem hi]
    show some (cutRow _ i (T.getD i [])) = _
    rw [List.getD_eq_getElem?_getD, List.getElem?_eq_getElem hi]
    unfold cutRow
    rw [if_pos (mem_rangeI.mpr ⟨by omega, by omega⟩)]
    refine congrArg some (List.filter_eq_self.mpr fun x hx => decide_eq_true ?_)
    exact mem_rangeI.mpr ((r.2.2 _ (List.getElem_mem hi)).2 x hx)
  · rw [List.getElem?_eq_none (by rw [cutTo_length]; omega), List.getElem?_eq_none (by omega)]
theorem cut_none {T : List (List Int)} {n : Nat} : cutTo T [] n = List.replicate n [] := by
  unfold cutTo cutRow
  refine List.eq_replicate_iff.mpr ⟨by rw [List.length_map, List.length_range], fun x hx => ?_⟩
  obtain ⟨i, _, rfl⟩ := List.mem_map.mp hx
  rw [if_neg (by simp)]
theorem map_at {ms : List Int} {n : Nat} (l : ms.length = n) : (rangeI n).map (at_ ms) = ms := by
  subst l
  refine List.ext_getElem? fun i => ?_
  unfold rangeI
  rw [List.getElem?_map, List.getElem?_map]
  by_cases hi : i < ms.length
  · rw [List.getElem?_range hi, List.getElem?_eq_getElem hi]
    exact congrArg some (at_nat (List.getElem?_eq_getElem hi))
  · rw [List.getElem?_eq_none (by rw [List.length_range]; omega), List.getElem?_eq_none (by omega)]
    rfl
theorem at_map {n : Nat} {g : Int → Int} {x : Int} (h0 : 0 ≤ x) (h1 : x < (n : Int)) : at_ ((rangeI n).map g) x = g x := by
  unfold at_ rangeI
  rw [List.getD_eq_getElem?_getD, List.getElem?_map, List.getElem?_map, List.getElem?_range (by omega)]
  show g ((x.toNat : Nat) : Int) = g x
  rw [show ((x.toNat : Nat) : Int) = x by omega]
theorem both_perm {one two : List Int} {n : Nat} (p1 : one.Perm (rangeI n)) (p2 : two.Perm (rangeI n)) : ((rangeI n).map fun x => at_ two (at_ one x)).Perm (rangeI n) := by
  have e : ((rangeI n).map fun x => at_ two (at_ one x)) = one.map (at_ two) := by
    have z := congrArg (List.map (at_ two)) (map_at (perm_len p1))
    rw [List.map_map] at z
    exact z
  rw [e]
  refine (p1.map _).trans ?_
  rw [map_at (perm_len p2)]
  exact p2
theorem back_at {one : List Int} {n : Nat} (p1 : one.Perm (rangeI n)) {x : Int} (h0 : 0 ≤ x) (h1 : x < (n : Int)) : ((one.idxOf (at_ one x) : Nat) : Int) = x := by
  have l := perm_len p1
  have nd : one.Nodup := p1.nodup_iff.mpr (nodup_rangeI _)
  have z := at_some (ms := one) h0 (by omega)
  obtain ⟨hl, e⟩ := List.getElem?_eq_some_iff.mp z
  rw [← e, nd.idxOf_getElem _ hl]
  omega
theorem back_perm {one : List Int} {n : Nat} (p1 : one.Perm (rangeI n)) : ((rangeI n).map fun x => ((one.idxOf x : Nat) : Int)).Perm (rangeI n) := by
  refine (p1.symm.map _).trans (List.Perm.of_eq ?_)
  have e := map_at (perm_len p1)
  have z := congrArg (List.map fun x => ((one.idxOf x : Nat) : Int)) e
  rw [← z, List.map_map]
  have y : (rangeI n).map ((fun x => ((one.idxOf x : Nat) : Int)) ∘ at_ one) = (rangeI n).map id := List.map_congr_left fun x hx => by
    have b := mem_rangeI.mp hx
    exact back_at p1 b.1 b.2
  rw [y, List.map_id]
theorem rowsOk {T : List (List Int)} (r : IsRule T) : (∀ row ∈ T, row.length ≤ 1000) ∧ ∀ row ∈ T, row.length < 64 ∧ ∀ x ∈ row, 0 ≤ x ∧ x < (T.length : Int) := by
  refine ⟨fun row h => ?_, fun row h => ⟨?_, (r.2.2 row h).2⟩⟩
  · have := (r.2.2 row h).len
    have := r.2.1
    omega
  · have := (r.2.2 row h).len
    have := r.2.1
    omega
/-! ### pairs -/
theorem asc_ext {l1 l2 : List Int} (h1 : l1.Pairwise (· < ·)) (h2 : l2.Pairwise (· < ·)) (h : ∀ x, x ∈ l1 ↔ x ∈ l2) : l1 = l2 :=
  ((List.perm_ext_iff_of_nodup (h1.imp fun h => Int.ne_of_lt h) (h2.imp fun h => Int.ne_of_lt h)).mpr h).eq_of_pairwise (fun x y _ _ a b => by omega) h1 h2
theorem mem_rowTo {ps : List (Int × Int)} {m x : Int} {n : Nat} : x ∈ rowTo ps m n ↔ ∃ i : Nat, i < n ∧ (∃ q, ps[i]? = some q ∧ q.1 = m) ∧ x = (i : Int) := by
  unfold rowTo
  rw [List.mem_map]
  refine ⟨fun ⟨i, hi, e⟩ => ?_, fun ⟨i, hi, ⟨q, hq, e1⟩, e⟩ => ⟨i, List.mem_filter.mpr ⟨List.mem_range.mpr hi, decide_eq_true ?_⟩, e.symm⟩⟩
  · have z := List.mem_filter.mp hi
    have y := of_decide_eq_true z.2
    rcases hq : ps[i]? with _ | q
    · rw [hq] at y
      cases y
    · rw [hq] at y
      exact ⟨i, List.mem_range.mp z.1, ⟨q, hq, Option.some.inj y⟩, e.symm⟩
  · rw [hq]
    exact congrArg some e1
theorem rowTo_asc (ps : List (Int × Int)) (m : Int) (n : Nat) : (rowTo ps m n).Pairwise (· < ·) := by
  unfold rowTo
  refine List.pairwise_map.mpr ((List.Pairwise.sublist List.filter_sublist List.pairwise_lt_range).imp fun h => ?_)
  exact Int.ofNat_lt.mpr h
theorem rowTo_len (ps : List (Int × Int)) (m : Int) : ∀ j, j ≤ ps.length → (rowTo ps m j).length = ((ps.take j).filter fun q => decide (q.1 = m)).length
  | 0, _ => rfl
  | j + 1, h => by
    have ih := rowTo_len ps m j (by omega)
    have hj : ps[j]? = some ps[j] := List.getElem?_eq_getElem (by omega)
    rw [List.take_add_one, hj, List.filter_append, List.length_append, ← ih]
    by_cases e : ps[j].1 = m
    · rw [rowTo_yes (by rw [hj]; exact congrArg some e), List.length_append]
      simp [e]
    · rw [rowTo_no (by rw [hj]; exact fun z => e (Option.some.inj z))]
      simp [e]
/-- a table with names -/
structure HasPs (T : List (List Int)) (v : Nat) (ps : List (Int × Int)) : Prop where
  v1 : 1 ≤ v
  v4 : v ≤ 4
  pm : ps.Perm (prsTo v v)
  eq : T = ofPrs ps
theorem prs_mem {v : Nat} {q : Int × Int} : q ∈ prsTo v v ↔ (0 ≤ q.1 ∧ q.1 < (v : Int)) ∧ 0 ≤ q.2 ∧ q.2 < (v : Int) := by
  unfold prsTo
  rw [List.mem_flatMap]
  refine ⟨fun ⟨o, ho, h⟩ => ?_, fun ⟨h1, h2⟩ => ⟨q.1.toNat, List.mem_range.mpr (by omega), List.mem_map.mpr ⟨q.2.toNat, List.mem_range.mpr (by omega), ?_⟩⟩⟩
  · obtain ⟨m, hm, e⟩ := List.mem_map.mp h
    have a := List.mem_range.mp ho
    have b := List.mem_range.mp hm
    rw [← e]
    exact ⟨⟨by show (0 : Int) ≤ (o : Int); omega, by show (o : Int) < (v : Int); omega⟩, by show (0 : Int) ≤ (m : Int); omega, by show (m : Int) < (v : Int); omega⟩
  · rw [show ((q.1.toNat : Nat) : Int) = q.1 by omega, show ((q.2.toNat : Nat) : Int) = q.2 by omega]
theorem prsTo_nd {n : Nat} (h4 : n ≤ 4) : (prsTo n n).Nodup := by
  obtain rfl | rfl | rfl | rfl | rfl : n = 0 ∨ n = 1 ∨ n = 2 ∨ n = 3 ∨ n = 4 := by omega
  all_goals decide +kernel
theorem prs_cnt {v : Nat} (h4 : v ≤ 4) (m : Nat) (hm : m < v) : ((prsTo v v).filter fun q => decide (q.1 = (m : Int))).length = v := by
  have : ∀ v ≤ 4, ∀ m < v, ((prsTo v v).filter fun q => decide (q.1 = (m : Int))).length = v := by decide +kernel
  exact this v h4 m hm
namespace HasPs
variable {T : List (List Int)} {v : Nat} {ps : List (Int × Int)} (N : HasPs T v ps)
include N
theorem len : ps.length = v * v := by rw [N.pm.length_eq, prsTo_length]
theorem nd : ps.Nodup := N.pm.nodup_iff.mpr (prsTo_nd N.v4)
theorem lenT : T.length = v * v := by
  rw [N.eq]
  unfold ofPrs
  rw [List.length_map, N.len]
theorem bd {q : Int × Int} (h : q ∈ ps) : (0 ≤ q.1 ∧ q.1 < (v : Int)) ∧ 0 ≤ q.2 ∧ q.2 < (v : Int) := prs_mem.mp (N.pm.mem_iff.mp h)
theorem row {a : Nat} {q : Int × Int} (h : ps[a]? = some q) : T[a]? = some (rowTo ps q.2 (v * v)) := by
  rw [N.eq]
  unfold ofPrs
  rw [List.getElem?_map, h, N.len]
  rfl
theorem has {o m : Int} (h1 : 0 ≤ o ∧ o < (v : Int)) (h2 : 0 ≤ m ∧ m < (v : Int)) : ∃ a : Nat, ps[a]? = some (o, m) :=
  List.mem_iff_getElem?.mp (N.pm.mem_iff.mpr (prs_mem.mpr ⟨h1, h2⟩))
theorem ne {m : Int} (h : 0 ≤ m ∧ m < (v : Int)) : ∃ x : Nat, x < v * v ∧ (x : Int) ∈ rowTo ps m (v * v) ∧ ∃ q, ps[x]? = some q ∧ q.1 = m := by
  obtain ⟨a, ha⟩ := N.has h (⟨by omega, by have := N.v1; omega⟩ : (0 : Int) ≤ 0 ∧ (0 : Int) < (v : Int))
  have al := (List.getElem?_eq_some_iff.mp ha).1
  rw [N.len] at al
  exact ⟨a, al, mem_rowTo.mpr ⟨a, al, ⟨_, ha, rfl⟩, rfl⟩, _, ha, rfl⟩
theorem inj {m m' : Int} (h : 0 ≤ m ∧ m < (v : Int)) (e : rowTo ps m (v * v) = rowTo ps m' (v * v)) : m = m' := by
  obtain ⟨x, _, hx, q, hq, e1⟩ := N.ne h
  rw [e] at hx
  obtain ⟨i, hi, ⟨q', hq', e2⟩, e3⟩ := mem_rowTo.mp hx
  have : x = i := by omega
  subst this
  rw [hq] at hq'
  cases hq'
  rw [← e1, ← e2]
theorem rows {row : List Int} : row ∈ T ↔ ∃ m : Int, (0 ≤ m ∧ m < (v : Int)) ∧ row = rowTo ps m (v * v) := by
  refine ⟨fun h => ?_, fun ⟨m, hm, e⟩ => ?_⟩
  · obtain ⟨a, ha⟩ := List.mem_iff_getElem?.mp h
    have al := (List.getElem?_eq_some_iff.mp ha).1
    rw [N.lenT, ← N.len] at al
    have hq : ps[a]? = some ps[a] := List.getElem?_eq_getElem al
    rw [N.row hq] at ha
    exact ⟨_, (N.bd (List.getElem_mem al)).2, (Option.some.inj ha).symm⟩
  · obtain ⟨a, ha⟩ := N.has (o := 0) (⟨by omega, by have := N.v1; omega⟩ : (0 : Int) ≤ 0 ∧ (0 : Int) < (v : Int)) hm
    rw [e]
    exact List.mem_of_getElem? (N.row ha)
theorem rlen {m : Int} (h : 0 ≤ m ∧ m < (v : Int)) : (rowTo ps m (v * v)).length = v := by
  have z := rowTo_len ps m (v * v) (by rw [N.len]; exact Nat.le_refl _)
  rw [z, ← N.len, List.take_length, (N.pm.filter _).length_eq]
  have y := prs_cnt N.v4 m.toNat (by omega)
  rw [show ((m.toNat : Nat) : Int) = m by omega] at y
  exact y
end HasPs
theorem called_prs {v : Nat} {T' : List (List Int)} {ms : List Int} (h1 : 1 ≤ v) (h4 : v ≤ 4) (pm : ms.Perm (rangeI (v * v))) (c : Called (ofPrs (prsTo v v)) T' ms) : ∃ ps, HasPs T' v ps := by
  have N0 : HasPs (ofPrs (prsTo v v)) v (prsTo v v) := ⟨h1, h4, .refl _, rfl⟩
  have l0 := N0.len
  have lm := perm_len pm
  have ndm : ms.Nodup := pm.nodup_iff.mpr (nodup_rangeI _)
  have rule := called_rule (named_rule h1 h4) (by rw [N0.lenT]; exact pm) c
  have lT' : T'.length = v * v := by rw [c.1, N0.lenT]
  let g : Int → Int × Int := fun x => (prsTo v v).getD (ms.idxOf x) (0, 0)
  have gat : ∀ (s : Nat) (j : Int), ms[s]? = some j → ∀ q, (prsTo v v)[s]? = some q → g j = q := fun s j hj q hq => by
    obtain ⟨hs, e⟩ := List.getElem?_eq_some_iff.mp hj
    show (prsTo v v).getD (ms.idxOf j) (0, 0) = q
    rw [← e, ndm.idxOf_getElem s hs, List.getD_eq_getElem?_getD, hq]
    rfl
  have mg : ms.map g = prsTo v v := by
    refine List.ext_getElem? fun s => ?_
    rw [List.getElem?_map]
    by_cases hs : s < ms.length
    · have hq : (prsTo v v)[s]? = some ((prsTo v v)[s]'(by omega)) := List.getElem?_eq_getElem (by omega)
      rw [hq, List.getElem?_eq_getElem hs]
      exact congrArg some (gat s _ (List.getElem?_eq_getElem hs) _ hq)
    · rw [List.getElem?_eq_none (by omega), List.getElem?_eq_none (by omega)]
      rfl
  have atps : ∀ (x : Nat), x < v * v → ((rangeI (v * v)).map g)[x]? = some (g x) := fun x hx => by
    unfold rangeI
    rw [List.getElem?_map, List.getElem?_map, List.getElem?_range hx]
    rfl
  have lps : ((rangeI (v * v)).map g).length = v * v := by rw [List.length_map, rangeI_length]
  refine ⟨(rangeI (v * v)).map g, h1, h4, ?_, ?_⟩
  · have z := pm.map g
    rw [mg] at z
    exact z.symm
  · refine List.ext_getElem? fun j => ?_
    by_cases hj : j < v * v
    · have jm : (j : Int) ∈ ms := pm.mem_iff.mpr (mem_rangeI.mpr ⟨by omega, by omega⟩)
      obtain ⟨s, hs⟩ := List.mem_iff_getElem?.mp jm
      have sl := (List.getElem?_eq_some_iff.mp hs).1
      have hq : (prsTo v v)[s]? = some ((prsTo v v)[s]'(by omega)) := List.getElem?_eq_getElem (by omega)
      have hrow := N0.row hq
      obtain ⟨r', e', rc⟩ := c.2 s _ j hrow hs
      rw [Int.toNat_natCast] at e'
      have gj := gat s j hs _ hq
      unfold ofPrs
      rw [e', List.getElem?_map, atps j hj, gj]
      refine congrArg some (asc_ext (rule.2.2 r' (List.mem_of_getElem? e')).1 (rowTo_asc _ _ _) fun x => ?_)
      rw [rc.1.mem_iff, List.mem_map, lps]
      refine ⟨fun ⟨y, hy, ey⟩ => ?_, fun h => ?_⟩
      · obtain ⟨i, hi, ⟨q, hqi, e1⟩, rfl⟩ := mem_rowTo.mp hy
        have hmi : ms[i]? = some (ms[i]'(by omega)) := List.getElem?_eq_getElem (by omega)
        rw [at_nat hmi] at ey
        have xb := mem_rangeI.mp (pm.mem_iff.mp (List.mem_of_getElem? hmi))
        rw [ey] at xb hmi
        refine mem_rowTo.mpr ⟨x.toNat, by omega, ⟨_, atps x.toNat (by omega), ?_⟩, by omega⟩
        rw [show ((x.toNat : Nat) : Int) = x by omega, gat i x hmi _ hqi]
        exact e1
      · obtain ⟨i, hi, ⟨q, hqi, e1⟩, rfl⟩ := mem_rowTo.mp h
        rw [atps i hi] at hqi
        have im : (i : Int) ∈ ms := pm.mem_iff.mpr (mem_rangeI.mpr ⟨by omega, by omega⟩)
        obtain ⟨t, ht⟩ := List.mem_iff_getElem?.mp im
        have tl := (List.getElem?_eq_some_iff.mp ht).1
        have hqt : (prsTo v v)[t]? = some ((prsTo v v)[t]'(by omega)) := List.getElem?_eq_getElem (by omega)
        refine ⟨(t : Int), mem_rowTo.mpr ⟨t, by omega, ⟨_, hqt, ?_⟩, rfl⟩, at_nat ht⟩
        rw [← gat t i ht _ hqt, Option.some.inj hqi]
        exact e1
    · rw [List.getElem?_eq_none (by omega), List.getElem?_eq_none (by unfold ofPrs; rw [List.length_map, lps]; omega)]
end Nm

namespace Nm
open PySem PySem.Spec PyProof.Rows L2 GL
/-! ### stage 2's drawing: drawn rules, named marks, marks called otherwise -/
abbrev sDrawn2 : Stmt := topS 24
abbrev sNamed2 : Stmt := topS 25
abbrev sRen2 : Stmt := topS 26
abbrev nDrawn2 : List Str := ["_law_pot_here", "_law_most", "_law_size", "_law_chance", "_law_found", "_law_mark", "_law_one"]
theorem scDrawn2 : FnScope nDrawn2 ["_law_pot_here", "_law_most"] (defScope sDrawn2) := ⟨rfl, rfl, rfl, by decide +kernel, rfl, by decide +kernel, by decide +kernel⟩
theorem scNamed2 : FnScope ["_law_values", "_law_found", "_law_mark", "_law_first"] ["_law_values"] (defScope sNamed2) := ⟨rfl, rfl, rfl, by decide +kernel, rfl, by decide +kernel, by decide +kernel⟩
abbrev nRen2 : List Str := ["_law_rule", "_law_order", "_law_found", "_law_mark", "_law_some", "_law_one"]
theorem scRen2 : FnScope nRen2 ["_law_rule", "_law_order"] (defScope sRen2) := ⟨rfl, rfl, rfl, by decide +kernel, rfl, by decide +kernel, by decide +kernel⟩
theorem rgV_from (a n : Nat) : rgV (a : Int) ((a : Int) + (n : Int)) = ((List.range n).map fun (i : Nat) => ((a : Int) + (i : Int))).map V.int := by
  unfold rgV
  rw [show ((a : Int) + (n : Int) - (a : Int)).toNat = n by omega, List.map_map]
  rfl
theorem named_rows2 {n : Nat} (h1 : 1 ≤ n) (h4 : n ≤ 4) : ofPrs (prsTo n n) = (List.range (n * n)).map fun (i : Nat) => (List.range n).map fun (j : Nat) => (((i % n * n : Nat) : Int) + (j : Int)) := by
  obtain rfl | rfl | rfl | rfl : n = 1 ∨ n = 2 ∨ n = 3 ∨ n = 4 := by omega
  all_goals decide +kernel
section
variable {P : Program} {w : World} {K : PySem.W.Frag} {mg : Str → Option Value} {base : Heap}
def spNamed2 (K : PySem.W.Frag) : Sp := fun vs H Q _ => ∃ n : Nat, vs = [.int n] ∧ 1 ≤ n ∧ n ≤ 4 ∧ ∀ (p : Addr) (H' : Hp), Same H H' → Tbl H' p (ofPrs (prsTo n n)) → Q (.ref p) H'
theorem ok_named2 {f : Addr} {fd : FuncData} {k : Nat} (F : Fun K "_law_named" "_law_named" sNamed2 f fd) (B : Lib K mg) : FnOk P w K mg base CX0 (k + 1) f fd ["_law_values"] (spNamed2 K) := by
  refine F.ok scNamed2 (fun vs H Q E h => ?_) (fun cdv A outer s H vs Q E hr h => ?_)
  · obtain ⟨n, rfl, _⟩ := h
    rfl
  · obtain ⟨n, rfl, n1, n4, q⟩ := h
    refine ⟨_, pss_cons (ps_set (i := 1) scNamed2.nd rfl (.inl rfl) (pe_lst pa_nil))
      (pss_cons (ps_for PassesOwn.never rfl (pi_range1 (by rfl) B.range (pa_cons (pe_op op_mul (pv 0) (pv 0)) pa_nil)) (pg_name (i := 2) scNamed2.nd rfl (.inl rfl))
        (pss_cons (ps_set (i := 3) scNamed2.nd rfl (.inl rfl) (pe_op op_mul (pe_op op_mod (pv 2) (pv 0)) (pv 0)))
        (pss_one (ps_expr (pe_bm PySem.F.plainAttrs_list PySem.F.slot_list_append PySem.F.type_list_append mt_append (pv 1) (pa_cons
          (pe_tupRg (by rfl) (by rfl) B.tuple (prg_2 (by rfl) B.range (pv 3) (pe_op op_add (pv 3) (pv 0)))) pa_nil))))))
      (pss_one (ps_ret (pe_callTy (tupOfK (K := K)) (by rfl) B.tuple (by decide +kernel) (pa_cons (pv 1) pa_nil))))), ?_⟩
    have nn : (n : Int) * n = ((n * n : Nat) : Int) := by norm_cast
    have n16 : n * n ≤ 16 := Nat.mul_le_mul n4 n4
    have rows := named_rows2 n1 n4
    have lT : (ofPrs (prsTo n n)).length = n * n := by rw [rows, List.length_map, List.length_range]
    refine ⟨Nat.zero_le _, fun L nL => ?_⟩
    have sL := same_upd (o := .lst []) nL
    refine ⟨.int n, rfl, .int n, rfl, (n : Int), (n : Int), rfl, rfl, .inl ⟨by omega, by omega⟩, _, rfl, by rw [nn]; omega, by rw [nn]; omega, ?_⟩
    rw [nn, Int.toNat_natCast]
    refine for_range (lo := 0) (n := n * n) (fun i σ H' => ∃ (y2 y3 : Option V) (ts : List Addr), σ = [some (.int n), some (.ref L), y2, y3] ∧ H' L = some (.lst (ts.map V.ref)) ∧ Rows H' ts ((ofPrs (prsTo n n)).take i) ∧ ts.length = i ∧ Same H H')
      ⟨none, none, [], rfl, upd_same, .nil, rfl, sL⟩ ?_ ?_
    · rintro i σ H1 hi ⟨y2, y3, ts, rfl, hL, hR, lts, sm⟩
      refine ⟨.int (0 + i), rfl, .int n, rfl, _, (n : Int), rfl, rfl, (by show (0 : Int) < (n : Int); omega), .int n, rfl, _, (n : Int), rfl, rfl, .inr ⟨by omega, by omega⟩, ?_⟩
      dsimp only
      have im : i % n < n := Nat.mod_lt _ n1
      have m16 : i % n * n ≤ 4 * 4 := Nat.mul_le_mul (by omega) n4
      rw [show ((0 : Int) + (i : Int)) % (n : Int) * (n : Int) = ((i % n * n : Nat) : Int) by rw [Int.zero_add]; norm_cast]
      refine ⟨.ref L, rfl, .inl ⟨rfl, _, SqL.of hL⟩, .int ((i % n * n : Nat) : Int), rfl, .int ((i % n * n : Nat) : Int), rfl, .int n, rfl, _, _, rfl, rfl, _, _, rfl, rfl, RgOk.of_le (Int.natCast_nonneg _) (by omega) (by omega) (by omega), fun t nt => ?_⟩
      dsimp only
      rw [rgV_from]
      have st := same_upd (o := .tup (((List.range n).map fun (j : Nat) => (((i % n * n : Nat) : Int) + (j : Int))).map V.int)) nt
      have hL' := st _ _ hL
      refine ⟨L, _, .ref t, rfl, rfl, hL', by rw [List.length_map]; exact lenLine (by omega), _, _, ts ++ [t], rfl, ?_, ?_, ?_, ?_⟩
      · rw [upd_same, List.map_append]
        rfl
      · have e : (ofPrs (prsTo n n)).take (i + 1) = (ofPrs (prsTo n n)).take i ++ [(List.range n).map fun (j : Nat) => (((i % n * n : Nat) : Int) + (j : Int))] := by
          have g : (ofPrs (prsTo n n))[i]? = some ((List.range n).map fun (j : Nat) => (((i % n * n : Nat) : Int) + (j : Int))) := by
            rw [rows, List.getElem?_map, List.getElem?_range hi]
            rfl
          rw [List.take_add_one, g]
          rfl
        rw [e]
        exact Rows.kt (paired_append (hR.same st) (.cons upd_same .nil)) (KT.lst hL')
      · rw [List.length_append, lts]
        rfl
      · intro b o hb
        rw [upd_ne (ne_of_none hb nL)]
        exact st _ _ (sm _ _ hb)
    · rintro σ H1 ⟨y2, y3, ts, rfl, hL, hR, lts, sm⟩
      rw [← lT, List.take_length] at hR
      refine ⟨.ref L, rfl, L, _, rfl, .inl ⟨SqL.of hL, fun o no => ?_⟩⟩
      have so := same_upd (o := .tup (ts.map V.ref)) no
      exact q o _ (sm.trans so) ⟨ts, upd_same, hR.same so⟩
/-! ### renamed -/
theorem ok_ren2 {f : Addr} {fd : FuncData} {k : Nat} (F : Fun K "_law_renamed" "_law_renamed" sRen2 f fd) (B : Lib K mg) : FnOk P w K mg base CX0 (k + 1) f fd ["_law_rule", "_law_order"] (spCso K) := by
  refine F.ok scRen2 (fun vs H Q E h => ?_) (fun cdv A outer s H vs Q E hr h => ?_)
  · obtain ⟨p, l, T, ms, rfl, _⟩ := h
    rfl
  · obtain ⟨p, l, T, ms, rfl, ⟨rs, hp, hR⟩, hL, lT, pm, hrow, q⟩ := h
    refine ⟨_, pss_cons (ps_set (i := 2) scRen2.nd rfl (.inl rfl) (pe_op op_rep (pe_lst (pa_cons (pe_tup pa_nil) pa_nil)) (pe_callB (lenK (K := K)) (by rfl) B.len PySem.boot_len (pa_cons (pv 0) pa_nil))))
      (pss_cons (ps_for PassesOwn.never rfl (pi_enumT (K := K) (by rfl) B.enum (pa_cons (pv 0) pa_nil))
          (pgTupK (K := K) rfl (pgs_cons (pg_name (i := 3) scRen2.nd rfl (.inl rfl)) (pgs_cons (pg_name (i := 4) scRen2.nd rfl (.inl rfl)) pgs_nil)))
        (pss_one (ps_asg (pe_callTy (tupOfK (K := K)) (by rfl) B.tuple (by decide +kernel) (pa_cons (pe_callB cr_sorted (by rfl) B.sorted (by decide +kernel) (pa_cons
            (pe_lc (own := [("_law_one", 5)]) (g := gName 5) (by rfl) scRen2.nd (piTupK (K := K) (pv 4))
              (blkOk_by (own := [("_law_one", 5)]) (N := nRen2) (sc := defScope sRen2) (by decide +kernel))
              (fun _ _ _ _ _ => pg_name (i := 5) scRen2.nd rfl (Or.inl rfl)) (fun _ _ _ _ _ => pts_nil)
              (fun _ _ _ _ _ => pe_ix (ixSeqK (K := K)) (pv 1) (pv 5) (fun _ _ => rfl))) pa_nil)) pa_nil))
            (pg_sub (pv 2) (pe_ix (ixSeqK (K := K)) (pv 1) (pv 3) (fun _ _ => rfl)) set_list))))
      (pss_one (ps_ret (pe_callTy (tupOfK (K := K)) (by rfl) B.tuple (by decide +kernel) (pa_cons (pv 2) pa_nil))))), ?_⟩
    have lr : rs.length = T.length := Paired.length hR
    have lm : ms.length = T.length := by rw [pm.length_eq, rangeI_length]
    have ndm : ms.Nodup := pm.nodup_iff.mpr (nodup_rangeI _)
    have inm : ∀ x, x ∈ ms ↔ 0 ≤ x ∧ x < (T.length : Int) := fun x => pm.mem_iff.trans mem_rangeI
    refine ⟨Nat.zero_le _, fun e0 ne0 => ⟨by show 1 ≤ sizeLine; decide, fun e1 ne1 => ?_⟩⟩
    have s0 := same_upd (o := .tup []) ne0
    have s1 := same_upd (o := .lst [.ref e0]) ne1
    have sA := s0.trans s1
    have he0 : (upd (upd H e0 (.tup [])) e1 (.lst [.ref e0])) e0 = some (.tup []) := s1 _ _ upd_same
    have he1 : (upd (upd H e0 (.tup [])) e1 (.lst [.ref e0])) e1 = some (.lst [.ref e0]) := upd_same
    generalize upd (upd H e0 (.tup [])) e1 (.lst [.ref e0]) = Ha at sA he0 he1 ⊢
    refine ⟨.ref p, rfl, p, _, rfl, .inr (SqT.of (sA _ _ hp)), ?_⟩
    refine ⟨e1, _, _, rfl, rfl, he1, ?_, ?_, ?_, fun L nL => ?_⟩
    · rw [List.length_map]
      omega
    · rw [List.length_map]
      omega
    · rw [List.length_map]
      show 1 * _ ≤ _
      exact Nat.le_of_lt (lenLine (by omega))
    have en : (((rs.map V.ref).length : Nat) : Int).toNat = T.length := by
      rw [List.length_map]
      omega
    rw [en, rep_flat]
    have sL := same_upd (o := .lst (List.replicate T.length (.ref e0))) nL
    have smB := sA.trans sL
    have hp1 := smB _ _ hp
    refine ⟨.ref p, rfl, p, _, rfl, SqT.of hp1, for_it (walkET (K := K) (a := p) (xs := rs.map V.ref)) (fun i σ H' => ∃ (y3 y4 y5 : Option V) (ts : List Addr) (T2 : List (List Int)), σ = [some (.ref p), some (.ref l), some (.ref L), y3, y4, y5] ∧
        H' L = some (.lst (ts.map V.ref)) ∧ Rows H' ts T2 ∧ T2.length = T.length ∧ Same H H' ∧
        ∀ (s : Nat) (j : Int) (row : List Int), s < i → ms[s]? = some j → T[s]? = some row → ∃ row', T2[j.toNat]? = some row' ∧ RowC ms row row')
      ⟨none, none, none, List.replicate T.length e0, List.replicate T.length [], rfl, ?_, ?_, ?_, smB, fun s j row h => absurd h (Nat.not_lt_zero _)⟩ (fun i σ H' _ h => ?_) ?_ ?_⟩
    · rw [upd_same, List.map_replicate]
    · exact paired_rep (F := fun (a : Addr) (row : List Int) => (upd Ha L (.lst (List.replicate T.length (.ref e0)))) a = some (.tup (row.map V.int))) (b := ([] : List Int)) (sL _ _ he0) _
    · rw [List.length_replicate]
    · obtain ⟨_, _, _, _, _, _, _, _, _, sm, _⟩ := h
      exact SqT.of (sm _ _ hp)
    · rintro i x σ H1 H2 hi ⟨y3, y4, y5, ts, T2, rfl, hLs, hR2, l2, sm, inv⟩ ⟨Tp, a, b, rfl, nTp, rfl, ea, eb⟩
      obtain rfl : V.int (i : Nat) = a := Option.some.inj ea
      obtain ⟨c, hc, rfl⟩ := ref_at eb
      obtain ⟨row, hrw, hcell⟩ := paired_get hR hc
      have hrr := hrow row (List.mem_of_getElem? hrw)
      have iT : i < T.length := (List.getElem?_eq_some_iff.mp hrw).1
      have sT := same_upd (o := .tup [.int (i : Nat), .ref c]) nTp
      have sm2 := sm.trans sT
      have hL2 := sT _ _ hLs
      have hR3 := hR2.same sT
      have hTp : upd H1 Tp (.tup [.int (i : Nat), .ref c]) Tp = some (.tup [.int (i : Nat), .ref c]) := upd_same
      generalize upd H1 Tp (.tup [.int (i : Nat), .ref c]) = H2 at sT sm2 hL2 hR3 hTp ⊢
      have hc2 := sm2 _ _ hcell
      obtain ⟨j, hj⟩ : ∃ j, ms[i]? = some j := ⟨_, List.getElem?_eq_getElem (by omega)⟩
      have jb := (inm j).mp (List.mem_of_getElem? hj)
      refine ⟨Tp, _, rfl, SqT.of hTp, rfl, _, _, rfl, _, _, rfl, rfl, ?_⟩
      refine ⟨.ref c, rfl, c, rfl, ⟨_, SqT.of hc2⟩, fun D nD => ?_⟩
      have sD := same_upd (o := .lst []) nD
      refine lc_tup (K := K) (a := c) (xs := row.map V.int) (fun m H3 => H3 D = some (.lst (((row.take m).map (at_ ms)).map V.int)) ∧ Same H2 H3) ⟨upd_same, sD⟩ (fun m H3 _ h => SqT.of (h.2 _ _ hc2)) ?_ ?_
      · rintro m x H3 hx ⟨hD, sm3⟩
        obtain ⟨y, hy, rfl⟩ := int_at hx
        have hyr := hrr.2 y (List.mem_of_getElem? hy)
        refine ⟨rfl, yesI ⟨.ref l, rfl, .int y, rfl, rIx_of ((hL.same sm2).same sm3) (at_get hyr.1 (by omega)) ⟨_, hD, ?_, ?_, ?_⟩⟩⟩
        · rw [List.length_map, List.length_map, List.length_take]
          exact lenLine (by omega)
        · rw [upd_same, List.take_add_one, hy, List.map_append, List.map_append]
          rfl
        · intro b o hb
          rw [upd_ne (ne_of_none hb nD)]
          exact sm3 _ _ hb
      · rintro H3 ⟨hD, sm3⟩
        rw [List.length_map, List.take_length] at hD
        refine ⟨D, _, rfl, SqL.of hD, by rw [List.length_map]; exact hrr.1, fun ns' o pm' srt no => ⟨o, _, rfl, .inl ⟨SqL.of upd_same, fun t nt => ?_⟩⟩⟩
        have so := same_upd (o := .lst (ns'.map V.int)) no
        have st := same_upd (o := .tup (ns'.map V.int)) nt
        have smA : Same H2 _ := sm3.trans (so.trans st)
        have hL4 := smA _ _ hL2
        have hR4 := hR3.same smA
        have ht4 : upd (upd H3 o (.lst (ns'.map V.int))) t (.tup (ns'.map V.int)) t = some (.tup (ns'.map V.int)) := upd_same
        generalize upd (upd H3 o (.lst (ns'.map V.int))) t (.tup (ns'.map V.int)) = H4 at smA hL4 hR4 ht4 ⊢
        have lts : ts.length = T.length := by rw [Paired.length hR4, l2]
        refine ⟨.ref L, rfl, .ref l, rfl, .int (i : Nat), rfl, rIx_of ((hL.same sm2).same smA) (atI_nat (j := i) (v := .int j) (by rw [List.getElem?_map, hj]; rfl)) ?_⟩
        refine ⟨L, _, j, j.toNat, rfl, rfl, hL4, ixN_of jb.1 (by rw [List.length_map, lts]; exact jb.2), _, _, _, ts.set j.toNat t, T2.set j.toNat ns', rfl, ?_, ?_, ?_, ?_, ?_⟩
        · rw [upd_same, List.map_set]
        · exact Rows.kt (paired_set (F := fun (a : Addr) (row : List Int) => H4 a = some (.tup (row.map V.int))) ht4 j.toNat hR4) (KT.lst hL4)
        · rw [List.length_set]
          exact l2
        · intro b o hb
          rw [upd_ne (ne_of_none hb (sA.free nL))]
          exact smA _ _ (sm2 _ _ hb)
        · intro s' j' row2 hs' hj' hr'
          by_cases e : s' = i
          · subst e
            rw [hj] at hj'
            cases hj'
            rw [hrw] at hr'
            cases hr'
            exact ⟨ns', List.getElem?_set_self (by omega), pm', srt⟩
          · obtain ⟨row', hv, rc⟩ := inv s' j' row2 (by omega) hj' hr'
            have j0 := (inm j').mp (List.mem_of_getElem? hj')
            refine ⟨row', ?_, rc⟩
            rw [List.getElem?_set_ne]
            · exact hv
            · intro z
              have z' : j' = j := by omega
              subst z'
              have l1 : s' < ms.length := (List.getElem?_eq_some_iff.mp hj').1
              exact e ((List.getElem?_inj l1 ndm).mp (hj'.trans hj.symm))
    · rintro σ H1 ⟨y3, y4, y5, ts, T2, rfl, hLs, hR2, l2, sm, inv⟩
      rw [List.length_map, lr] at inv
      refine ⟨.ref L, rfl, L, _, rfl, .inl ⟨SqL.of hLs, fun p' np => ?_⟩⟩
      have sp := same_upd (o := .tup (ts.map V.ref)) np
      refine q p' T2 _ (sm.free np) (sm.trans sp) ⟨ts, upd_same, hR2.same sp⟩ ⟨l2, fun s row j hr' hj' => inv s j row ?_ hj' hr'⟩
      exact (List.getElem?_eq_some_iff.mp hr').1
/-! ### drawn rules -/
def spDrawn2 (K : PySem.W.Frag) : Sp := fun vs H Q _ => ∃ (p : Addr) (n m : Nat), vs = [.ref p, .int m] ∧ 1 ≤ m ∧ m ≤ 16 ∧ Pot H p n ∧ n + 1000 < 1000000 ∧
  ∀ (o : Addr) (T : List (List Int)) (H' : Hp), Pot H' p (n + 300) → Kp p H H' → Tbl H' o T → IsRule T → T.length ≤ m → Q (.ref o) H'
set_option maxHeartbeats 2000000 in
theorem ok_drawn2 {f fT fO : Addr} {fd dT dO : FuncData} {k : Nat} (F : Fun K "_law_drawn_rule" "_law_drawn_rule" sDrawn2 f fd) (FT : Fun K "_law_take" "_law_take" sTake2 fT dT) (bT : Binds K dT ["_law_pot_here", "_law_many"] []) (gT : mg "_law_take" = some (.ref fT))
    (FO : Fun K "_law_of" "_law_of" sOf2 fO dO) (bO : Binds K dO ["_law_pot_here", "_law_some"] []) (gO : mg "_law_of" = some (.ref fO)) (B : Lib K mg) :
    FnOk P w K mg base CX0 (k + 3) f fd ["_law_pot_here", "_law_most"] (spDrawn2 K) := by
  have GT : FnOk P w K mg base CX0 (k + 2) fT dT ["_law_pot_here", "_law_many"] (spTake K) := ok_take2 FT
  have GO : FnOk P w K mg base CX0 (k + 2) fO dO ["_law_pot_here", "_law_some"] (spOf2 K) := ok_of2 FO FT bT gT B.len
  refine F.ok scDrawn2 (fun vs H Q E h => ?_) (fun cdv A outer s H vs Q E hr h => ?_)
  · obtain ⟨p, n, m, rfl, _⟩ := h
    rfl
  · obtain ⟨p, n, m, rfl, m1, m16, hp, hn, q⟩ := h
    refine ⟨_, pss_cons (ps_asg (pe_tup (pa_cons (pe_op op_add pe_int (pe_call GT hr (by rfl) gT FT.kp bT .nil pass0 (pa_cons (pv 0) (pa_cons (pv 1) pa_nil))))
          (pa_cons (pe_call GO hr (by rfl) gO FO.kp bO .nil pass0 (pa_cons (pv 0) (pa_cons (pe_lst (pa_cons pe_int (pa_cons pe_int (pa_cons pe_int (pa_cons pe_int (pa_cons (pe_un un_neg pe_int) pa_nil)))))) pa_nil))) pa_nil)))
          (pgTupK (K := K) rfl (pgs_cons (pg_name (i := 2) scDrawn2.nd rfl (.inl rfl)) (pgs_cons (pg_name (i := 3) scDrawn2.nd rfl (.inr rfl)) pgs_nil))))
      (pss_cons (ps_set (i := 4) scDrawn2.nd rfl (.inl rfl) (pe_lst pa_nil))
      (pss_cons (ps_for PassesOwn.never rfl (pi_range1 (by rfl) B.range (pa_cons (pv 2) pa_nil)) (pg_name (i := 5) scDrawn2.nd rfl (.inl rfl))
        (pss_one (ps_expr (pe_bm PySem.F.plainAttrs_list PySem.F.slot_list_append PySem.F.type_list_append mt_append (pv 4) (pa_cons
          (pe_callTy (tupOfK (K := K)) (by rfl) B.tuple (by decide +kernel) (pa_cons
            (pe_lc (own := [("_law_one", 6)]) (g := gName 6) (by rfl) scDrawn2.nd (pi_range1 (by rfl) B.range (pa_cons (pv 2) pa_nil))
              (blkOk_by (own := [("_law_one", 6)]) (N := nDrawn2) (sc := defScope sDrawn2) (by decide +kernel))
              (fun _ _ _ _ _ => pg_name (i := 6) scDrawn2.nd rfl (Or.inl rfl))
              (fun _ _ _ _ _ => pts_one (pt_cmpR op_eq (pe_cmpR op_eq (pe_call GT hr (by rfl) gT FT.kp bT .nil pass0 (pa_cons (pv 0) (pa_cons (pe_callB call_abs (by rfl) B.abs (by decide +kernel) (pa_cons (pv 3) pa_nil)) pa_nil))) pe_int (nomark _))
                (pe_cmpR op_gt (pv 3) pe_int (nomark _)) (nomark _)))
              (fun _ _ _ _ _ => pv 6)) pa_nil)) pa_nil)))))
      (pss_one (ps_ret (pe_callTy (tupOfK (K := K)) (by rfl) B.tuple (by decide +kernel) (pa_cons (pv 4) pa_nil)))))), ?_⟩
    refine ⟨.ref p, rfl, .int m, rfl, p, n, (m : Int), rfl, hp, by omega, by omega, by omega, fun r H1 r0 r1 hp1 kp1 => ?_⟩
    obtain ⟨z, ez⟩ : ∃ z : Nat, 1 + r = (z : Int) := ⟨(1 + r).toNat, by omega⟩
    have z1 : 1 ≤ z := by omega
    have zm : z ≤ m := by omega
    refine ⟨1, r, rfl, rfl, ?_⟩
    dsimp only
    rw [ez]
    refine ⟨.ref p, rfl, 4, rfl, by show 5 ≤ sizeLine; decide, fun L5 n5 => ?_⟩
    have s5 := same_upd (o := .lst [.int 2, .int 2, .int 3, .int 6, .int (-4)]) n5
    have n5p : L5 ≠ p := fun z => by
      obtain ⟨_, y⟩ := pot_lst hp1
      rw [z, y] at n5
      cases n5
    have h5 : upd H1 L5 (.lst [.int 2, .int 2, .int 3, .int 6, .int (-4)]) L5 = some (.lst [.int 2, .int 2, .int 3, .int 6, .int (-4)]) := upd_same
    refine ⟨p, L5, n + 1, _, rfl, hp1.same s5, by omega, .inl (SqL.of h5), sq_list h5 n5p, by simp, by show 5 < 1000000; decide, fun i v H2 hv hp2 kp2 => ?_⟩
    obtain ⟨ch, rfl, c1, c2⟩ : ∃ ch : Int, v = .int ch ∧ 1 ≤ (if ch < 0 then -ch else ch) ∧ (if ch < 0 then -ch else ch) < 1000000 := by
      have hm := List.mem_of_getElem? hv
      simp only [List.mem_cons, List.not_mem_nil, or_false] at hm
      rcases hm with rfl | rfl | rfl | rfl | rfl
      all_goals exact ⟨_, rfl, by decide, by decide⟩
    refine ⟨by show 2 ≤ sizeLine; decide, fun t nt => ?_⟩
    have st := same_upd (o := .tup [.int (z : Int), .int ch]) nt
    refine ⟨t, _, rfl, SqT.of upd_same, rfl, _, _, rfl, _, _, rfl, rfl, ?_⟩
    have hp3 := hp2.same st
    have kp3 : Kp p H _ := kp1.trans ((Kp.of s5).trans (kp2.trans (.of st)))
    generalize upd H2 t (.tup [.int (z : Int), .int ch]) = H3 at st hp3 kp3 ⊢
    refine ⟨Nat.zero_le _, fun L nL => ?_⟩
    have sL := same_upd (o := .lst []) nL
    have nLp : L ≠ p := fun y => by
      obtain ⟨_, y'⟩ := pot_lst hp3
      rw [y, y'] at nL
      cases nL
    refine ⟨.int z, rfl, (z : Int), rfl, by omega, by omega, ?_⟩
    rw [Int.toNat_natCast]
    refine for_range (lo := 0) (n := z) (fun i σ H' => ∃ (y5 y6 : Option V) (ts : List Addr) (T : List (List Int)), σ = [some (.ref p), some (.int m), some (.int z), some (.int ch), some (.ref L), y5, y6] ∧ H' L = some (.lst (ts.map V.ref)) ∧ Rows H' ts T ∧ T.length = i ∧ (∀ row ∈ T, Good z row) ∧ Pot H' p (n + 2 + z * i) ∧ Kp p H H')
      ⟨none, none, [], [], rfl, upd_same, .nil, rfl, fun row h => (by cases h), (hp3.same sL).mono (by omega), kp3.trans (.of sL)⟩ ?_ ?_
    · rintro i σ H4 hi ⟨y5, y6, ts, T, rfl, hL, hR, lT, gd, hp4, kp4⟩
      have lts : ts.length = i := by rw [Paired.length hR, lT]
      have zi : z * i ≤ 16 * 16 := Nat.mul_le_mul (by omega) (by omega)
      have zi1 : z * (i + 1) = z * i + z := Nat.mul_succ z i
      refine ⟨.ref L, rfl, .inl ⟨rfl, _, SqL.of hL⟩, .int z, rfl, (z : Int), rfl, by omega, by omega, fun D nD => ?_⟩
      rw [Int.toNat_natCast]
      have sD := same_upd (o := .lst []) nD
      have nDp : D ≠ p := fun y => by
        obtain ⟨_, y'⟩ := pot_lst hp4
        rw [y, y'] at nD
        cases nD
      refine lc_range (lo := 0) (n := z) (fun j H5 => ∃ ms : List Int, ms.Sublist (rangeI j) ∧ H5 D = some (.lst (ms.map V.int)) ∧ Pot H5 p (n + 2 + z * i + j) ∧ Kp p H4 H5) ⟨[], List.nil_sublist _, upd_same, hp4.same sD, .of sD⟩ ?_ ?_
      · rintro j H5 hj ⟨ms, sub, hD, hp5, kp5⟩
        have lm := sub.length_le
        rw [rangeI_length] at lm
        have er : rangeI (j + 1) = rangeI j ++ [(j : Int)] := by
          unfold rangeI
          rw [List.range_succ, List.map_append]
          rfl
        refine ⟨rfl, .ref p, rfl, .int ch, rfl, ch, rfl, p, n + 2 + z * i + j, _, rfl, hp5, by omega, c1, c2, fun r' H6 _ _ hp6 kp6 => ?_⟩
        have hD6 := kp6 _ _ nDp hD
        refine ⟨rfl, .int ch, rfl, ch, 0, rfl, rfl, rfl, _, rfl, ite2 (fun _ => ?_) (fun _ => ?_)⟩
        · refine ⟨_, rfl, _, hD6, by rw [List.length_map]; exact lenLine (by omega), ms ++ [(j : Int)], ?_, ?_, ?_, ?_⟩
          · rw [er]
            exact sub.append (List.Sublist.refl _)
          · rw [upd_same, List.map_append, Int.zero_add]
            rfl
          · obtain ⟨g, t', c, e, r''⟩ := hp6
            exact ⟨g, t', c, by rw [upd_ne nDp.symm]; exact e, r''⟩
          · intro b ob nb hb
            rw [upd_ne (ne_of_none hb nD)]
            exact kp6 _ _ nb (kp5 _ _ nb hb)
        · refine ⟨ms, ?_, hD6, hp6, kp5.trans kp6⟩
          rw [er]
          exact sub.trans (List.sublist_append_left _ _)
      · rintro H5 ⟨ms, sub, hD, hp5, kp5⟩
        refine ⟨D, _, rfl, .inl ⟨SqL.of hD, fun t' nt' => ?_⟩⟩
        have st' := same_upd (o := .tup (ms.map V.int)) nt'
        have hL5 := st' _ _ (kp5 _ _ nLp hL)
        refine ⟨L, _, .ref t', rfl, rfl, hL5, by rw [List.length_map]; exact lenLine (by omega), _, _, ts ++ [t'], T ++ [ms], rfl, ?_, ?_, ?_, ?_, ?_, ?_⟩
        · rw [upd_same, List.map_append]
          rfl
        · exact Rows.kt (paired_append ((hR.kp kp5 hp4).same st') (.cons upd_same .nil)) (KT.lst hL5)
        · rw [List.length_append, lT]
          rfl
        · intro row hr'
          rcases List.mem_append.mp hr' with y | y
          · exact gd row y
          · rw [List.mem_singleton.mp y]
            exact good_sub sub
        · rw [zi1, ← Nat.add_assoc]
          obtain ⟨g, t'', c, e, r''⟩ := hp5.same st'
          exact ⟨g, t'', c, by rw [upd_ne nLp.symm]; exact e, r''⟩
        · intro b ob nb hb
          have hb4 := kp4 _ _ nb hb
          have nbL : b ≠ L := fun y => by
            subst y
            have := kp3 _ _ nb hb
            rw [this] at nL
            cases nL
          rw [upd_ne nbL]
          exact st' _ _ (kp5 _ _ nb hb4)
    · rintro σ H4 ⟨y5, y6, ts, T, rfl, hL, hR, lT, gd, hp4, kp4⟩
      have zz : z * z ≤ 16 * 16 := Nat.mul_le_mul (by omega) (by omega)
      refine ⟨.ref L, rfl, L, _, rfl, .inl ⟨SqL.of hL, fun o no => ?_⟩⟩
      have so := same_upd (o := .tup (ts.map V.ref)) no
      exact q o T _ ((hp4.same so).mono (by omega)) (kp4.trans (.of so)) ⟨ts, upd_same, hR.same so⟩ ⟨by omega, by omega, fun row hr' => by rw [lT]; exact gd row hr'⟩ (by omega)
end
end Nm

/-! set(t), t a tuple of tuples of ints; the size of such a set -/
namespace GL
open PySem PySem.Spec PyProof.Rows L2
section
variable {P : Program} {w : World} {A : Around} {E : Value → Shared → Prop} {s : Shared}
abbrev freshSet (w : World) : Obj := { cls := .type "set", dict := none, data := .set #[] 0 (.fresh 0 0 (!w.params.followText "set-order")) }
set_option maxRecDepth 100000 in
set_option maxHeartbeats 3200000 in
theorem setOfTup {l : Addr} {items : Array Value} (ks : List (Addr × List Int)) {Q : Value → Shared → Prop} (hh : A.handled = none) (hl : s.heap.IsTuple l items)
    (hit : items.toList = ks.map fun p => Value.ref p.1) (hk : ∀ p ∈ ks, IsT P w s.heap p.2 p.1) (hfew : ks.length < 64) (hu : A.units + 3 < cLine)
    (h : ∀ (h' : Heap) (tk : Nat) L es ep t, SetTR P w h' s.heap.objs.size L es ep t → Got ks ks.length L → (∀ b o, s.heap.get? b = some o → h'.get? b = some o) → Q (.ref s.heap.objs.size) { s with heap := h', toks := tk }) :
    wpAny (model P w) A (call (.type "set") [.ref l]) Q E s := by
  have size0 : items.size = ks.length := by
    have z := congrArg List.length hit
    rw [Array.length_toList, List.length_map] at z
    exact z
  obtain ⟨c, tl, hmro⟩ := F.called_set.mro
  have hmade := F.called_set.made
  have hsub := F.called_set.sub
  apply wpAny_call
  apply codeAny_of_tree
  show wpAny _ _ (callAny (.type "set") _) _ _ _
  refine wpAny_pure ⟨Code.quiet_builtin _ (by decide +kernel), ?_⟩
  refine codeAny_builtin F.entry_type_call ?_
  rw [Around.under_plain (weight_type_call_type "set" [.ref l] []) rfl]
  have h1 := F.called_set.notType
  have h2 := F.called_set.canCreate
  have hct := F.typeCall_set_1 (.ref l)
  repeat (any_goals (first | assumption | wp_step))
  refine codeAny_mono (code_set_led1 (.ref l) (E := E) (Q₁ := fun ob s₁ => ob = .ref s.heap.objs.size ∧ s₁ = { s with heap := s.heap.push (freshSet w) }) ⟨rfl, rfl⟩) fun r s₁ hr => ?_
  rcases r with e | fl
  · exact hr
  · rcases fl with _ | _ | _ | ob
    all_goals try exact hr.elim
    obtain ⟨rfl, rfl⟩ := hr
    have hS : (s.heap.push (freshSet w)).get? s.heap.objs.size = some (freshSet w) := Heap.get?_push_size _ rfl
    have hT : Shared.TypeIs { s with heap := s.heap.push (freshSet w) } (.ref s.heap.objs.size) "set" := ⟨_, hS, rfl⟩
    have hli := F.called_set.init.lookup
    have hbi := F.called_set.init.bind (.ref s.heap.objs.size)
    repeat (any_goals (first | assumption | wp_step))
    refine codeAny_mono (codeAny_call_builtin (R := wants (fun r s₂ => r = .none ∧ ∃ h' tk L es ep t, s₂ = { s with heap := h', toks := tk } ∧ SetTR P w h' s.heap.objs.size L es ep t ∧ Got ks ks.length L ∧
        (∀ b o, s.heap.get? b = some o → h'.get? b = some o)) E) F.called_set.init.plain F.entry_set_init (check_set_init_1 hT ?_)) fun r₂ s₂ hr₂ => ?_
    · obtain ⟨⟨ocls, odict, odata, oslots⟩, hol, hcl, nl, hdl⟩ := hl
      simp only at hcl hdl
      subst hcl
      subst hdl
      have hol' : (s.heap.push (freshSet w)).get? l = some { cls := .type "tuple", dict := odict, data := .seq items nl, slots := oslots } := Heap.get?_push_of_some _ hol
      have no1 := F.sub_tuple_set
      have no2 := F.sub_tuple_frozenset
      have no3 : (Value.type "tuple" == Value.type "dict") = false := by decide
      have hl1 : (s.heap.push (freshSet w)).IsTuple l items := ⟨_, hol', rfl, nl, rfl⟩
      unfold Builtin.«set.__init__» noKeywords Builtin.Frozenset.updateFrom
      generalize hPI : pyIter = PI
      wp_walk
      subst hPI
      refine wpAny_pyIter_tuple hl1 ?_
      refine wpAny_bind (wpAny_runValue ?_)
      have ll : l < s.heap.objs.size := Heap.lt_size hol
      have hh3 : A.in1.in1.in1.handled = none := by simp [hh]
      have nI : l ≠ (s.heap.push (freshSet w)).objs.size := by
        rw [Heap.size_push]
        exact Nat.ne_of_lt (Nat.lt_succ_of_lt ll)
      have nS : s.heap.objs.size ∉ [(s.heap.push (freshSet w)).objs.size, l] := by
        rw [Heap.size_push]
        simp only [List.mem_cons, List.mem_singleton, List.not_mem_nil, or_false, not_or]
        exact ⟨Nat.ne_of_lt (Nat.lt_succ_self _), Nat.ne_of_gt ll⟩
      have vals : ∀ (i : Nat) (v : Value), items[i]? = some v → ∃ p, ks[i]? = some p ∧ v = .ref p.1 := by
        intro i v hv
        have z : items.toList[i]? = some v := by
          rw [Array.getElem?_toList]
          exact hv
        rw [hit, List.getElem?_map] at z
        rcases hq : ks[i]? with _ | p
        · rw [hq] at z
          cases z
        · rw [hq] at z
          exact ⟨p, rfl, (Option.some.inj z).symm⟩
      have none_of : ∀ b, s.heap.objs.size ≤ b → s.heap.get? b = none := by
        intro b hb
        rcases q : s.heap.get? b with _ | o
        · rfl
        · exact absurd (Nat.lt_of_lt_of_le (Heap.lt_size q) hb) (Nat.lt_irrefl _)
      refine set_update_tups ((Walks.tuple hh3 _ l nI items).toS) s.heap.objs.size nS ks size0 hfew vals s.heap hk (none_of _ (Nat.le_refl _)) (fun b hb => none_of b ?_) hu (items.size - 0) 0 _ (by omega) (Nat.zero_le _)
        ⟨⟨_, Heap.get?_push_size _ rfl, rfl, rfl⟩, (hl1.at fun o e => Heap.get?_push_of_some _ e)⟩ (fun b o e => Heap.get?_push_of_some _ (Heap.get?_push_of_some _ e)) ?hS0 ?hR
      · rw [List.mem_singleton.mp hb, Heap.size_push]
        exact Nat.le_succ _
      case hS0 =>
        exact ⟨[], #[], 0, _, setTR_fresh (Heap.get?_push_of_some _ hS), Got.zero ks⟩
      case hR =>
        intro s' L es ep t hm hS' g' hkp
        obtain ⟨h', g2, d', tk', os'⟩ := s'
        obtain rfl : g2 = s.gens := hm.gens
        obtain rfl : d' = s.drawn := hm.drawn
        obtain rfl : os' = s.os := hm.os
        show wpAny _ _ _ _ _ _
        refine wpAny_pure ?_
        show wpAny _ _ (ret Value.none) _ _ _
        rw [size0] at g'
        exact wpAny_pure ⟨rfl, h', tk', L, es, ep, t, rfl, hS', g', hkp⟩
    · rcases r₂ with e | fl₂
      · exact hr₂
      · rcases fl₂ with _ | _ | _ | r
        all_goals try exact hr₂.elim
        obtain ⟨rfl, h', tk, L, es, ep, t, rfl, hS', g', hk'⟩ := hr₂
        repeat (any_goals (first | assumption | wp_step))
        exact h _ _ _ _ _ _ hS' g' hk'
end
section
variable {X : Cx}
/-- set(t), t a tuple of tuples of ints -/
def rSetTT (K : PySem.W.Frag) (P : Program) (w : World) : List V → Hp → VK → Prop := fun xs H Q => ∃ (l : Addr) (ks : List (Addr × List Int)), xs = [V.ref l] ∧ SqT K H l (ks.map fun p => V.ref p.1) ∧ (∀ p ∈ ks, SqT K H p.1 (p.2.map V.int)) ∧ ks.length < 64 ∧
  ∀ a L, H a = none → (∀ p ∈ L, p ∈ ks) → (∀ p ∈ ks, p.2 ∈ L.map (·.2)) → (L.map (·.2)).Nodup → Q (.ref a) (upd H a (SetTO P w a L))
theorem setTT {K : PySem.W.Frag} (hc : X.calm = true) (hu : X.A.units + 64 < cLine) (hK : X.K = K := by rfl) : CallR X (.type "set") (rSetTT K X.prog X.w) := by
  subst hK
  intro pins s σ H xs us Q I r h
  obtain ⟨l, ks, rfl, hl, hk, hf, q⟩ := h
  rw [Vals.ref1 r]
  obtain ⟨its, rv, tp, hz⟩ := I.tuple hl
  refine setOfTup (P := X.prog) (w := X.w) ks (I.ok.hd hc) tp (by simpa using refs_of_vals rv) (fun p hp => I.isT (hk p hp)) hf (by omega) fun h' tk L es ep t R g k => ?_
  refine ⟨.ref s.heap.objs.size, upd H s.heap.objs.size (SetTO X.prog X.w s.heap.objs.size L), I.laid (t' := tk) k (Nat.le_refl _) (setTO_new R.t0), rfl, q _ L (I.hok.fresh (Nat.le_refl _)) (fun p hp => ?_) (fun p hp => ?_) R.nd⟩
  · exact List.mem_of_mem_take (g.sub p hp)
  · refine g.all p ?_
    rw [List.take_length]
    exact hp
/-- the size of such a set -/
theorem lenSetT {K : PySem.W.Frag} (hK : X.K = K := by rfl) : CallR X (.builtin "len") (fun xs H Q => ∃ (a : Addr) (L : List (Addr × List Int)), xs = [V.ref a] ∧ H a = some (SetTO X.prog X.w a L) ∧ (∀ p ∈ L, SqT K H p.1 (p.2.map V.int)) ∧ Q (.int L.length) H) := by
  subst hK
  intro pins s σ H xs us Q I r h
  obtain ⟨a, L, rfl, ha, hk, q⟩ := h
  rw [Vals.ref1 r]
  have R0 : SetT0 X.prog X.w s.heap a L := (I.hok a _ ha).1
  obtain ⟨es, ep, t, R⟩ := R0.full fun p hp => I.isT (hk p hp)
  obtain ⟨o, ho, hex, hd⟩ := R.ob
  have sz := R.size
  have few := R.few
  refine call_len_set ho hex hd R.fits (by omega) ?_
  rw [sz]
  exact ⟨.int _, H, I.tok _, ⟨_, rfl⟩, q⟩
end
end GL

/-! set(l), l a list of ints -/
namespace GL
open PySem PySem.Spec PyProof.Rows L2
section
variable {P : Program} {w : World} {A : Around} {E : Value → Shared → Prop} {s : Shared}
set_option maxRecDepth 100000 in
set_option maxHeartbeats 3200000 in
theorem setOfLst {l : Addr} {items : Array Value} (ns : List Int) {Q : Value → Shared → Prop} (hh : A.handled = none) (hl : s.heap.IsList l items) (hit : IntsAre items.toList ns) (hfew : ns.length < 1000)
    (h : ∀ (h' : Heap) (tk c : Nat), SetR w h' s.heap.objs.size (fun j => decide (j ∈ ns)) c → c ≤ ns.length → (∀ b o, s.heap.get? b = some o → h'.get? b = some o) → Q (.ref s.heap.objs.size) { s with heap := h', toks := tk }) :
    wpAny (model P w) A (call (.type "set") [.ref l]) Q E s := by
  have size0 : items.size = ns.length := by
    have z := IntsAre.length hit
    rw [Array.length_toList] at z
    exact z
  obtain ⟨c, tl, hmro⟩ := F.called_set.mro
  have hmade := F.called_set.made
  have hsub := F.called_set.sub
  apply wpAny_call
  apply codeAny_of_tree
  show wpAny _ _ (callAny (.type "set") _) _ _ _
  refine wpAny_pure ⟨Code.quiet_builtin _ (by decide +kernel), ?_⟩
  refine codeAny_builtin F.entry_type_call ?_
  rw [Around.under_plain (weight_type_call_type "set" [.ref l] []) rfl]
  have h1 := F.called_set.notType
  have h2 := F.called_set.canCreate
  have hct := F.typeCall_set_1 (.ref l)
  repeat (any_goals (first | assumption | wp_step))
  refine codeAny_mono (code_set_led1 (.ref l) (E := E) (Q₁ := fun ob s₁ => ob = .ref s.heap.objs.size ∧ s₁ = { s with heap := s.heap.push (freshSet w) }) ⟨rfl, rfl⟩) fun r s₁ hr => ?_
  rcases r with e | fl
  · exact hr
  · rcases fl with _ | _ | _ | ob
    all_goals try exact hr.elim
    obtain ⟨rfl, rfl⟩ := hr
    have hS : (s.heap.push (freshSet w)).get? s.heap.objs.size = some (freshSet w) := Heap.get?_push_size _ rfl
    have hT : Shared.TypeIs { s with heap := s.heap.push (freshSet w) } (.ref s.heap.objs.size) "set" := ⟨_, hS, rfl⟩
    have hli := F.called_set.init.lookup
    have hbi := F.called_set.init.bind (.ref s.heap.objs.size)
    repeat (any_goals (first | assumption | wp_step))
    refine codeAny_mono (codeAny_call_builtin (R := wants (fun r s₂ => r = .none ∧ ∃ h' tk c, s₂ = { s with heap := h', toks := tk } ∧ SetR w h' s.heap.objs.size (fun j => decide (j ∈ ns)) c ∧ c ≤ ns.length ∧
        (∀ b o, s.heap.get? b = some o → h'.get? b = some o)) E) F.called_set.init.plain F.entry_set_init (check_set_init_1 hT ?_)) fun r₂ s₂ hr₂ => ?_
    · obtain ⟨⟨ocls, odict, odata, oslots⟩, hol, hcl, nl, hdl⟩ := hl
      simp only at hcl hdl
      subst hcl
      subst hdl
      have hol' : (s.heap.push (freshSet w)).get? l = some { cls := .type "list", dict := odict, data := .seq items nl, slots := oslots } := Heap.get?_push_of_some _ hol
      have no1 := F.sub_list_set
      have no2 := F.sub_list_frozenset
      have no3 : (Value.type "list" == Value.type "dict") = false := by decide
      have hl1 : (s.heap.push (freshSet w)).IsList l items := ⟨_, hol', rfl, nl, rfl⟩
      unfold Builtin.«set.__init__» noKeywords Builtin.Frozenset.updateFrom
      generalize hPI : pyIter = PI
      wp_walk
      subst hPI
      refine wpAny_pyIter_list hl1 ?_
      refine wpAny_bind (wpAny_runValue ?_)
      have ll : l < s.heap.objs.size := Heap.lt_size hol
      have hh3 : A.in1.in1.in1.handled = none := by simp [hh]
      have nI : l ≠ (s.heap.push (freshSet w)).objs.size := by
        rw [Heap.size_push]
        exact Nat.ne_of_lt (Nat.lt_succ_of_lt ll)
      have nS : s.heap.objs.size ∉ [(s.heap.push (freshSet w)).objs.size, l] := by
        rw [Heap.size_push]
        simp only [List.mem_cons, List.mem_singleton, List.not_mem_nil, or_false, not_or]
        exact ⟨Nat.ne_of_lt (Nat.lt_succ_self _), Nat.ne_of_gt ll⟩
      have vals : ∀ (i : Nat) (v : Value), items[i]? = some v → ∃ k t, ns[i]? = some k ∧ v = .int k t := fun i v hv => by
        have hi : i < ns.length := by
          rw [← size0]
          exact (Array.getElem?_eq_some_iff.mp hv).1
        obtain ⟨t, e⟩ := PyProof.Rows.IntsAre.int_at hit i v (by rw [Array.getElem?_toList]; exact hv)
        refine ⟨ns[i], t, List.getElem?_eq_getElem hi, ?_⟩
        rw [e, List.getD_eq_getElem?_getD, List.getElem?_eq_getElem hi]
        rfl
      refine set_update_ints ((Walks.list hh3 _ l nI items).toS) s.heap.objs.size nS ns size0 (Nat.lt_of_le_of_lt (by omega : ns.length + 1 ≤ 1001) (by decide)) vals (items.size - 0) 0 _ (by omega) (Nat.zero_le _)
        ⟨⟨_, Heap.get?_push_size _ rfl, rfl, rfl⟩, (hl1.at fun o e => Heap.get?_push_of_some _ e)⟩ ?hS0 ?hR
      case hS0 => exact ⟨0, Nat.le_refl 0, setR_new_at (Heap.get?_push_of_some _ hS)⟩
      case hR =>
        intro s' c' hm hc' hS'
        obtain ⟨h', g2, d', tk', os'⟩ := s'
        obtain rfl : g2 = s.gens := hm.gens
        obtain rfl : d' = s.drawn := hm.drawn
        obtain rfl : os' = s.os := hm.os
        show wpAny _ _ _ _ _ _
        refine wpAny_pure ?_
        show wpAny _ _ (ret Value.none) _ _ _
        rw [size0] at hc'
        refine wpAny_pure ⟨rfl, h', tk', c', rfl, hS', hc', fun b o e => ?_⟩
        have b0 : b < s.heap.objs.size := Heap.lt_size e
        refine hm.heap b o ?_ (Heap.get?_push_of_some _ (Heap.get?_push_of_some _ e))
        simp only [List.mem_cons, List.mem_singleton, List.not_mem_nil, or_false, not_or]
        exact ⟨Nat.ne_of_lt b0, by rw [Heap.size_push]; exact Nat.ne_of_lt (Nat.lt_succ_of_lt b0)⟩
    · rcases r₂ with e | fl₂
      · exact hr₂
      · rcases fl₂ with _ | _ | _ | r
        all_goals try exact hr₂.elim
        obtain ⟨rfl, h', tk, c', rfl, hS', hc', hk'⟩ := hr₂
        repeat (any_goals (first | assumption | wp_step))
        exact h _ _ _ hS' hc' hk'
end
section
variable {X : Cx}
theorem setLI {K : PySem.W.Frag} (hc : X.calm = true) (hK : X.K = K := by rfl) : CallR X (.type "set") (fun xs H Q => ∃ (l : Addr) (ns : List Int), xs = [V.ref l] ∧ SqL K H l (ns.map V.int) ∧ ns.length < 1000 ∧
    ∀ (a : Addr) (c : Nat), H a = none → c ≤ ns.length → Q (.ref a) (upd H a (SetO X.w a (fun j => decide (j ∈ ns)) c))) := by
  subst hK
  intro pins s σ H xs us Q I r h
  obtain ⟨l, ns, rfl, hl, hz, q⟩ := h
  rw [Vals.ref1 r]
  obtain ⟨its, rv, pl, _⟩ := I.list hl
  refine setOfLst (P := X.prog) (w := X.w) ns (I.ok.hd hc) pl.isList (by simpa using intsAre_of rv) hz fun h' tk c R hc' kp => ?_
  exact ⟨.ref s.heap.objs.size, _, I.laid (t' := tk) kp (Nat.le_refl _) (setO_new R), rfl, q _ c (I.hok.fresh (Nat.le_refl _)) hc'⟩
end
end GL

namespace Nm
open PySem PySem.Spec PyProof.Rows L2 GL
/-! ### stage 2's drawing: spoilt rules -/
abbrev sSpoilt2 : Stmt := topS 28
abbrev nSpoilt2 : List Str := ["_law_pot_here", "_law_rule", "_law_mark", "_law_one", "_law_some", "_law_other"]
theorem scSpoilt2 : FnScope nSpoilt2 ["_law_pot_here", "_law_rule"] (defScope sSpoilt2) := ⟨rfl, rfl, rfl, by decide +kernel, rfl, by decide +kernel, by decide +kernel⟩
section
variable {X : Cx}
theorem cat2K {K : PySem.W.Frag} (hK : X.K = K := by rfl) : OpR X (binaryOp .Add) (rCatA K) := by
  subst hK
  exact op_catA
theorem slTK {K : PySem.W.Frag} (hK : X.K = K := by rfl) : SlR X (rSlT K) := by
  subst hK
  exact sl_tup
theorem notInK {K : PySem.W.Frag} (hK : X.K = K := by rfl) : OpR X (compareOp .NotIn) (rIn K true) := by
  subst hK
  exact op_notIn_seq
end
theorem catA_of {K : PySem.W.Frag} {H : Hp} {a b : Addr} {xs ys : List V} {Q : VK} (ha : H a = some (.tup xs)) (hb : H b = some (.tup ys)) (hz : xs.length + ys.length ≤ sizeLine)
    (q : ∀ (p : Addr) (H' : Hp), Same H H' → H' p = some (.tup (xs ++ ys)) → Q (.ref p) H') : rCatA K (.ref a) (.ref b) H Q := by
  refine ⟨a, b, xs, ys, rfl, rfl, SqT.of ha, SqT.of hb, hz, fun e => ?_, fun _ e => ?_, fun _ _ p np => q p _ (same_upd np) upd_same⟩
  · subst e
    exact q b H (Same.refl _) hb
  · subst e
    exact q a H (Same.refl _) (by rw [List.append_nil]; exact ha)
theorem paired_take {α β : Type} {F : α → β → Prop} : ∀ {l₁ : List α} {l₂ : List β} (i : Nat), Paired F l₁ l₂ → Paired F (l₁.take i) (l₂.take i)
  | _, _, 0, _ => by
    rw [List.take_zero, List.take_zero]
    exact .nil
  | _, _, i + 1, .nil => by
    rw [List.take_nil, List.take_nil]
    exact .nil
  | _, _, i + 1, .cons h r => by
    rw [List.take_succ_cons, List.take_succ_cons]
    exact .cons h (paired_take i r)
theorem paired_drop {α β : Type} {F : α → β → Prop} : ∀ {l₁ : List α} {l₂ : List β} (i : Nat), Paired F l₁ l₂ → Paired F (l₁.drop i) (l₂.drop i)
  | _, _, 0, h => h
  | _, _, i + 1, .nil => by
    rw [List.drop_nil, List.drop_nil]
    exact .nil
  | _, _, i + 1, .cons h r => by
    rw [List.drop_succ_cons, List.drop_succ_cons]
    exact paired_drop i r
/-- the row with a follower left out or put in -/
def spoilRow (row : List Int) (one : Int) : List Int := row.filter (fun x => decide (x ≠ one)) ++ (if one ∈ row then [] else [one])
theorem spoil_good {n : Nat} {row r : List Int} {one : Int} (h : Good n row) (h0 : 0 ≤ one) (h1 : one < (n : Int)) (pm : r.Perm (spoilRow row one)) (srt : r.Pairwise (· ≤ ·)) : Good n r := by
  have nd : r.Nodup := by
    refine pm.nodup_iff.mpr ?_
    unfold spoilRow
    refine List.nodup_append.mpr ⟨h.nodup.filter _, ?_, ?_⟩
    · split
      · exact List.nodup_nil
      · exact List.pairwise_singleton _ _
    · intro a ha b hb
      split at hb
      · cases hb
      · rw [List.mem_singleton.mp hb]
        have := (List.mem_filter.mp ha).2
        exact of_decide_eq_true this
  refine ⟨strict_of srt nd, fun x hx => ?_⟩
  have hx' := pm.mem_iff.mp hx
  unfold spoilRow at hx'
  rcases List.mem_append.mp hx' with z | z
  · exact h.2 x (List.mem_filter.mp z).1
  · split at z
    · cases z
    · rw [List.mem_singleton.mp z]
      exact ⟨h0, h1⟩
section
variable {P : Program} {w : World} {K : PySem.W.Frag} {mg : Str → Option Value} {base : Heap}
def spSpoilt2 (K : PySem.W.Frag) : Sp := fun vs H Q _ => ∃ (p a : Addr) (n : Nat) (T : List (List Int)), vs = [.ref p, .ref a] ∧ Pot H p n ∧ n + 2 < 1000000 ∧ Tbl H a T ∧ IsRule T ∧
  ∀ (o : Addr) (T' : List (List Int)) (H' : Hp), Pot H' p (n + 2) → Kp p H H' → Tbl H' o T' → IsRule T' → T'.length = T.length → Q (.ref o) H'
set_option maxHeartbeats 2000000 in
theorem ok_spoilt2 {f fT : Addr} {fd dT : FuncData} {k : Nat} (F : Fun K "_law_spoilt" "_law_spoilt" sSpoilt2 f fd) (FT : Fun K "_law_take" "_law_take" sTake2 fT dT) (bT : Binds K dT ["_law_pot_here", "_law_many"] []) (gT : mg "_law_take" = some (.ref fT)) (B : Lib K mg) (mi : mg "int" = none) :
    FnOk P w K mg base CX0 (k + 2) f fd ["_law_pot_here", "_law_rule"] (spSpoilt2 K) := by
  have GT : FnOk P w K mg base CX0 (k + 1) fT dT ["_law_pot_here", "_law_many"] (spTake K) := ok_take2 FT
  refine F.ok scSpoilt2 (fun vs H Q E h => ?_) (fun cdv A outer s H vs Q E hr h => ?_)
  · obtain ⟨p, a, n, T, rfl, _⟩ := h
    rfl
  · obtain ⟨p, a, n, T, rfl, hp, hn, ⟨rs, ha, hR⟩, rule, q⟩ := h
    refine ⟨_, pss_cons (ps_asg (pe_tup (pa_cons (pe_call GT hr (by rfl) gT FT.kp bT .nil pass0 (pa_cons (pv 0) (pa_cons (pe_callB (lenK (K := K)) (by rfl) B.len PySem.boot_len (pa_cons (pv 1) pa_nil)) pa_nil)))
          (pa_cons (pe_call GT hr (by rfl) gT FT.kp bT .nil pass0 (pa_cons (pv 0) (pa_cons (pe_callB (lenK (K := K)) (by rfl) B.len PySem.boot_len (pa_cons (pv 1) pa_nil)) pa_nil))) pa_nil)))
          (pgTupK (K := K) rfl (pgs_cons (pg_name (i := 2) scSpoilt2.nd rfl (.inl rfl)) (pgs_cons (pg_name (i := 3) scSpoilt2.nd rfl (.inr rfl)) pgs_nil))))
      (pss_cons (ps_set (i := 4) scSpoilt2.nd rfl (.inl rfl) (pe_op op_cat
          (pe_lc (own := [("_law_other", 5)]) (g := gName 5) (by rfl) scSpoilt2.nd (piTupK (K := K) (pe_ix (ixTupK (K := K)) (pv 1) (pv 2) (fun _ _ => rfl)))
            (blkOk_by (own := [("_law_other", 5)]) (N := nSpoilt2) (sc := defScope sSpoilt2) (by decide +kernel))
            (fun _ _ _ _ _ => pg_name (i := 5) scSpoilt2.nd rfl (Or.inl rfl))
            (fun _ _ _ _ _ => pts_one (pt_cmpR op_ne (pv 5) (pv 3) (nomark _)))
            (fun _ _ _ _ _ => pv 5))
          (pe_op op_rep (pe_lst (pa_cons (pv 3) pa_nil)) (pe_callTy call_int1 (by rfl) mi (by decide +kernel) (pa_cons (pe_cmpR (notInK (K := K)) (pv 3) (pe_ix (ixTupK (K := K)) (pv 1) (pv 2) (fun _ _ => rfl)) (by rfl)) pa_nil)))))
      (pss_one (ps_ret (pe_op (cat2K (K := K)) (pe_op (cat2K (K := K)) (pe_slice (slTK (K := K)) (pv 1) po_none (po_some (pv 2)))
          (pe_tup (pa_cons (pe_callTy (tupOfK (K := K)) (by rfl) B.tuple (by decide +kernel) (pa_cons (pe_callB cr_sorted (by rfl) B.sorted (by decide +kernel) (pa_cons (pv 4) pa_nil)) pa_nil)) pa_nil)))
          (pe_slice (slTK (K := K)) (pv 1) (po_some (pe_op op_add (pv 2) pe_int)) po_none))))), ?_⟩
    have lr : rs.length = T.length := Paired.length hR
    have lm : (rs.map V.ref).length = T.length := by rw [List.length_map, lr]
    have rl := rule
    obtain ⟨t1, t16, good⟩ := rl
    refine ⟨.ref p, rfl, .ref a, rfl, a, _, rfl, .inr (SqT.of ha), p, n, _, rfl, hp, by omega, by rw [lm]; omega, by rw [lm]; omega, fun m H1 m0 m1 hp1 kp1 => ?_⟩
    rw [lm] at m1
    have ha1 := kp1.tup hp ha
    refine ⟨.ref p, rfl, .ref a, rfl, a, _, rfl, .inr (SqT.of ha1), p, n + 1, _, rfl, hp1, by omega, by rw [lm]; omega, by rw [lm]; omega, fun one H2 o0 o1 hp2 kp2 => ?_⟩
    rw [lm] at o1
    have ha2 := kp2.tup hp1 ha1
    have hR2 := (hR.kp kp1 hp).kp kp2 hp1
    refine ⟨by show 2 ≤ sizeLine; decide, fun t nt => ?_⟩
    have st := same_upd (o := .tup [.int m, .int one]) nt
    refine ⟨t, _, rfl, SqT.of upd_same, rfl, _, _, rfl, _, _, rfl, rfl, ?_⟩
    have ha3 := st _ _ ha2
    have hR3 := hR2.same st
    have hp3 := hp2.same st
    have kp3 : Kp p H _ := kp1.trans (kp2.trans (.of st))
    generalize upd H2 t (.tup [.int m, .int one]) = H3 at ha3 hR3 hp3 kp3 ⊢
    obtain ⟨i, rfl⟩ : ∃ i : Nat, m = (i : Int) := ⟨m.toNat, by omega⟩
    have iT : i < T.length := by omega
    obtain ⟨c, hc⟩ : ∃ c, rs[i]? = some c := ⟨_, List.getElem?_eq_getElem (by omega)⟩
    obtain ⟨row, hrw, hcell⟩ := paired_get hR3 hc
    have hg := good row (List.mem_of_getElem? hrw)
    have hgl := hg.len
    have atc : atI (rs.map V.ref) (i : Int) = some (.ref c) := atI_nat (xs := rs.map V.ref) (j := i) (v := .ref c) (by rw [List.getElem?_map, hc]; rfl)
    refine ⟨.ref a, rfl, .int i, rfl, a, _, _, _, rfl, rfl, SqT.of ha3, atc, c, rfl, ⟨_, SqT.of hcell⟩, fun D nD => ?_⟩
    have sD := same_upd (o := .lst []) nD
    refine lc_tup (K := K) (a := c) (xs := row.map V.int) (fun j H4 => H4 D = some (.lst (((row.take j).filter (fun x => decide (x ≠ one))).map V.int)) ∧ Same H3 H4) ⟨upd_same, sD⟩ (fun j H4 _ h => SqT.of (h.2 _ _ hcell)) ?_ ?_
    · rintro j x H4 hx ⟨hD, sm⟩
      obtain ⟨y, hy, rfl⟩ := int_at hx
      have tk : row.take (j + 1) = row.take j ++ [y] := by
        rw [List.take_add_one, hy]
        rfl
      refine ⟨rfl, .int y, rfl, .int one, rfl, ?_⟩
      refine ⟨rfl, _, rfl, ite2 (fun e => ?_) (fun e => ?_)⟩
      · have ne : y ≠ one := fun z => by
          subst z
          simp at e
        refine ⟨_, rfl, _, hD, ?_, ?_, ?_⟩
        · rw [List.length_map]
          exact lenLine (Nat.lt_of_le_of_lt (List.length_filter_le _ _) (by rw [List.length_take]; omega))
        · rw [upd_same, tk, List.filter_append, List.map_append]
          simp [ne]
        · intro b o hb
          rw [upd_ne (ne_of_none hb nD)]
          exact sm _ _ hb
      · have ye : y = one := by
          simpa using e
        refine ⟨?_, sm⟩
        rw [hD, tk, List.filter_append]
        simp [ye]
    · rintro H4 ⟨hD, sm⟩
      rw [List.length_map, List.take_length] at hD
      refine ⟨.int one, rfl, by show 1 ≤ sizeLine; decide, fun e1 ne1 => ?_⟩
      have s1 := same_upd (o := .lst [.int one]) ne1
      have sm4 := sm.trans s1
      have hD4 := s1 _ _ hD
      have he1 : upd H4 e1 (.lst [.int one]) e1 = some (.lst [.int one]) := upd_same
      generalize upd H4 e1 (.lst [.int one]) = H5 at s1 sm4 hD4 he1 ⊢
      refine ⟨.int one, rfl, .ref a, rfl, .int i, rfl, a, _, _, _, rfl, rfl, SqT.of (sm4 _ _ ha3), atc, c, _, rfl, .inr (SqT.of (sm4 _ _ hcell)), rfl, flat_ints row, .inr ⟨_, rfl, ?_⟩⟩
      show rRep _ _ _ _
      rw [if_pos rfl, inV_int]
      have eR : (List.replicate (if (!decide (one ∈ row)) = true then (1 : Int) else 0).toNat [V.int one]).flatten = (if one ∈ row then [] else [one]).map V.int := by
        by_cases z : one ∈ row
        · simp [z]
        · simp [z]
      have hk : 0 ≤ (if (!decide (one ∈ row)) = true then (1 : Int) else 0) ∧ (if (!decide (one ∈ row)) = true then (1 : Int) else 0) ≤ 1 := by
        split
        · exact ⟨by decide, by decide⟩
        · exact ⟨by decide, by decide⟩
      refine ⟨e1, _, _, rfl, rfl, he1, by omega, by omega, ?_, fun e2 ne2 => ?_⟩
      · show 1 * _ ≤ _
        exact Nat.le_of_lt (lenLine (by omega))
      rw [eR]
      have s2 := same_upd (o := .lst ((if one ∈ row then [] else [one]).map V.int)) ne2
      have sm5 := sm4.trans s2
      have hD5 := s2 _ _ hD4
      have he2 : upd H5 e2 (.lst ((if one ∈ row then [] else [one]).map V.int)) e2 = some (.lst ((if one ∈ row then [] else [one]).map V.int)) := upd_same
      generalize upd H5 e2 (.lst ((if one ∈ row then [] else [one]).map V.int)) = H6 at s2 sm5 hD5 he2 ⊢
      have lsp : (spoilRow row one).length ≤ 17 := by
        unfold spoilRow
        rw [List.length_append]
        have l1 := List.length_filter_le (fun x => decide (x ≠ one)) row
        have l2 : (if one ∈ row then [] else [one]).length ≤ 1 := by
          split
          · exact Nat.zero_le _
          · exact Nat.le_refl _
        omega
      refine ⟨D, e2, _, _, rfl, rfl, hD5, he2, ?_, fun S nS => ?_⟩
      · rw [← List.length_append, ← List.map_append, List.length_map]
        exact Nat.le_of_lt (lenLine (Nat.lt_of_le_of_lt lsp (by decide)))
      rw [← List.map_append]
      have sS := same_upd (o := .lst ((row.filter (fun x => decide (x ≠ one)) ++ (if one ∈ row then [] else [one])).map V.int)) nS
      have sm6 := sm5.trans sS
      have hS : upd H6 S (.lst ((row.filter (fun x => decide (x ≠ one)) ++ (if one ∈ row then [] else [one])).map V.int)) S = some (.lst ((spoilRow row one).map V.int)) := upd_same
      generalize upd H6 S (.lst ((row.filter (fun x => decide (x ≠ one)) ++ (if one ∈ row then [] else [one])).map V.int)) = H7 at sS sm6 hS ⊢
      have ha7 := sm6 _ _ ha3
      have ei : HT.sIx (rs.map V.ref).length (rs.map V.ref).length (some (i : Int)) = i := by
        rw [HT.sIx_nat, lm]
        omega
      have ej : HT.sIx (rs.map V.ref).length 0 (some ((i : Int) + 1)) = i + 1 := by
        rw [show ((i : Int) + 1) = ((i + 1 : Nat) : Int) by omega, HT.sIx_nat, lm]
        omega
      have e0 : cutV (rs.map V.ref) none (some (i : Int)) = (rs.take i).map V.ref := by
        unfold cutV
        rw [ei, HT.sIx_none, List.drop_zero, List.map_take]
        rfl
      have e9 : cutV (rs.map V.ref) (some ((i : Int) + 1)) none = (rs.drop (i + 1)).map V.ref := by
        unfold cutV
        rw [ej, HT.sIx_none, List.map_drop]
        refine List.take_of_length_le ?_
        rw [List.length_drop]
        exact Nat.le_refl _
      refine ⟨.ref a, rfl, .int i, rfl, (i : Int), rfl, a, _, rfl, SqT.of ha7, ?_, fun p1 np1 => ?_⟩
      · rintro ⟨_, z⟩
        rw [ei, lm] at z
        omega
      rw [e0]
      have sp1 := same_upd (o := .tup ((rs.take i).map V.ref)) np1
      have sm8 := sm6.trans sp1
      have hp1' : upd H7 p1 (.tup ((rs.take i).map V.ref)) p1 = some (.tup ((rs.take i).map V.ref)) := upd_same
      have hS8 := sp1 _ _ hS
      generalize upd H7 p1 (.tup ((rs.take i).map V.ref)) = H8 at sp1 sm8 hp1' hS8 ⊢
      refine ⟨.ref S, rfl, S, _, rfl, SqL.of hS8, by omega, fun ns' o pm srt no => ⟨o, _, rfl, .inl ⟨SqL.of upd_same, fun t' nt' => ?_⟩⟩⟩
      have so := same_upd (o := .lst (ns'.map V.int)) no
      have st' := same_upd (o := .tup (ns'.map V.int)) nt'
      have sA := so.trans st'
      have ht' : upd (upd H8 o (.lst (ns'.map V.int))) t' (.tup (ns'.map V.int)) t' = some (.tup (ns'.map V.int)) := upd_same
      generalize upd (upd H8 o (.lst (ns'.map V.int))) t' (.tup (ns'.map V.int)) = H9 at sA ht' ⊢
      refine ⟨by show 1 ≤ sizeLine; decide, fun t2 nt2 => ?_⟩
      have s9 := same_upd (o := .tup [.ref t']) nt2
      have sB := sA.trans s9
      have ht2 : upd H9 t2 (.tup [.ref t']) t2 = some (.tup [.ref t']) := upd_same
      have ht9 := s9 _ _ ht'
      generalize upd H9 t2 (.tup [.ref t']) = Ha at s9 sB ht2 ht9 ⊢
      refine catA_of (sB _ _ hp1') ht2 ?_ fun p2 Hb sb hp2b => ?_
      · rw [List.length_map, List.length_take]
        exact Nat.le_of_lt (lenLine (by simp; omega))
      have sC := sm8.trans (sB.trans sb)
      refine ⟨.ref a, rfl, .int i, rfl, _, _, rfl, rfl, _, rfl, a, _, rfl, SqT.of (sC _ _ ha3), ?_, fun p3 np3 => ?_⟩
      · rintro ⟨z, _⟩
        rw [ej] at z
        omega
      dsimp only
      rw [e9]
      have sp3 := same_upd (o := .tup ((rs.drop (i + 1)).map V.ref)) np3
      refine catA_of (sp3 _ _ hp2b) upd_same ?_ fun o2 Hc sc ho2 => ?_
      · rw [List.length_append, List.length_map, List.length_map, List.length_take, List.length_drop]
        exact Nat.le_of_lt (lenLine (by simp; omega))
      have sD' := sC.trans (sp3.trans sc)
      have eT : (rs.take i).map V.ref ++ [.ref t'] ++ (rs.drop (i + 1)).map V.ref = (rs.take i ++ [t'] ++ rs.drop (i + 1)).map V.ref := by
        rw [List.map_append, List.map_append]
        rfl
      rw [eT] at ho2
      have hRc := hR3.same sD'
      have lT' : (T.take i ++ [ns'] ++ T.drop (i + 1)).length = T.length := by
        simp
        omega
      refine q o2 (T.take i ++ [ns'] ++ T.drop (i + 1)) Hc (hp3.same sD') (kp3.trans (.of sD')) ⟨_, ho2, ?_⟩ ⟨by omega, by omega, fun r hr' => ?_⟩ lT'
      · exact paired_append (paired_append (paired_take i hRc) (.cons ((sb.trans (sp3.trans sc)) _ _ ht9) .nil)) (paired_drop (i + 1) hRc)
      · rw [lT']
        rcases List.mem_append.mp hr' with z | z
        · rcases List.mem_append.mp z with z | z
          · exact good r (List.mem_of_mem_take z)
          · rw [List.mem_singleton.mp z]
            exact spoil_good hg o0 o1 pm srt
        · exact good r (List.mem_of_mem_drop z)
end
end Nm

namespace Nm
open PySem PySem.Spec PyProof.Rows L2 GL
/-! ### the game, by trying all lying marks: what the law says -/
/-- the marks that may follow a mark -/
def behL (T : List (List Int)) (m : Int) : List Int := T.getD m.toNat []
def hitL (xs ys : List Int) : Bool := xs.any fun x => decide (x ∈ ys)
/-- the marks that fit behind a mark with lying marks -/
def fitL (T : List (List Int)) (m : Int) (ss : List Int) : List Int := (behL T m).filter fun x => !hitL (behL T x) ss
/-- all ascending rows of at most so many numbers below a size -/
def setsL (most : Nat) : Nat → List (List Int)
  | 0 => [[]]
  | k + 1 => setsL most k ++ ((setsL most k).filter fun r => decide (r.length < most)).map fun r => r ++ [(k : Int)]
def stopL (T : List (List Int)) (m : Int) (left : List Int) (every : List (List Int)) : Bool := every.any fun ss => !hitL (fitL T m ss) left
def goneL (T : List (List Int)) (every : List (List Int)) (left : List Int) : List Int := left.filter fun m => stopL T m left every
def stayL (left gone : List Int) : List Int := left.filter fun m => decide (m ∉ gone)
/-- the marks that each round removes -/
def roundsL (T : List (List Int)) (every : List (List Int)) : Nat → List Int → List (List Int)
  | 0, _ => []
  | k + 1, left => if goneL T every left = [] then [] else goneL T every left :: roundsL T every k (stayL left (goneL T every left))
theorem setsL_length (most k : Nat) : (setsL most k).length ≤ 2 ^ k := by
  induction k with
  | zero => exact Nat.le_refl _
  | succ k ih =>
    unfold setsL
    rw [List.length_append, List.length_map, Nat.pow_succ]
    have := List.length_filter_le (fun r => decide (List.length r < most)) (setsL most k)
    omega
theorem setsL_row (most k : Nat) : ∀ row ∈ setsL most k, row.length ≤ most ∧ row.length ≤ k ∧ row.Pairwise (· < ·) ∧ ∀ x ∈ row, 0 ≤ x ∧ x < (k : Int) := by
  induction k with
  | zero =>
    intro row h
    rw [List.mem_singleton.mp h]
    exact ⟨Nat.zero_le _, Nat.zero_le _, .nil, fun x hx => (by cases hx)⟩
  | succ k ih =>
    intro row h
    unfold setsL at h
    rcases List.mem_append.mp h with z | z
    · obtain ⟨h1, h2, h3, h4⟩ := ih row z
      exact ⟨h1, by omega, h3, fun x hx => by have := h4 x hx; omega⟩
    · obtain ⟨r, hr, rfl⟩ := List.mem_map.mp z
      obtain ⟨hm, hl⟩ := List.mem_filter.mp hr
      obtain ⟨h1, h2, h3, h4⟩ := ih r hm
      have hl' := of_decide_eq_true hl
      refine ⟨by rw [List.length_append]; exact hl', by rw [List.length_append]; simp; omega, ?_, fun x hx => ?_⟩
      · refine List.pairwise_append.mpr ⟨h3, List.pairwise_singleton _ _, fun a ha b hb => ?_⟩
        rw [List.mem_singleton.mp hb]
        exact (h4 a ha).2
      · rcases List.mem_append.mp hx with y | y
        · have := h4 x y
          omega
        · rw [List.mem_singleton.mp y]
          omega
theorem behL_at {T : List (List Int)} {i : Nat} {row : List Int} (h : T[i]? = some row) : behL T (i : Int) = row := by
  unfold behL
  rw [Int.toNat_natCast, List.getD_eq_getElem?_getD, h]
  rfl
theorem behL_good {T : List (List Int)} (r : IsRule T) (m : Int) : Good T.length (behL T m) := by
  unfold behL
  rw [List.getD_eq_getElem?_getD]
  cases h : T[m.toNat]? with
  | none => exact ⟨.nil, fun x hx => (by cases hx)⟩
  | some row => exact r.2.2 row (List.mem_of_getElem? h)
theorem hit_any (xs ys : List Int) : (xs.map fun x => decide (x ∈ ys)).any id = hitL xs ys := by
  unfold hitL
  rw [List.any_map]
  rfl
/-! ### behind, fit -/
abbrev sBehind2 : Stmt := topS 31
abbrev sFit2 : Stmt := topS 32
theorem scBehind2 : FnScope ["_law_rule", "_law_mark"] ["_law_rule", "_law_mark"] (defScope sBehind2) := ⟨rfl, rfl, rfl, by decide +kernel, rfl, by decide +kernel, by decide +kernel⟩
abbrev nFit2 : List Str := ["_law_rule", "_law_mark", "_law_some", "_law_found", "_law_one", "_law_other"]
theorem scFit2 : FnScope nFit2 ["_law_rule", "_law_mark", "_law_some"] (defScope sFit2) := ⟨rfl, rfl, rfl, by decide +kernel, rfl, by decide +kernel, by decide +kernel⟩
section
variable {X : Cx}
theorem any2K {K : PySem.W.Frag} (hc : X.calm = true) (hK : X.K = K := by rfl) : CallR X (.builtin "any") (rAny K) := by
  subst hK
  exact cr_any hc
end
section
variable {P : Program} {w : World} {K : PySem.W.Frag} {mg : Str → Option Value} {base : Heap}
def spBehind2 (K : PySem.W.Frag) : Sp := fun vs H Q _ => ∃ (p : Addr) (m : Int) (T : List (List Int)), vs = [.ref p, .int m] ∧ 0 ≤ m ∧ Tbl H p T ∧ ∀ (c : Addr) (H' : Hp), Same H H' → H' c = some (.tup ((behL T m).map V.int)) → Q (.ref c) H'
theorem ok_behind2 {f : Addr} {fd : FuncData} {k : Nat} (F : Fun K "_law_behind" "_law_behind" sBehind2 f fd) (ml : mg "len" = none) : FnOk P w K mg base CX0 (k + 1) f fd ["_law_rule", "_law_mark"] (spBehind2 K) := by
  refine F.ok scBehind2 (fun vs H Q E h => ?_) (fun cdv A outer s H vs Q E hr h => ?_)
  · obtain ⟨p, m, T, rfl, _⟩ := h
    rfl
  · obtain ⟨p, m, T, rfl, m0, ⟨rs, hp, hR⟩, q⟩ := h
    refine ⟨_, pss_one (ps_ret (pe_ifExp (pt_cmpR op_lt (pv 1) (pe_callB (lenK (K := K)) (by rfl) ml PySem.boot_len (pa_cons (pv 0) pa_nil)) (nomark _)) (pe_ix (ixTupK (K := K)) (pv 0) (pv 1) (fun _ _ => rfl)) (pe_tup pa_nil))), ?_⟩
    obtain ⟨i, rfl⟩ : ∃ i : Nat, m = (i : Int) := ⟨m.toNat, by omega⟩
    have lr : rs.length = T.length := Paired.length hR
    refine ⟨.int i, rfl, .ref p, rfl, p, _, rfl, .inr (SqT.of hp), _, _, rfl, rfl, _, rfl, ite2 (fun e => ?_) (fun e => ?_)⟩
    · have e' := of_decide_eq_true e
      rw [List.length_map] at e'
      have il : i < rs.length := by omega
      obtain ⟨c, hc⟩ : ∃ c, rs[i]? = some c := ⟨_, List.getElem?_eq_getElem il⟩
      obtain ⟨row, hrw, hcell⟩ := paired_get hR hc
      refine ⟨.ref p, rfl, .int i, rfl, p, _, _, _, rfl, rfl, SqT.of hp, atI_nat (v := .ref c) (by rw [List.getElem?_map, hc]; rfl), q c H (Same.refl _) ?_⟩
      rw [behL_at hrw]
      exact hcell
    · have e' : ¬ ((i : Int) < ((rs.map V.ref).length : Int)) := fun z => e (decide_eq_true z)
      rw [List.length_map] at e'
      refine ⟨Nat.zero_le _, fun t nt => q t _ (same_upd nt) ?_⟩
      have : T[i]? = none := List.getElem?_eq_none (by omega)
      rw [upd_same]
      unfold behL
      rw [Int.toNat_natCast, List.getD_eq_getElem?_getD, this]
      rfl
def spFit2 (K : PySem.W.Frag) : Sp := fun vs H Q _ => ∃ (p l : Addr) (m : Int) (T : List (List Int)) (ss : List Int), vs = [.ref p, .int m, .ref l] ∧ 0 ≤ m ∧ Tbl H p T ∧ IsRule T ∧ Sq K H l (ss.map V.int) ∧
  ∀ (c : Addr) (H' : Hp), Same H H' → H' c = some (.lst ((fitL T m ss).map V.int)) → Q (.ref c) H'
set_option maxHeartbeats 2000000 in
theorem ok_fit2 {f fB : Addr} {fd dB : FuncData} {k : Nat} (F : Fun K "_law_fit" "_law_fit" sFit2 f fd) (FB : Fun K "_law_behind" "_law_behind" sBehind2 fB dB) (bB : Binds K dB ["_law_rule", "_law_mark"] []) (gB : mg "_law_behind" = some (.ref fB)) (ml : mg "len" = none) (ma : mg "any" = none) :
    FnOk P w K mg base CX0 (k + 2) f fd ["_law_rule", "_law_mark", "_law_some"] (spFit2 K) := by
  have GB : FnOk P w K mg base CX0 (k + 1) fB dB ["_law_rule", "_law_mark"] (spBehind2 K) := ok_behind2 FB ml
  refine F.ok scFit2 (fun vs H Q E h => ?_) (fun cdv A outer s H vs Q E hr h => ?_)
  · obtain ⟨p, l, m, T, ss, rfl, _⟩ := h
    rfl
  · obtain ⟨p, l, m, T, ss, rfl, m0, hT, rule, hS, q⟩ := h
    refine ⟨_, pss_cons (ps_set (i := 3) scFit2.nd rfl (.inl rfl) (pe_lst pa_nil))
      (pss_cons (ps_for PassesOwn.never rfl (piTupK (K := K) (pe_call GB hr (by rfl) gB FB.kp bB .nil pass0 (pa_cons (pv 0) (pa_cons (pv 1) pa_nil)))) (pg_name (i := 4) scFit2.nd rfl (.inl rfl))
        (pss_one (ps_if (pt_not (pt_val (pe_callB (any2K (K := K) rfl) (by rfl) ma (by decide +kernel) (pa_cons
            (pe_lc (own := [("_law_other", 5)]) (g := gName 5) (by rfl) scFit2.nd (piTupK (K := K) (pe_call GB hr (by rfl) gB FB.kp bB .nil pass0 (pa_cons (pv 0) (pa_cons (pv 4) pa_nil))))
              (blkOk_by (own := [("_law_other", 5)]) (N := nFit2) (sc := defScope sFit2) (by decide +kernel))
              (fun _ _ _ _ _ => pg_name (i := 5) scFit2.nd rfl (Or.inl rfl)) (fun _ _ _ _ _ => pts_nil)
              (fun _ _ _ _ _ => pe_cmpR (inK (K := K)) (pv 5) (pv 2) (by rfl))) pa_nil))))
          (pss_one (ps_expr (pe_bm PySem.F.plainAttrs_list PySem.F.slot_list_append PySem.F.type_list_append mt_append (pv 3) (pa_cons (pv 4) pa_nil)))) pss_nil)))
      (pss_one (ps_ret (pv 3)))), ?_⟩
    refine ⟨Nat.zero_le _, fun L nL => ?_⟩
    have sL := same_upd (o := .lst []) nL
    refine ⟨.ref p, rfl, .int m, rfl, p, m, T, rfl, m0, hT.same sL, fun c H1 s1 hc => ⟨c, rfl, ⟨_, SqT.of hc⟩, ?_⟩⟩
    have gd := behL_good rule m
    have gl := gd.len
    have n16 := rule.2.1
    refine for_tup (K := K) (a := c) (xs := (behL T m).map V.int) (fun i σ H' => ∃ (y4 y5 : Option V), σ = [some (.ref p), some (.int m), some (.ref l), some (.ref L), y4, y5] ∧
        H' L = some (.lst ((((behL T m).take i).filter fun x => !hitL (behL T x) ss).map V.int)) ∧ H' c = some (.tup ((behL T m).map V.int)) ∧ Same H H')
      ⟨none, none, rfl, s1 _ _ upd_same, hc, sL.trans s1⟩ (fun i σ H' _ h => ?_) ?_ ?_
    · obtain ⟨_, _, _, _, hc', _⟩ := h
      exact SqT.of hc'
    · rintro i x σ H2 hx ⟨y4, y5, rfl, hL2, hc2, sm2⟩
      obtain ⟨y, hy, rfl⟩ := int_at hx
      have yb := gd.2 y (List.mem_of_getElem? hy)
      have tk : (behL T m).take (i + 1) = (behL T m).take i ++ [y] := by
        rw [List.take_add_one, hy]
        rfl
      refine ⟨.ref p, rfl, .int y, rfl, p, y, T, rfl, yb.1, hT.same sm2, fun c2 H3 s3 hc3 => ⟨c2, rfl, ⟨_, SqT.of hc3⟩, fun D nD => ?_⟩⟩
      have gy := (behL_good rule y).len
      have sD := same_upd (o := .lst []) nD
      have nLD : L ≠ D := fun z => by
        rw [← z, s3 _ _ hL2] at nD
        cases nD
      refine lc_tup (K := K) (a := c2) (xs := (behL T y).map V.int) (fun j H4 => H4 D = some (.lst ((((behL T y).take j).map fun x => decide (x ∈ ss)).map V.bl)) ∧ Same H3 H4) ⟨upd_same, sD⟩ (fun j H4 _ h => SqT.of (h.2 _ _ hc3)) ?_ ?_
      · rintro j x H4 hx ⟨hD, sm4⟩
        obtain ⟨z, hz, rfl⟩ := int_at hx
        have tz : (behL T y).take (j + 1) = (behL T y).take j ++ [z] := by
          rw [List.take_add_one, hz]
          rfl
        refine ⟨rfl, yesI ⟨.int z, rfl, .ref l, rfl, l, _, rfl, hS.same (sm2.trans (s3.trans sm4)), rfl, flat_ints ss, _, hD, ?_, ?_, ?_⟩⟩
        · rw [List.length_map, List.length_map, List.length_take]
          exact lenLine (by omega)
        · rw [upd_same, tz, List.map_append, List.map_append, if_neg (by decide), inV_int]
          rfl
        · intro b o hb
          rw [upd_ne (ne_of_none hb nD)]
          exact sm4 _ _ hb
      · rintro H4 ⟨hD, sm4⟩
        rw [List.length_map, List.take_length] at hD
        refine ⟨D, _, rfl, SqL.of hD, _, rfl, ?_⟩
        rw [hit_any]
        have s24 := s3.trans sm4
        refine ite2 (fun e => ?_) (fun e => ?_)
        · refine ⟨.ref L, rfl, .inl ⟨rfl, _, SqL.of (s24 _ _ hL2)⟩, .int y, rfl, L, _, _, rfl, rfl, s24 _ _ hL2, ?_, _, _, rfl, ?_, ?_, ?_⟩
          · rw [List.length_map]
            exact lenLine (Nat.lt_of_le_of_lt (List.length_filter_le _ _) (by rw [List.length_take]; omega))
          · rw [upd_same, tk, List.filter_append, List.map_append]
            simp [e]
          · rw [upd_ne (fun z => by
              rw [z, hL2] at hc2
              cases hc2)]
            exact s24 _ _ hc2
          · intro b o hb
            rw [upd_ne (ne_of_none hb nL)]
            exact (sm2.trans s24) _ _ hb
        · refine ⟨_, _, rfl, ?_, s24 _ _ hc2, sm2.trans s24⟩
          rw [s24 _ _ hL2, tk, List.filter_append]
          simp at e
          simp [e]
    · rintro σ H2 ⟨y4, y5, rfl, hL2, hc2, sm2⟩
      rw [List.length_map, List.take_length] at hL2
      exact ⟨.ref L, rfl, q L H2 sm2 hL2⟩
end
end Nm

namespace Nm
open PySem PySem.Spec PyProof.Rows L2 GL
/-! ### all lying marks; whether some of them stops a mark -/
/-! sSets2 -/
/-! sStop2 -/
abbrev nSets2 : List Str := ["_law_size", "_law_most", "_law_found", "_law_number", "_law_some"]
abbrev nStop2 : List Str := ["_law_rule", "_law_mark", "_law_left", "_law_every", "_law_some", "_law_one"]
section
variable {P : Program} {w : World} {K : PySem.W.Frag} {mg : Str → Option Value} {base : Heap}
/-- a list of rows -/
def LRows (H : Hp) (l : Addr) (T : List (List Int)) : Prop := ∃ rs : List Addr, H l = some (.lst (rs.map V.ref)) ∧ Rows H rs T
theorem LRows.same {H H' : Hp} {l : Addr} {T : List (List Int)} (h : LRows H l T) (s : Same H H') : LRows H' l T := by
  obtain ⟨rs, h1, h2⟩ := h
  exact ⟨rs, s _ _ h1, h2.same s⟩
def spSets2 (K : PySem.W.Frag) : Sp := fun vs H Q _ => ∃ (n most : Nat), vs = [.int n, .int most] ∧ n ≤ 16 ∧ most ≤ 1000 ∧ ∀ (c : Addr) (H' : Hp), Same H H' → LRows H' c (setsL most n) → Q (.ref c) H'
/-! ### can_stop -/
def spStop2 (K : PySem.W.Frag) : Sp := fun vs H Q _ => ∃ (p l v : Addr) (m : Int) (T every : List (List Int)) (left : List Int), vs = [.ref p, .int m, .ref l, .ref v] ∧ 0 ≤ m ∧ Tbl H p T ∧ IsRule T ∧ Sq K H l (left.map V.int) ∧ LRows H v every ∧ every.length ≤ 65536 ∧
  ∀ (H' : Hp), Same H H' → Q (.bl (stopL T m left every)) H'
end
end Nm

namespace Nm
open PySem PySem.Spec PyProof.Rows L2 GL
/-! ### the rounds, by trying all lying marks -/
/-! sRemoved2 -/
abbrev nRemoved2 : List Str := ["_law_rule", "_law_mirrors", "_law_left", "_law_found", "_law_every", "_law_gone", "_law_mark"]
theorem gone_sub (T every : List (List Int)) (left : List Int) : (goneL T every left).Sublist left := List.filter_sublist
theorem stay_lt {left gone : List Int} (s : gone.Sublist left) (h : gone ≠ []) : (stayL left gone).length < left.length := by
  obtain ⟨x, hx⟩ := List.exists_mem_of_ne_nil _ h
  exact List.length_filter_lt_length_iff_exists.mpr ⟨x, s.subset hx, by simp [hx]⟩
theorem rounds_fuel (T every : List (List Int)) : ∀ (k : Nat) (left : List Int), left.length < k → roundsL T every k left = roundsL T every (left.length + 1) left
  | 0, _, h => absurd h (Nat.not_lt_zero _)
  | k + 1, left, h => by
    unfold roundsL
    by_cases e : goneL T every left = []
    · rw [if_pos e, if_pos e]
    · rw [if_neg e, if_neg e]
      have lt := stay_lt (gone_sub T every left) e
      rw [rounds_fuel T every k _ (by omega)]
      by_cases e2 : left.length < k + 1
      · cases hl : left.length with
        | zero => omega
        | succ n => rw [rounds_fuel T every (n + 1) _ (by omega)]
      · omega
/-- the rounds of a rule -/
def removedL (T : List (List Int)) (mir : Nat) : List (List Int) := roundsL T (setsL mir T.length) (T.length + 1) (rangeI T.length)
section
variable {P : Program} {w : World} {K : PySem.W.Frag} {mg : Str → Option Value} {base : Heap}
def spRemoved2 (K : PySem.W.Frag) : Sp := fun vs H Q _ => ∃ (p : Addr) (mir : Nat) (T : List (List Int)), vs = [.ref p, .int mir] ∧ Tbl H p T ∧ IsRule T ∧ mir ≤ 1000 ∧ ∀ (c : Addr) (H' : Hp), Same H H' → Tbl H' c (removedL T mir) → Q (.ref c) H'
end
end Nm

namespace Nm
open PySem PySem.Spec PyProof.Rows L2 GL LamX NdefX StX
/-! ### the program's barring, attack -/
abbrev sBarring : Stmt := topS 12
abbrev sAttack : Stmt := topS 13
abbrev nBarring : List Str := ["rule", "mirrors", "marks", "hardest", "lies", "rest", "mark"]
theorem scBarring : FnScope nBarring ["rule", "mirrors", "marks"] (defScope sBarring) := ⟨rfl, rfl, rfl, by decide +kernel, rfl, by decide +kernel, by decide +kernel⟩
abbrev nAttack : List Str := ["rule", "mirrors", "mark", "left", "other"]
theorem scAttack : FnScope nAttack ["rule", "mirrors", "mark", "left"] (defScope sAttack) := ⟨rfl, rfl, rfl, by decide +kernel, rfl, by decide +kernel, by decide +kernel⟩
/-! what is true of lying marks -/
/-- each of ns is followed by some of ys -/
def Hits (T : List (List Int)) (ns ys : List Int) : Prop := ∀ m ∈ ns, ∃ y ∈ ys, y ∈ behL T m
/-- ys are lying marks that bar ns -/
structure Bars (T : List (List Int)) (mir : Nat) (ns ys : List Int) : Prop where
  asc : ys.Pairwise (· < ·)
  few : ys.length ≤ mir
  from_ : ∀ y ∈ ys, ∃ m ∈ ns, y ∈ behL T m
  hits : Hits T ns ys
def NoBar (T : List (List Int)) (mir : Nat) (ns : List Int) : Prop := ∀ ys : List Int, ys.length ≤ mir → ¬ Hits T ns ys
theorem bars_nil {T : List (List Int)} {mir : Nat} : Bars T mir [] [] := ⟨.nil, Nat.zero_le _, fun y hy => (by cases hy), fun m hm => (by cases hm)⟩
theorem nobar_zero {T : List (List Int)} {ns : List Int} (h : ns ≠ []) : NoBar T 0 ns := fun ys hl hh => by
  obtain ⟨m, hm⟩ := List.exists_mem_of_ne_nil _ h
  obtain ⟨y, hy, _⟩ := hh m hm
  have : ys = [] := List.length_eq_zero_iff.mp (Nat.le_zero.mp hl)
  rw [this] at hy
  cases hy
def restL (T : List (List Int)) (ns : List Int) (y : Int) : List Int := ns.filter fun m => decide (y ∉ behL T m)
theorem nobar_step {T : List (List Int)} {mir : Nat} {ns : List Int} {h : Int} (hm : h ∈ ns) (all : ∀ y ∈ behL T h, NoBar T mir (restL T ns y)) : NoBar T (mir + 1) ns := fun ys hl hh => by
  obtain ⟨y, hy, hb⟩ := hh h hm
  refine all y hb (ys.erase y) (by rw [List.length_erase_of_mem hy]; omega) fun m hm' => ?_
  obtain ⟨h1, h2⟩ := List.mem_filter.mp hm'
  obtain ⟨z, hz, hzb⟩ := hh m h1
  refine ⟨z, (List.mem_erase_of_ne fun e => ?_).mpr hz, hzb⟩
  rw [e] at hzb
  exact (of_decide_eq_true h2) hzb
theorem bars_step {T : List (List Int)} {mir : Nat} {ns zs ys : List Int} {y h : Int} (hm : h ∈ ns) (hy : y ∈ behL T h) (b : Bars T mir (restL T ns y) zs) (p : ys.Perm (y :: zs)) (le : ys.Pairwise (· ≤ ·)) : Bars T (mir + 1) ns ys := by
  have nz : y ∉ zs := fun z => by
    obtain ⟨m, h1, h2⟩ := b.from_ y z
    exact (of_decide_eq_true (List.mem_filter.mp h1).2) h2
  have nd : ys.Nodup := p.nodup_iff.mpr (List.nodup_cons.mpr ⟨nz, b.asc.imp fun h => Int.ne_of_lt h⟩)
  refine ⟨?_, by rw [p.length_eq, List.length_cons]; have := b.few; omega, fun x hx => ?_, fun m h1 => ?_⟩
  · have := le.and nd
    exact this.imp fun h => by have := h.1; have := h.2; omega
  · rcases List.mem_cons.mp (p.mem_iff.mp hx) with e | e
    · rw [e]
      exact ⟨h, hm, hy⟩
    · obtain ⟨m, h1, h2⟩ := b.from_ x e
      exact ⟨m, (List.mem_filter.mp h1).1, h2⟩
  · by_cases e : y ∈ behL T m
    · exact ⟨y, p.mem_iff.mpr List.mem_cons_self, e⟩
    · obtain ⟨x, h2, h3⟩ := b.hits m (List.mem_filter.mpr ⟨h1, decide_eq_true e⟩)
      exact ⟨x, p.mem_iff.mpr (List.mem_cons_of_mem _ h2), h3⟩
theorem at_row {H : Hp} {p : Addr} {T : List (List Int)} {n : Int} (h : Tbl H p T) (n0 : 0 ≤ n) (n1 : n < (T.length : Int)) : ∃ (rs : List Addr) (c : Addr), H p = some (.tup (rs.map V.ref)) ∧ atI (rs.map V.ref) n = some (V.ref c) ∧ H c = some (.tup ((behL T n).map V.int)) := by
  obtain ⟨rs, hp, hR⟩ := h
  obtain ⟨i, rfl⟩ : ∃ i : Nat, n = (i : Int) := ⟨n.toNat, by omega⟩
  have lr : rs.length = T.length := Paired.length hR
  have il : i < rs.length := by omega
  obtain ⟨c, hc⟩ : ∃ c, rs[i]? = some c := ⟨_, List.getElem?_eq_getElem il⟩
  obtain ⟨row, hrw, hcell⟩ := paired_get hR hc
  refine ⟨rs, c, hp, atI_nat (v := V.ref c) (by rw [List.getElem?_map, hc]; rfl), ?_⟩
  rw [behL_at hrw]
  exact hcell
def freeB (sc scope : Scope) : Bool := scope.names.all fun y => !decide (y.2 = .free) || (decide (sc.names.lookup y.1 = some .cell) || decide (sc.names.lookup y.1 = some .free))
theorem free_of {X : Cx} {sc scope : Scope} (h : freeB sc scope = true) (e : X.env.scope = sc := by rfl) : ∀ y ∈ scope.names, y.2 = .free → X.env.scope.names.lookup y.1 = some .cell ∨ X.env.scope.names.lookup y.1 = some .free := fun y hy z => by
  have q := List.all_eq_true.mp h y hy
  rw [decide_eq_true z, Bool.not_true, Bool.false_or, Bool.or_eq_true] at q
  rw [e]
  exact q.imp of_decide_eq_true of_decide_eq_true
section
variable {TT : Tbs} {H H' : Hp}
theorem Rows.ex {rs : List Addr} {T : List (List Int)} (h : Rows H rs T) (s : Ex TT H H') : Rows H' rs T := Paired.mapP h fun a b e => s _ _ e
theorem Tbl.ex {p : Addr} {T : List (List Int)} (h : Tbl H p T) (s : Ex TT H H') : Tbl H' p T := by
  obtain ⟨rs, e, r⟩ := h
  exact ⟨rs, s _ _ e, r.ex s⟩
end
section
variable {P : Program} {w : World} {K : PySem.W.Frag} {mg : Str → Option Value} {base : Heap}
def spBar (TT : Tbs) (n : Nat) : Sp := fun vs H Q _ => ∃ (p l : Addr) (mir : Nat) (T : List (List Int)) (ns : List Int), vs = [.ref p, .int mir, .ref l] ∧ mir < n ∧ mir ≤ 3 ∧ Tbl H p T ∧ IsRule T ∧ H l = some (.lst (ns.map V.int)) ∧ (∀ x ∈ ns, 0 ≤ x ∧ x < (T.length : Int)) ∧ ns.length ≤ 16 ∧ Tabs TT H ∧
  (∀ H', Ex TT H H' → NoBar T mir ns → Q .non H') ∧ ∀ (c : Addr) (ys : List Int) (H' : Hp), Ex TT H H' → H' c = some (.tup (ys.map V.int)) → Bars T mir ns ys → Q (.ref c) H'
theorem spBar_len {TT : Tbs} {n : Nat} : ∀ vs H Q E, spBar TT n vs H Q E → vs.length = ["rule", "mirrors", "marks"].length := fun vs H Q E h => by
  obtain ⟨p, l, mir, T, ns, rfl, _⟩ := h
  rfl
/-- what barring leans on: its code object's table -/
structure BarT (K : PySem.W.Frag) (mg : Str → Option Value) (base : Heap) (TT : Tbs) (f : Addr) (fd : FuncData) : Prop where
  len : mg "len" = none
  min : mg "min" = none
  tuple : mg "tuple" = none
  sorted : mg "sorted" = none
  fn : ∃ c P : Addr, FunC K "barring" "barring" sBarring f fd c ∧ TabB base mg c P ∧ (P, ("barring.<locals>." : Str) ++ "<lambda>") ∈ TT ∧ ∀ p ∈ TT, p.1 = P → p.2 = ("barring.<locals>." : Str) ++ "<lambda>"
  b : Binds K fd ["rule", "mirrors", "marks"] []
  g : mg "barring" = some (.ref f)
set_option maxHeartbeats 4000000 in
theorem ok_barring {TT : Tbs} {f : Addr} {fd : FuncData} {k : Nat} (D : BarT K mg base TT f fd) : ∀ n, FnOk P w K mg base CX0 (k + 2 + n) f fd ["rule", "mirrors", "marks"] (spBar TT n)
  | 0 => ⟨spBar_len, fun A outer s H args us vs Q E _ _ _ _ h => by
      obtain ⟨_, _, mir, _, _, _, h0, _, _⟩ := h
      exact absurd h0 (Nat.not_lt_zero _)⟩
  | n + 1 => by
    have GD := ok_barring (k := k) D n
    obtain ⟨ml, mmin, mtup, msort, ⟨c0, P0, FC, TB, hmT, hu⟩, bD, gD⟩ := D
    refine funC FC scBarring spBar_len (fun A outer s H vs Q E hr h => ?_)
    obtain ⟨p, l, mir, T, ns, rfl, mn, mm3, hT, rule, hl, bd, nl, tabs, qN, qY⟩ := h
    refine ⟨_, pss_cons (ps_if (pt_not (pt_truth (pv 2) (fun _ => rfl))) (pss_one (ps_ret (pe_tup pa_nil))) pss_nil)
      (pss_cons (ps_if (pt_cmpR op_lt (pv 1) pe_int (nomark _)) (pss_one (ps_ret pe_non)) pss_nil)
      (pss_cons (ps_set (i := 3) scBarring.nd rfl (.inl rfl) (pe_minLam (TT := TT) (k := k + n) (N := ["mark", "rule"]) (fr := ["rule"]) (js := [0]) (a := "mark") TB rfl hmT hu (hr.mono (show k + n + 2 ≤ k + 2 + n by omega)) (by rfl) mmin (pa_cons (pv 2) pa_nil)
          (nscope_by (by decide +kernel)) (free_of (sc := defScope sBarring) (by decide +kernel)) (by decide +kernel) rfl rfl (fun _ _ _ _ _ _ => rfl)
          (fun _ _ _ _ _ => pe_callB (lenK (K := K)) (by rfl) ml PySem.boot_len (pa_cons (pe_ix (ixTupK (K := K)) (pv 1) (pv 0) (fun _ _ => rfl)) pa_nil))))
      (pss_cons (ps_for PassesOwn.never rfl (piTupK (K := K) (pe_ix (ixTupK (K := K)) (pv 0) (pv 3) (fun _ _ => rfl))) (pg_name (i := 4) scBarring.nd rfl (.inr rfl))
        (pss_cons (ps_set (i := 5) scBarring.nd rfl (.inl rfl) (pe_call GD hr (by rfl) gD FC.kept bD .nil pass0 (pa_cons (pv 0) (pa_cons (pe_op op_sub (pv 1) pe_int) (pa_cons
            (pe_lc (own := [("mark", 6)]) (g := gName 6) (by rfl) scBarring.nd (piLstK (K := K) (pv 2))
              (blkOk_by (own := [("mark", 6)]) (N := nBarring) (sc := defScope sBarring) (by decide +kernel))
              (fun _ _ _ _ _ => pg_name (i := 6) scBarring.nd rfl (Or.inl rfl))
              (fun _ _ _ _ _ => pts_one (pt_cmpR (notInK (K := K)) (pv 4) (pe_ix (ixTupK (K := K)) (pv 0) (pv 6) (fun _ _ => rfl)) (by rfl)))
              (fun _ _ _ _ _ => pv 6)) pa_nil)))))
        (pss_one (ps_if (pt_cmpR op_notN (pv 5) pe_non (nomark _))
          (pss_one (ps_ret (pe_callTy (tupOfK (K := K)) (by rfl) mtup (by decide +kernel) (pa_cons (pe_callB cr_sorted (by rfl) msort (by decide +kernel) (pa_cons (pe_lst (pa_cons (pv 4) (pa_star (pv 5) pa_nil))) pa_nil)) pa_nil)))) pss_nil))))
      (pss_one (ps_ret pe_non))))), ?_⟩
    refine ⟨.ref l, rfl, _, .inl ⟨_, SqL.of hl, rfl⟩, ite2 (fun e => ?_) (fun e => ?_)⟩
    · have e0 : ns = [] := by
        cases ns with
        | nil => rfl
        | cons a b => simp at e
      subst e0
      exact ⟨Nat.zero_le _, fun t nt => qY t [] _ (.of (same_upd nt)) upd_same bars_nil⟩
    have e0 : ns ≠ [] := fun z => by
      subst z
      simp at e
    have npos : 0 < ns.length := List.length_pos_iff.mpr e0
    refine ⟨.int mir, rfl, mir, 1, rfl, rfl, _, rfl, ite2 (fun e1 => ?_) (fun e1 => ?_)⟩
    · have m0 : mir = 0 := by
        have := of_decide_eq_true e1
        omega
      subst m0
      exact qN H (.refl _) (nobar_zero e0)
    have m1 : 1 ≤ mir := by
      have : ¬ ((mir : Int) < 1) := fun z => e1 (decide_eq_true z)
      omega
    obtain ⟨mr, rfl⟩ : ∃ mr, mir = mr + 1 := ⟨mir - 1, by omega⟩
    refine ⟨.ref l, rfl, l, ns, rfl, SqL.of hl, npos, tabs, fun H2 ex n hn => ?_, fun h hm H2 ex2 => ?_⟩
    · have nb := bd n hn
      obtain ⟨rs, c, hp, at1, hc⟩ := at_row (hT.ex ex) nb.1 nb.2
      exact ⟨_, .ref p, rfl, .int n, rfl, p, _, n, _, rfl, rfl, SqT.of hp, at1, c, _, rfl, .inr (SqT.of hc), rfl, rfl⟩
    have hb := bd h hm
    have hT2 := hT.ex ex2
    obtain ⟨rs, c, hp, at1, hc⟩ := at_row hT2 hb.1 hb.2
    have gd := behL_good rule h
    refine ⟨.ref p, rfl, .int h, rfl, p, _, h, _, rfl, rfl, SqT.of hp, at1, c, rfl, ⟨_, SqT.of hc⟩, ?_⟩
    refine for_tup (K := K) (a := c) (xs := (behL T h).map V.int) (fun i σ H' => ∃ (y4 y5 y6 : Option V), σ = [some (.ref p), some (.int ((mr + 1 : Nat) : Int)), some (.ref l), some (.int h), y4, y5, y6] ∧
        (∀ y ∈ (behL T h).take i, NoBar T mr (restL T ns y)) ∧ Ex TT H2 H')
      ⟨none, none, none, rfl, fun y hy => (by simp at hy), .refl _⟩ (fun i σ H' _ h => ?_) ?_ ?_
    · obtain ⟨_, _, _, _, _, ex3⟩ := h
      exact SqT.of (ex3 _ _ hc)
    · rintro i x σ H3 hx ⟨y4, y5, y6, rfl, nb, ex3⟩
      obtain ⟨y, hy, rfl⟩ := int_at hx
      have ym : y ∈ behL T h := List.mem_of_getElem? hy
      have ex13 := ex2.trans ex3
      have hl3 := ex13 _ _ hl
      have tk : (behL T h).take (i + 1) = (behL T h).take i ++ [y] := by
        rw [List.take_add_one, hy]
        rfl
      refine ⟨.ref p, rfl, .int ((mr + 1 : Nat) : Int), rfl, _, 1, rfl, rfl, .ref l, rfl, l, rfl, ⟨_, SqL.of hl3⟩, fun D nD => ?_⟩
      have sD := same_upd (o := .lst []) nD
      refine lc_list (K := K) (a := l) (xs := ns.map V.int) (fun j H4 => H4 D = some (.lst ((restL T (ns.take j) y).map V.int)) ∧ Same H3 H4) ⟨upd_same, sD⟩ (fun j H4 _ h => SqL.of (h.2 _ _ hl3)) ?_ ?_
      · rintro j x H4 hx ⟨hD, s4⟩
        obtain ⟨m, hm', rfl⟩ := int_at hx
        have mb := bd m (List.mem_of_getElem? hm')
        obtain ⟨rs4, c4, hp4, at4, hc4⟩ := at_row ((hT.ex ex13).same s4) mb.1 mb.2
        have tz : ns.take (j + 1) = ns.take j ++ [m] := by
          rw [List.take_add_one, hm']
          rfl
        refine ⟨rfl, .int y, rfl, .ref p, rfl, .int m, rfl, p, _, m, _, rfl, rfl, SqT.of hp4, at4, c4, _, rfl, .inr (SqT.of hc4), rfl, flat_ints _, _, rfl, ?_⟩
        show if (if true = true then !inV (.int y) _ else inV (.int y) _) = true then _ else _
        rw [if_pos rfl, inV_int]
        refine ite2 (fun e => ?_) (fun e => ?_)
        · have ne : y ∉ behL T m := by simpa using e
          refine ⟨_, rfl, _, hD, ?_, ?_, ?_⟩
          · rw [List.length_map]
            exact lenLine (Nat.lt_of_le_of_lt (List.length_filter_le _ _) (by rw [List.length_take]; omega))
          · rw [upd_same, tz]
            unfold restL
            rw [List.filter_append, List.map_append, List.filter_cons_of_pos (by simpa using ne)]
            rfl
          · intro b o hb
            rw [upd_ne (ne_of_none hb nD)]
            exact s4 _ _ hb
        · have ne : y ∈ behL T m := by simpa using e
          refine ⟨?_, s4⟩
          rw [hD, tz]
          unfold restL
          rw [List.filter_append, List.filter_cons_of_neg (by simpa using ne)]
          simp
      · rintro H4 ⟨hD, s4⟩
        rw [List.length_map, List.take_length] at hD
        have ex14 := ex13.trans (.of s4)
        refine ⟨p, D, mr, T, restL T ns y, ?_, by omega, by omega, hT.ex ex14, rule, hD, fun x hx => bd x (List.mem_filter.mp hx).1, Nat.le_trans (List.length_filter_le _ _) nl, ex14.tb tabs, fun H5 ex5 nb5 => ?_, fun c5 zs H5 ex5 hc5 b5 => ?_⟩
        · show [V.ref p, V.int (((mr + 1 : Nat) : Int) - 1), V.ref D] = [V.ref p, V.int (mr : Int), V.ref D]
          rw [show ((mr + 1 : Nat) : Int) - 1 = (mr : Int) by omega]
        · refine ⟨.non, rfl, rfl, _, rfl, ite2 (fun e => ?_) (fun _ => ?_)⟩
          · simp at e
          · refine ⟨_, _, _, rfl, fun z hz => ?_, ex3.trans ((Ex.of s4).trans ex5)⟩
            rw [tk] at hz
            rcases List.mem_append.mp hz with q | q
            · exact nb z q
            · rw [List.mem_singleton.mp q]
              exact nb5
        · refine ⟨.ref c5, rfl, rfl, _, rfl, ite2 (fun _ => ?_) (fun e => ?_)⟩
          · refine ⟨.int y, rfl, .ref c5, rfl, c5, _, rfl, .inl (SqT.of hc5), ?_, fun D2 nD2 => ?_⟩
            · have := b5.few
              simp
              exact Nat.le_of_lt (lenLine (by omega))
            · refine ⟨D2, y :: zs, rfl, SqL.of ?_, ?_, fun ws p2 pm le np2 => ?_⟩
              · rw [upd_same]
                simp
              · have := b5.few
                rw [List.length_cons]
                omega
              · refine ⟨p2, _, rfl, .inl ⟨SqL.of upd_same, fun t nt => ?_⟩⟩
                exact qY t ws _ (ex14.trans (ex5.trans (.of ((same_upd nD2).trans ((same_upd np2).trans (same_upd nt)))))) upd_same (bars_step hm ym b5 pm le)
          · simp at e
    · rintro σ H3 ⟨y4, y5, y6, rfl, nb, ex3⟩
      rw [List.length_map, List.take_length] at nb
      exact qN H3 (ex2.trans ex3) (nobar_step hm nb)
end
end Nm

namespace Nm
open PySem PySem.Spec PyProof.Rows L2 GL
/-! ### all marks of some rows, one behind another; the core -/
abbrev sFlat2 : Stmt := topS 33
/-! sCore2 -/
theorem scFlat2 : FnScope ["_law_some", "_law_found", "_law_part"] ["_law_some"] (defScope sFlat2) := ⟨rfl, rfl, rfl, by decide +kernel, rfl, by decide +kernel, by decide +kernel⟩
abbrev nCore2 : List Str := ["_law_rule", "_law_mirrors", "_law_gone", "_law_mark"]
/-- the marks that no round removes -/
def coreL (T : List (List Int)) (mir : Nat) : List Int := (rangeI T.length).filter fun m => decide (m ∉ (removedL T mir).flatten)
theorem part_len {p : Int → Bool} : ∀ l : List Int, (l.filter p).length + (l.filter fun x => !p x).length = l.length
  | [] => rfl
  | x :: r => by
    have ih := part_len (p := p) r
    cases h : p x with
    | true =>
      rw [List.filter_cons_of_pos h, List.filter_cons_of_neg (by simp [h])]
      simp
      omega
    | false =>
      rw [List.filter_cons_of_neg (by simp [h]), List.filter_cons_of_pos (by simp [h])]
      simp
      omega
theorem gone_iff {T every : List (List Int)} {left : List Int} {x : Int} : x ∈ goneL T every left ↔ x ∈ left ∧ stopL T x left every = true := List.mem_filter
theorem stay_gone (T every : List (List Int)) (left : List Int) : stayL left (goneL T every left) = left.filter fun m => !stopL T m left every := by
  unfold stayL
  refine List.filter_congr fun x hx => ?_
  by_cases e : stopL T x left every = true
  · rw [decide_eq_false (fun z => z (gone_iff.mpr ⟨hx, e⟩)), e]
    rfl
  · rw [decide_eq_true (show ¬ x ∈ goneL T every left from fun z => e (gone_iff.mp z).2)]
    cases h : stopL T x left every with
    | true => exact absurd h e
    | false => rfl
theorem rounds_flat (T every : List (List Int)) : ∀ (k : Nat) (left : List Int), (roundsL T every k left).flatten.length ≤ left.length
  | 0, _ => Nat.zero_le _
  | k + 1, left => by
    unfold roundsL
    by_cases e : goneL T every left = []
    · rw [if_pos e]
      exact Nat.zero_le _
    · rw [if_neg e, List.flatten_cons, List.length_append]
      have ih := rounds_flat T every k (stayL left (goneL T every left))
      have pl := part_len (p := fun m => stopL T m left every) left
      rw [stay_gone] at ih ⊢
      unfold goneL
      omega
theorem removed_flat {T : List (List Int)} {mir : Nat} : (removedL T mir).flatten.length ≤ T.length := by
  have := rounds_flat T (setsL mir T.length) (T.length + 1) (rangeI T.length)
  rw [rangeI_length] at this
  exact this
theorem rounds_rows (T every : List (List Int)) (n : Nat) : ∀ (k : Nat) (left : List Int), Good n left → ∀ row ∈ roundsL T every k left, Good n row ∧ row ≠ []
  | 0, _, _, row, h => by cases h
  | k + 1, left, g, row, h => by
    unfold roundsL at h
    by_cases e : goneL T every left = []
    · rw [if_pos e] at h
      cases h
    · rw [if_neg e] at h
      rcases List.mem_cons.mp h with z | z
      · rw [z]
        exact ⟨g.sub (gone_sub T every left), e⟩
      · exact rounds_rows T every n k _ (g.sub List.filter_sublist) row z
theorem rangeI_good (n : Nat) : Good n (rangeI n) := good_sub (List.Sublist.refl _)
theorem removed_rows {T : List (List Int)} {mir : Nat} : ∀ row ∈ removedL T mir, Good T.length row ∧ row ≠ [] := rounds_rows T _ T.length _ _ (rangeI_good _)
theorem core_good {T : List (List Int)} {mir : Nat} : Good T.length (coreL T mir) := (rangeI_good _).sub List.filter_sublist
section
variable {P : Program} {w : World} {K : PySem.W.Frag} {mg : Str → Option Value} {base : Heap}
def spFlat2 (K : PySem.W.Frag) : Sp := fun vs H Q _ => ∃ (p : Addr) (T : List (List Int)), vs = [.ref p] ∧ Tbl H p T ∧ T.flatten.length ≤ 10000 ∧ ∀ (c : Addr) (H' : Hp), Same H H' → H' c = some (.lst (T.flatten.map V.int)) → Q (.ref c) H'
theorem ok_flat2 {f : Addr} {fd : FuncData} {k : Nat} (F : Fun K "_law_flat" "_law_flat" sFlat2 f fd) (ml : mg "list" = none) : FnOk P w K mg base CX0 (k + 1) f fd ["_law_some"] (spFlat2 K) := by
  refine F.ok scFlat2 (fun vs H Q E h => ?_) (fun cdv A outer s H vs Q E hr h => ?_)
  · obtain ⟨p, T, rfl, _⟩ := h
    rfl
  · obtain ⟨p, T, rfl, ⟨rs, hp, hR⟩, lf, q⟩ := h
    refine ⟨_, pss_cons (ps_set (i := 1) scFlat2.nd rfl (.inl rfl) (pe_lst pa_nil))
      (pss_cons (ps_for PassesOwn.never rfl (piTupK (K := K) (pv 0)) (pg_name (i := 2) scFlat2.nd rfl (.inl rfl))
        (pss_one (ps_expr (pe_bm PySem.F.plainAttrs_list PySem.F.slot_list_extend PySem.F.type_list_extend mt_extend (pv 1) (pa_cons (pe_callTy (lstOfK (K := K)) (by rfl) ml (by decide +kernel) (pa_cons (pv 2) pa_nil)) pa_nil)))))
      (pss_one (ps_ret (pv 1)))), ?_⟩
    have lr : rs.length = T.length := Paired.length hR
    have pre : ∀ i, (T.take i).flatten.length ≤ T.flatten.length := fun i => by
      have e : T.flatten = (T.take i).flatten ++ (T.drop i).flatten := by rw [← List.flatten_append, List.take_append_drop]
      rw [e, List.length_append]
      omega
    refine ⟨Nat.zero_le _, fun L nL => ?_⟩
    have sL := same_upd (o := .lst []) nL
    refine ⟨.ref p, rfl, p, rfl, ⟨_, SqT.of (sL _ _ hp)⟩, for_tup (K := K) (a := p) (xs := rs.map V.ref) (fun i σ H' => ∃ y2 : Option V, σ = [some (.ref p), some (.ref L), y2] ∧ H' L = some (.lst ((T.take i).flatten.map V.int)) ∧ Same H H')
      ⟨none, rfl, upd_same, sL⟩ (fun i σ H' _ h => ?_) ?_ ?_⟩
    · obtain ⟨_, _, _, sm⟩ := h
      exact SqT.of (sm _ _ hp)
    · rintro i x σ H1 hx ⟨y2, rfl, hL, sm⟩
      obtain ⟨c, hc, rfl⟩ := ref_at hx
      obtain ⟨row, hrw, hcell⟩ := paired_get hR hc
      have tk : (T.take (i + 1)).flatten = (T.take i).flatten ++ row := by
        rw [List.take_add_one, hrw, List.flatten_append]
        simp
      refine ⟨.ref L, rfl, .inl ⟨rfl, _, SqL.of hL⟩, .ref c, rfl, c, _, rfl, .inr (SqT.of (sm _ _ hcell)), fun d nd => ?_⟩
      have sd := same_upd (o := .lst (row.map V.int)) nd
      have pi := pre (i + 1)
      rw [tk, List.length_append] at pi
      refine ⟨L, d, _, _, rfl, rfl, sd _ _ hL, upd_same, ?_, _, rfl, ?_, ?_⟩
      · rw [List.length_map, List.length_map]
        exact Nat.le_of_lt (lenLine (by omega))
      · rw [upd_same, tk, List.map_append]
      · intro b o hb
        rw [upd_ne (ne_of_none hb nL)]
        exact sd _ _ (sm _ _ hb)
    · rintro σ H1 ⟨y2, rfl, hL, sm⟩
      rw [List.length_map, lr, List.take_length] at hL
      exact ⟨.ref L, rfl, q L H1 sm hL⟩
def spCore2 (K : PySem.W.Frag) : Sp := fun vs H Q _ => ∃ (p : Addr) (mir : Nat) (T : List (List Int)), vs = [.ref p, .int mir] ∧ Tbl H p T ∧ IsRule T ∧ mir ≤ 1000 ∧ ∀ (c : Addr) (H' : Hp), Same H H' → H' c = some (.tup ((coreL T mir).map V.int)) → Q (.ref c) H'
end
end Nm

namespace Nm
open PySem PySem.Spec PyProof.Rows L2 GL
/-! ### the game: what holds of rounds and cores -/
/-- every ascending row of at most so many numbers below k is among the sets -/
theorem setsL_mem (most : Nat) : ∀ (k : Nat) (row : List Int), row.Pairwise (· < ·) → (∀ x ∈ row, 0 ≤ x ∧ x < (k : Int)) → row.length ≤ most → row ∈ setsL most k
  | 0, row, _, hb, _ => by
    cases row with
    | nil => exact List.mem_singleton.mpr rfl
    | cons x r =>
      have := hb x List.mem_cons_self
      omega
  | k + 1, row, asc, hb, hl => by
    unfold setsL
    by_cases e : (k : Int) ∈ row
    · rcases List.eq_nil_or_concat row with z | ⟨r, y, z⟩
      · rw [z] at e
        cases e
      · rw [List.concat_eq_append] at z
        subst z
        have hp := List.pairwise_append.mp asc
        have ye : y = (k : Int) := by
          rcases List.mem_append.mp e with w | w
          · have h1 := hp.2.2 _ w y (List.mem_singleton.mpr rfl)
            have h2 := hb y (List.mem_append_right _ (List.mem_singleton.mpr rfl))
            omega
          · exact (List.mem_singleton.mp w).symm
        subst ye
        rw [List.length_append, List.length_singleton] at hl
        refine List.mem_append_right _ (List.mem_map.mpr ⟨r, List.mem_filter.mpr ⟨setsL_mem most k r hp.1 (fun x hx => ?_) (by omega), decide_eq_true (by omega)⟩, rfl⟩)
        have h1 := hp.2.2 x hx _ (List.mem_singleton.mpr rfl)
        exact ⟨(hb x (List.mem_append_left _ hx)).1, h1⟩
    · refine List.mem_append_left _ (setsL_mem most k row asc (fun x hx => ?_) hl)
      have h1 := hb x hx
      refine ⟨h1.1, ?_⟩
      have : x ≠ (k : Int) := fun z => e (z ▸ hx)
      omega
/-- the lying marks that a rule has, in order -/
def canonL (n : Nat) (ss : List Int) : List Int := (rangeI n).filter fun x => decide (x ∈ ss)
theorem canon_asc (n : Nat) (ss : List Int) : Good n (canonL n ss) := (rangeI_good n).sub List.filter_sublist
theorem canon_mem {n : Nat} {ss : List Int} {x : Int} : x ∈ canonL n ss ↔ (0 ≤ x ∧ x < (n : Int)) ∧ x ∈ ss := by
  unfold canonL
  rw [List.mem_filter, mem_rangeI, decide_eq_true_eq]
theorem nodup_sub_len : ∀ {l₁ l₂ : List Int}, l₁.Nodup → (∀ x ∈ l₁, x ∈ l₂) → l₁.length ≤ l₂.length
  | [], _, _, _ => Nat.zero_le _
  | x :: r, l₂, nd, s => by
    have nd' := List.pairwise_cons.mp nd
    have hx := s x List.mem_cons_self
    have ih := nodup_sub_len (l₁ := r) (l₂ := l₂.erase x) nd'.2 fun y hy => (List.mem_erase_of_ne (fun z => nd'.1 y hy z.symm)).mpr (s y (List.mem_cons_of_mem _ hy))
    rw [List.length_erase_of_mem hx] at ih
    have := List.length_pos_of_mem hx
    rw [List.length_cons]
    omega
theorem canon_len (n : Nat) (ss : List Int) : (canonL n ss).length ≤ ss.length := nodup_sub_len (canon_asc n ss).nodup fun x hx => (canon_mem.mp hx).2
theorem canon_set {n most : Nat} {ss : List Int} (h : ss.length ≤ most) : canonL n ss ∈ setsL most n := setsL_mem most n _ (canon_asc n ss).1 (canon_asc n ss).2 (Nat.le_trans (canon_len n ss) h)
theorem hit_iff {xs ys : List Int} : hitL xs ys = true ↔ ∃ x ∈ xs, x ∈ ys := by
  unfold hitL
  rw [List.any_eq_true]
  simp
theorem fit_mem {T : List (List Int)} {m : Int} {ss : List Int} {x : Int} : x ∈ fitL T m ss ↔ x ∈ behL T m ∧ ∀ y ∈ behL T x, y ∉ ss := by
  unfold fitL
  rw [List.mem_filter]
  refine and_congr_right fun _ => ?_
  rw [Bool.not_eq_true', ← Bool.not_eq_true, hit_iff]
  exact ⟨fun h y hy z => h ⟨y, hy, z⟩, fun h ⟨y, hy, z⟩ => h y hy z⟩
theorem fit_canon {T : List (List Int)} (r : IsRule T) (m : Int) (ss : List Int) : fitL T m ss = fitL T m (canonL T.length ss) := by
  unfold fitL
  refine List.filter_congr fun x _ => ?_
  congr 1
  rw [Bool.eq_iff_iff, hit_iff, hit_iff]
  refine ⟨fun ⟨y, hy, z⟩ => ⟨y, hy, canon_mem.mpr ⟨(behL_good r x).2 y hy, z⟩⟩, fun ⟨y, hy, z⟩ => ⟨y, hy, (canon_mem.mp z).2⟩⟩
theorem stop_iff {T every : List (List Int)} {m : Int} {left : List Int} : stopL T m left every = true ↔ ∃ ss ∈ every, ∀ x ∈ fitL T m ss, x ∉ left := by
  unfold stopL
  rw [List.any_eq_true]
  refine exists_congr fun ss => and_congr_right fun _ => ?_
  rw [Bool.not_eq_true', ← Bool.not_eq_true, hit_iff]
  exact ⟨fun h x hx z => h ⟨x, hx, z⟩, fun h ⟨x, hx, z⟩ => h x hx z⟩
theorem stop_mono {T every : List (List Int)} {m : Int} {l₁ l₂ : List Int} (s : ∀ x ∈ l₁, x ∈ l₂) (h : stopL T m l₂ every = true) : stopL T m l₁ every = true := by
  obtain ⟨ss, h1, h2⟩ := stop_iff.mp h
  exact stop_iff.mpr ⟨ss, h1, fun x hx z => h2 x hx (s x z)⟩
/-- what is left behind all rounds -/
def finalL (T every : List (List Int)) : Nat → List Int → List Int
  | 0, left => left
  | k + 1, left => if goneL T every left = [] then left else finalL T every k (stayL left (goneL T every left))
theorem stay_mem {left gone : List Int} {x : Int} : x ∈ stayL left gone ↔ x ∈ left ∧ x ∉ gone := by
  unfold stayL
  rw [List.mem_filter, decide_eq_true_eq]
theorem final_sub (T every : List (List Int)) : ∀ (k : Nat) (left : List Int), (finalL T every k left).Sublist left
  | 0, _ => List.Sublist.refl _
  | k + 1, left => by
    unfold finalL
    split
    · exact List.Sublist.refl _
    · exact (final_sub T every k _).trans List.filter_sublist
theorem final_stays (T every : List (List Int)) : ∀ (k : Nat) (left : List Int), left.length < k → goneL T every (finalL T every k left) = []
  | 0, _, h => absurd h (Nat.not_lt_zero _)
  | k + 1, left, h => by
    unfold finalL
    by_cases e : goneL T every left = []
    · rw [if_pos e]
      exact e
    · rw [if_neg e]
      have := stay_lt (gone_sub T every left) e
      exact final_stays T every k _ (by omega)
theorem final_iff (T every : List (List Int)) : ∀ (k : Nat) (left : List Int) (x : Int), x ∈ left → (x ∉ (roundsL T every k left).flatten ↔ x ∈ finalL T every k left)
  | 0, left, x, hx => by
    unfold roundsL finalL
    simpa using hx
  | k + 1, left, x, hx => by
    unfold roundsL finalL
    by_cases e : goneL T every left = []
    · rw [if_pos e, if_pos e]
      simpa using hx
    · rw [if_neg e, if_neg e, List.flatten_cons, List.mem_append, not_or]
      by_cases g : x ∈ goneL T every left
      · refine ⟨fun h => absurd g h.1, fun h => ?_⟩
        exact absurd g (stay_mem.mp ((final_sub T every k _).subset h)).2
      · have ih := final_iff T every k _ x (stay_mem.mpr ⟨hx, g⟩)
        exact ⟨fun h => ih.mp h.2, fun h => ⟨g, ih.mpr h⟩⟩
theorem final_closed (T every : List (List Int)) (k : Nat) (left S : List Int) (hS : ∀ x ∈ S, x ∈ left) (cl : ∀ x ∈ S, stopL T x S every = false) : ∀ x ∈ S, x ∈ finalL T every k left := by
  induction k generalizing left with
  | zero => exact hS
  | succ k ih =>
    unfold finalL
    split
    · exact hS
    · refine ih _ fun x hx => stay_mem.mpr ⟨hS x hx, fun g => ?_⟩
      have := stop_mono hS (gone_iff.mp g).2
      rw [cl x hx] at this
      cases this
theorem core_mem {T : List (List Int)} {mir : Nat} {x : Int} : x ∈ coreL T mir ↔ x ∈ finalL T (setsL mir T.length) (T.length + 1) (rangeI T.length) := by
  unfold coreL
  rw [List.mem_filter]
  constructor
  · rintro ⟨h1, h2⟩
    have h2' : x ∉ (removedL T mir).flatten := of_decide_eq_true h2
    exact (final_iff T _ _ _ x h1).mp h2'
  · intro h
    have h1 := (final_sub T _ _ _).subset h
    exact ⟨h1, decide_eq_true ((final_iff T _ _ _ x h1).mpr h)⟩
/-- no lying marks stop a mark of the core -/
theorem core_fits {T : List (List Int)} {mir : Nat} (r : IsRule T) {m : Int} (h : m ∈ coreL T mir) {ss : List Int} (l : ss.length ≤ mir) : ∃ x ∈ fitL T m ss, x ∈ coreL T mir := by
  have g := final_stays T (setsL mir T.length) (T.length + 1) (rangeI T.length) (by rw [rangeI_length]; omega)
  have hm := core_mem.mp h
  have ns : ¬ stopL T m (finalL T (setsL mir T.length) (T.length + 1) (rangeI T.length)) (setsL mir T.length) = true := fun z => by
    have := gone_iff.mpr ⟨hm, z⟩
    rw [g] at this
    cases this
  rw [stop_iff] at ns
  rw [fit_canon r]
  refine Classical.byContradiction fun no => ns ⟨canonL T.length ss, canon_set l, fun x hx z => no ⟨x, hx, core_mem.mpr z⟩⟩
/-- what no lying marks stop is a part of the core -/
theorem core_most {T : List (List Int)} {mir : Nat} {S : List Int} (hS : ∀ x ∈ S, 0 ≤ x ∧ x < (T.length : Int)) (cl : ∀ m ∈ S, ∀ ss ∈ setsL mir T.length, ∃ x ∈ fitL T m ss, x ∈ S) : ∀ x ∈ S, x ∈ coreL T mir := by
  intro x hx
  refine core_mem.mpr (final_closed T _ _ _ S (fun y hy => mem_rangeI.mpr (hS y hy)) (fun y hy => ?_) x hx)
  cases e : stopL T y S (setsL mir T.length) with
  | false => rfl
  | true =>
    obtain ⟨ss, h1, h2⟩ := stop_iff.mp e
    obtain ⟨z, hz, hzS⟩ := cl y hy ss h1
    exact absurd hzS (h2 z hz)
end Nm

namespace Nm
open PySem PySem.Spec PyProof.Rows L2 GL
abbrev sMay : Stmt := topS 7
theorem scMay : FnScope ["rule", "mark", "other"] ["rule", "mark", "other"] (defScope sMay) := ⟨rfl, rfl, rfl, by decide +kernel, rfl, by decide +kernel, by decide +kernel⟩
section
variable {P : Program} {w : World} {K : PySem.W.Frag} {mg : Str → Option Value} {base : Heap}
/-! ### may_follow -/
def spMay (K : PySem.W.Frag) : Sp := fun vs H Q _ => ∃ (p : Addr) (T : List (List Int)) (m o : Int), vs = [.ref p, .int m, .int o] ∧ Tbl H p T ∧ 0 ≤ m ∧ Q (.bl (decide (o ∈ T.getD m.toNat []))) H
theorem ok_may {f : Addr} {fd : FuncData} {k : Nat} (F : Fun K "may_follow" "may_follow" sMay f fd) (ml : mg "len" = none) : FnOk P w K mg base CX0 (k + 1) f fd ["rule", "mark", "other"] (spMay K) := by
  refine F.ok scMay (fun vs H Q E h => ?_) (fun cdv A outer s H vs Q E hr h => ?_)
  · obtain ⟨p, T, m, o, rfl, _⟩ := h
    rfl
  · obtain ⟨p, T, m, o, rfl, ⟨rs, hp, hR⟩, m0, q⟩ := h
    refine ⟨_, pss_one (ps_ret (pe_and (pe_chain op_le op_lt pe_int (pv 1) (pe_callB (lenK (K := K)) (by rfl) ml PySem.boot_len (pa_cons (pv 0) pa_nil)))
      (pe_one (pe_cmpR (inK (K := K)) (pv 2) (pe_ix (ixTupK (K := K)) (pv 0) (pv 1) (fun _ _ => rfl)) (by rfl))))), ?_⟩
    have lr : rs.length = T.length := Paired.length hR
    refine ⟨.int m, rfl, 0, m, rfl, rfl, _, rfl, ?_⟩
    rw [decide_eq_true m0]
    refine iteT ⟨.ref p, rfl, p, _, rfl, .inr (SqT.of hp), m, _, rfl, rfl, _, rfl, ite2 (fun e => ?_) (fun e => ?_)⟩
    · have hm : m < ((rs.map V.ref).length : Int) := of_decide_eq_true e
      rw [List.length_map] at hm
      have hi : m.toNat < rs.length := by omega
      obtain ⟨row, hrw, hc⟩ := paired_get hR (List.getElem?_eq_getElem hi)
      have at1 : atI (rs.map V.ref) m = some (.ref rs[m.toNat]) := by
        have z := atI_nat (xs := rs.map V.ref) (j := m.toNat) (v := .ref rs[m.toNat]) (by rw [List.getElem?_map, List.getElem?_eq_getElem hi]; rfl)
        rw [show ((m.toNat : Nat) : Int) = m by omega] at z
        exact z
      refine ⟨.int o, rfl, .ref p, rfl, .int m, rfl, p, _, m, _, rfl, rfl, SqT.of hp, at1, _, _, rfl, .inr (SqT.of hc), rfl, flat_ints row, ?_⟩
      show Q (.bl (inV (.int o) (row.map V.int))) H
      rw [inV_int]
      rw [List.getD_eq_getElem?_getD, hrw] at q
      exact q
    · have hm : ¬ m < ((rs.map V.ref).length : Int) := fun z => e (decide_eq_true z)
      rw [List.length_map, lr] at hm
      rw [List.getD_eq_getElem?_getD, List.getElem?_eq_none (by omega)] at q
      have z : decide (o ∈ (none : Option (List Int)).getD []) = false := by simp
      rw [z] at q
      exact q
end
end Nm

namespace Nm
open PySem PySem.Spec PyProof.Rows L2 GL LamX NdefX StX
/-! ### attack, removed_from, removals -/
abbrev sRemFrom : Stmt := topS 14
abbrev sRemovals : Stmt := topS 15
abbrev nRemFrom : List Str := ["rule", "mirrors", "left", "gone", "mark", "lying"]
theorem scRemFrom : FnScope nRemFrom ["rule", "mirrors", "left"] (defScope sRemFrom) := ⟨rfl, rfl, rfl, by decide +kernel, rfl, by decide +kernel, by decide +kernel⟩
abbrev nRemovals : List Str := ["rule", "mirrors", "found", "left", "gone", "mark"]
theorem scRemovals : FnScope nRemovals ["rule", "mirrors"] (defScope sRemovals) := ⟨rfl, rfl, rfl, by decide +kernel, rfl, by decide +kernel, by decide +kernel⟩
/-- the marks that are left and may follow -/
def aheadL (T : List (List Int)) (m : Int) (left : List Int) : List Int := left.filter fun x => decide (x ∈ behL T m)
theorem ahead_mem {T : List (List Int)} {m x : Int} {left : List Int} : x ∈ aheadL T m left ↔ x ∈ left ∧ x ∈ behL T m := by
  unfold aheadL
  rw [List.mem_filter, decide_eq_true_eq]
theorem stop_hits {T : List (List Int)} (r : IsRule T) {mir : Nat} {m : Int} {left : List Int} : stopL T m left (setsL mir T.length) = true ↔ ∃ ss : List Int, ss.length ≤ mir ∧ Hits T (aheadL T m left) ss := by
  constructor
  · intro h
    obtain ⟨ss, h1, h2⟩ := stop_iff.mp h
    refine ⟨ss, (setsL_row mir T.length ss h1).1, fun x hx => ?_⟩
    obtain ⟨a1, a2⟩ := ahead_mem.mp hx
    by_cases e : ∃ y ∈ ss, y ∈ behL T x
    · exact e
    · exact absurd a1 (h2 x (fit_mem.mpr ⟨a2, fun y hy z => e ⟨y, z, hy⟩⟩))
  · rintro ⟨ss, h1, h2⟩
    refine stop_iff.mpr ⟨canonL T.length ss, canon_set h1, fun x hx z => ?_⟩
    obtain ⟨a1, a2⟩ := fit_mem.mp hx
    obtain ⟨y, hy, hb⟩ := h2 x (ahead_mem.mpr ⟨z, a1⟩)
    exact a2 y hb (canon_mem.mpr ⟨(behL_good r x).2 y hb, hy⟩)
theorem nobar_stop {T : List (List Int)} (r : IsRule T) {mir : Nat} {m : Int} {left : List Int} (h : NoBar T mir (aheadL T m left)) : stopL T m left (setsL mir T.length) = false := by
  cases e : stopL T m left (setsL mir T.length) with
  | false => rfl
  | true =>
    obtain ⟨ss, h1, h2⟩ := (stop_hits r).mp e
    exact absurd h2 (h ss h1)
theorem bars_stop {T : List (List Int)} (r : IsRule T) {mir : Nat} {m : Int} {left ys : List Int} (h : Bars T mir (aheadL T m left) ys) : stopL T m left (setsL mir T.length) = true := (stop_hits r).mpr ⟨ys, h.few, h.hits⟩
/-- an entry of a round's dict: a mark, lying marks that bar all that is left behind it -/
def Ent (H : Hp) (T : List (List Int)) (mir : Nat) (left : List Int) (kv : Key × V) (m : Int) : Prop := kv.1 = .inl m ∧ ∃ (c : Addr) (ys : List Int), kv.2 = .ref c ∧ H c = some (.tup (ys.map V.int)) ∧ Bars T mir (aheadL T m left) ys
def DV (H : Hp) (T : List (List Int)) (mir : Nat) (left : List Int) (kvs : List (Key × V)) (ms : List Int) : Prop := Paired (Ent H T mir left) kvs ms
section
variable {TT : Tbs} {H H' : Hp} {T : List (List Int)} {mir : Nat} {left : List Int} {kvs : List (Key × V)} {ms : List Int}
theorem DV.mp (h : DV H T mir left kvs ms) (s : ∀ c xs, H c = some (.tup xs) → H' c = some (.tup xs)) : DV H' T mir left kvs ms := Paired.mapP h fun a b ⟨e1, c, ys, e2, e3, e4⟩ => ⟨e1, c, ys, e2, s _ _ e3, e4⟩
theorem DV.ex (h : DV H T mir left kvs ms) (s : Ex TT H H') : DV H' T mir left kvs ms := h.mp fun c xs e => s _ _ e
theorem DV.put {D : Addr} {o1 o2 : HO} (h : DV H T mir left kvs ms) (e : H D = some o1) (n : ∀ xs, o1 ≠ .tup xs) : DV (upd H D o2) T mir left kvs ms := h.mp fun c xs q => by
  rw [upd_ne (fun z => ?_)]
  · exact q
  · rw [z, e] at q
    exact n _ (Option.some.inj q)
theorem DV.keys (h : DV H T mir left kvs ms) : kvs.map (·.1) = ms.map Sum.inl := by
  unfold DV at h
  induction h with
  | nil => rfl
  | cons a b ih => rw [List.map_cons, List.map_cons, ih, a.1]
theorem DV.len (h : DV H T mir left kvs ms) : kvs.length = ms.length := Paired.length h
theorem valV_some (kvs : List (Key × V)) (k : Key) : (valV kvs k).isSome = true ↔ ∃ kv ∈ kvs, kv.1 = k := by
  unfold valV
  rw [Option.isSome_map, List.find?_isSome]
  constructor
  · rintro ⟨x, h1, h2⟩
    exact ⟨x, h1, of_decide_eq_true h2⟩
  · rintro ⟨x, h1, h2⟩
    exact ⟨x, h1, decide_eq_true h2⟩
theorem DV.isSome (h : DV H T mir left kvs ms) (m : Int) : (valV kvs (.inl m)).isSome = decide (m ∈ ms) := by
  rw [Bool.eq_iff_iff, valV_some, decide_eq_true_eq]
  have e := h.keys
  constructor
  · rintro ⟨kv, h1, h2⟩
    have z : kv.1 ∈ ms.map Sum.inl := by
      rw [← e]
      exact List.mem_map.mpr ⟨kv, h1, rfl⟩
    rw [h2] at z
    obtain ⟨x, h3, h4⟩ := List.mem_map.mp z
    cases h4
    exact h3
  · intro hm
    have z : (Sum.inl m : Key) ∈ kvs.map (·.1) := by
      rw [e]
      exact List.mem_map.mpr ⟨m, hm, rfl⟩
    obtain ⟨kv, h1, h2⟩ := List.mem_map.mp z
    exact ⟨kv, h1, h2⟩
theorem putK_new {kvs : List (Key × V)} {k : Key} {v : V} (h : k ∉ kvs.map (·.1)) : putK kvs k v = kvs ++ [(k, v)] := by
  unfold putK
  rw [if_neg]
  intro z
  obtain ⟨x, h1, h2⟩ := List.any_eq_true.mp z
  exact h (List.mem_map.mpr ⟨x, h1, of_decide_eq_true h2⟩)
end
section
variable {P : Program} {w : World} {K : PySem.W.Frag} {mg : Str → Option Value} {base : Heap}
def spAttack (TT : Tbs) : Sp := fun vs H Q _ => ∃ (p l : Addr) (mir : Nat) (m : Int) (T : List (List Int)) (left : List Int), vs = [.ref p, .int mir, .int m, .ref l] ∧ mir ≤ 3 ∧ Tbl H p T ∧ IsRule T ∧ 0 ≤ m ∧ H l = some (.lst (left.map V.int)) ∧ (∀ x ∈ left, 0 ≤ x ∧ x < (T.length : Int)) ∧ left.length ≤ 16 ∧ Tabs TT H ∧
  (∀ H', Ex TT H H' → NoBar T mir (aheadL T m left) → Q .non H') ∧ ∀ (c : Addr) (ys : List Int) (H' : Hp), Ex TT H H' → H' c = some (.tup (ys.map V.int)) → Bars T mir (aheadL T m left) ys → Q (.ref c) H'
/-- what the game's defs lean on -/
structure Gam (K : PySem.W.Frag) (mg : Str → Option Value) (base : Heap) (TT : Tbs) : Prop where
  bar : ∃ (f : Addr) (fd : FuncData), BarT K mg base TT f fd
  may : ∃ (f : Addr) (d : FuncData), Fun K "may_follow" "may_follow" sMay f d ∧ Binds K d ["rule", "mark", "other"] [] ∧ mg "may_follow" = some (.ref f)
  att : ∃ (f : Addr) (d : FuncData), Fun K "attack" "attack" sAttack f d ∧ Binds K d ["rule", "mirrors", "mark", "left"] [] ∧ mg "attack" = some (.ref f)
  rf : ∃ (f : Addr) (d : FuncData), Fun K "removed_from" "removed_from" sRemFrom f d ∧ Binds K d ["rule", "mirrors", "left"] [] ∧ mg "removed_from" = some (.ref f)
  len : mg "len" = none
  list : mg "list" = none
  range : mg "range" = none
  tuple : mg "tuple" = none
theorem ok_attack {TT : Tbs} {f : Addr} {fd : FuncData} {k : Nat} (F : Fun K "attack" "attack" sAttack f fd) (D : Gam K mg base TT) : FnOk P w K mg base CX0 (k + 7) f fd ["rule", "mirrors", "mark", "left"] (spAttack TT) := by
  obtain ⟨⟨fB, dB, DB⟩, ⟨fY, dY, FY, bY, gY⟩, _, _, ml, _, _, _⟩ := D
  have GB : FnOk P w K mg base CX0 (k + 6) fB dB ["rule", "mirrors", "marks"] (spBar TT 4) := ok_barring (k := k) DB 4
  have GY : FnOk P w K mg base CX0 (k + 6) fY dY ["rule", "mark", "other"] (spMay K) := ok_may FY ml
  obtain ⟨_, _, _, _, ⟨_, _, FC, _⟩, bB, gB⟩ := DB
  refine F.ok scAttack (fun vs H Q E h => ?_) (fun cdv A outer s H vs Q E hr h => ?_)
  · obtain ⟨p, l, mir, m, T, left, rfl, _⟩ := h
    rfl
  · obtain ⟨p, l, mir, m, T, left, rfl, m3, hT, rule, m0, hl, bd, nl, tabs, qN, qY⟩ := h
    refine ⟨_, pss_one (ps_ret (pe_call GB hr (by rfl) gB FC.kept bB .nil pass0 (pa_cons (pv 0) (pa_cons (pv 1) (pa_cons
        (pe_lc (own := [("other", 4)]) (g := gName 4) (by rfl) scAttack.nd (piLstK (K := K) (pv 3))
          (blkOk_by (own := [("other", 4)]) (N := nAttack) (sc := defScope sAttack) (by decide +kernel))
          (fun _ _ _ _ _ => pg_name (i := 4) scAttack.nd rfl (Or.inl rfl))
          (fun _ _ _ _ _ => pts_one (pt_val (pe_call GY hr (by rfl) gY FY.kp bY .nil pass0 (pa_cons (pv 0) (pa_cons (pv 2) (pa_cons (pv 4) pa_nil))))))
          (fun _ _ _ _ _ => pv 4)) pa_nil))))), ?_⟩
    refine ⟨.ref p, rfl, .int mir, rfl, .ref l, rfl, l, rfl, ⟨_, SqL.of hl⟩, fun D nD => ?_⟩
    have sD := same_upd (o := .lst []) nD
    refine lc_list (K := K) (a := l) (xs := left.map V.int) (fun j H4 => H4 D = some (.lst ((aheadL T m (left.take j)).map V.int)) ∧ Same H H4) ⟨upd_same, sD⟩ (fun j H4 _ h => SqL.of (h.2 _ _ hl)) ?_ ?_
    · rintro j x H4 hx ⟨hD, s4⟩
      obtain ⟨y, hy, rfl⟩ := int_at hx
      have tz : left.take (j + 1) = left.take j ++ [y] := by
        rw [List.take_add_one, hy]
        rfl
      refine ⟨rfl, .ref p, rfl, .int m, rfl, .int y, rfl, p, T, m, y, rfl, hT.same s4, m0, _, rfl, ite2 (fun e => ?_) (fun e => ?_)⟩
      · have e' : y ∈ behL T m := of_decide_eq_true e
        refine ⟨_, rfl, _, hD, ?_, ?_, ?_⟩
        · rw [List.length_map]
          exact lenLine (Nat.lt_of_le_of_lt (List.length_filter_le _ _) (by rw [List.length_take]; omega))
        · rw [upd_same, tz]
          unfold aheadL
          rw [List.filter_append, List.map_append, List.filter_cons_of_pos (by simpa using e')]
          rfl
        · intro b o hb
          rw [upd_ne (ne_of_none hb nD)]
          exact s4 _ _ hb
      · have e' : ¬ y ∈ behL T m := fun z => e (decide_eq_true z)
        refine ⟨?_, s4⟩
        rw [hD, tz]
        unfold aheadL
        rw [List.filter_append, List.filter_cons_of_neg (by simpa using e')]
        simp
    · rintro H4 ⟨hD, s4⟩
      rw [List.length_map, List.take_length] at hD
      have ex4 : Ex TT H H4 := .of s4
      exact ⟨p, D, mir, T, aheadL T m left, rfl, by omega, m3, hT.ex ex4, rule, hD, fun x hx => bd x (ahead_mem.mp hx).1, Nat.le_trans (List.length_filter_le _ _) nl, ex4.tb tabs, fun H5 ex5 nb => qN H5 (ex4.trans ex5) nb, fun c ys H5 ex5 hc b => qY c ys H5 (ex4.trans ex5) hc b⟩
def spRemF (TT : Tbs) : Sp := fun vs H Q _ => ∃ (p l : Addr) (mir : Nat) (T : List (List Int)) (left : List Int), vs = [.ref p, .int mir, .ref l] ∧ mir ≤ 3 ∧ Tbl H p T ∧ IsRule T ∧ H l = some (.lst (left.map V.int)) ∧ Good T.length left ∧ Tabs TT H ∧
  ∀ (g : Addr) (kvs : List (Key × V)) (H' : Hp), Ex TT H H' → H g = none → H' g = some (.dK kvs) → DV H' T mir left kvs (goneL T (setsL mir T.length) left) → Q (.ref g) H'
theorem ok_remfrom {TT : Tbs} {f : Addr} {fd : FuncData} {k : Nat} (F : Fun K "removed_from" "removed_from" sRemFrom f fd) (D : Gam K mg base TT) : FnOk P w K mg base CX0 (k + 8) f fd ["rule", "mirrors", "left"] (spRemF TT) := by
  obtain ⟨fA, dA, FA, bA, gA⟩ := D.att
  have GA : FnOk P w K mg base CX0 (k + 7) fA dA ["rule", "mirrors", "mark", "left"] (spAttack TT) := ok_attack FA D
  refine F.ok scRemFrom (fun vs H Q E h => ?_) (fun cdv A outer s H vs Q E hr h => ?_)
  · obtain ⟨p, l, mir, T, left, rfl, _⟩ := h
    rfl
  · obtain ⟨p, l, mir, T, left, rfl, m3, hT, rule, hl, gd, tabs, q⟩ := h
    refine ⟨_, pss_cons (ps_set (i := 3) scRemFrom.nd rfl (.inl rfl) pe_dnewK)
      (pss_cons (ps_for PassesOwn.never rfl (piLstK (K := K) (pv 2)) (pg_name (i := 4) scRemFrom.nd rfl (.inl rfl))
        (pss_cons (ps_set (i := 5) scRemFrom.nd rfl (.inl rfl) (pe_call GA hr (by rfl) gA FA.kp bA .nil pass0 (pa_cons (pv 0) (pa_cons (pv 1) (pa_cons (pv 4) (pa_cons (pv 2) pa_nil))))))
        (pss_one (ps_if (pt_cmpR op_notN (pv 5) pe_non (nomark _)) (pss_one (ps_dput (hu_of hr) (pv 3) (pv 4) (pv 5) rfl)) pss_nil))))
      (pss_one (ps_ret (pv 3)))), ?_⟩
    have nl : left.length ≤ 16 := Nat.le_trans gd.len rule.2.1
    have nd := gd.nodup
    refine fun g ng => ?_
    have sg := same_upd (o := .dK []) ng
    refine ⟨.ref l, rfl, l, rfl, ⟨_, SqL.of (sg _ _ hl)⟩, ?_⟩
    refine for_list (K := K) (a := l) (xs := left.map V.int) (fun i σ H' => ∃ (y4 y5 : Option V) (kvs : List (Key × V)), σ = [some (.ref p), some (.int mir), some (.ref l), some (.ref g), y4, y5] ∧ H' g = some (.dK kvs) ∧
        DV H' T mir left kvs ((left.take i).filter fun m => stopL T m left (setsL mir T.length)) ∧ Ex TT H H')
      ⟨none, none, [], rfl, upd_same, .nil, .of sg⟩ (fun i σ H' _ h => ?_) ?_ ?_
    · obtain ⟨_, _, _, _, _, _, ex⟩ := h
      exact SqL.of (ex _ _ hl)
    · rintro i x σ H2 hx ⟨y4, y5, kvs, rfl, hg, dv, ex⟩
      obtain ⟨m, hm, rfl⟩ := int_at hx
      have mm := List.mem_of_getElem? hm
      have mb := gd.2 m mm
      have tk : left.take (i + 1) = left.take i ++ [m] := by
        rw [List.take_add_one, hm]
        rfl
      refine ⟨.ref p, rfl, .int mir, rfl, .int m, rfl, .ref l, rfl, p, l, mir, m, T, left, rfl, m3, hT.ex ex, rule, mb.1, ex _ _ hl, gd.2, nl, ex.tb tabs, fun H3 ex3 nb => ?_, fun c ys H3 ex3 hc b => ?_⟩
      · refine ⟨.non, rfl, rfl, _, rfl, ite2 (fun e => ?_) (fun _ => ?_)⟩
        · simp at e
        · refine ⟨_, _, kvs, rfl, ex3 _ _ hg, ?_, ex.trans ex3⟩
          rw [tk, List.filter_append, List.filter_cons_of_neg (by rw [nobar_stop rule nb]; decide), List.filter_nil, List.append_nil]
          exact dv.ex ex3
      · refine ⟨.ref c, rfl, rfl, _, rfl, ite2 (fun _ => ?_) (fun e => ?_)⟩
        · have hg3 := ex3 _ _ hg
          have ln : kvs.length ≤ 16 := by
            rw [dv.len]
            refine Nat.le_trans (List.length_filter_le _ _) ?_
            rw [List.length_take]
            omega
          have nk : (Sum.inl m : Key) ∉ kvs.map (·.1) := fun z => by
            rw [dv.keys] at z
            obtain ⟨y, h1, h2⟩ := List.mem_map.mp z
            cases h2
            have h3 := (List.mem_filter.mp h1).1
            have nd2 : (left.take (i + 1)).Nodup := nd.sublist (List.take_sublist _ _)
            rw [tk] at nd2
            exact (List.nodup_append.mp nd2).2.2 _ h3 _ (List.mem_singleton.mpr rfl) rfl
          refine ⟨.ref c, rfl, .ref g, rfl, .int m, rfl, g, _, rfl, DPut.k (k := .inl m) hg3 (lenLine (by omega)), _, _, _, rfl, upd_same, ?_, ?_⟩
          · rw [putK_new nk, tk, List.filter_append, List.filter_cons_of_pos (by exact bars_stop rule b)]
            refine paired_append ((dv.ex ex3).put hg3 (fun xs z => by cases z)) (.cons ⟨rfl, c, ys, rfl, ?_, b⟩ .nil)
            rw [upd_ne (fun z => by rw [z, hg3] at hc; cases hc)]
            exact hc
          · exact (ex.trans ex3).put ng hg3
        · simp at e
    · rintro σ H2 ⟨y4, y5, kvs, rfl, hg, dv, ex⟩
      rw [List.length_map, List.take_length] at dv
      exact ⟨.ref g, rfl, q g kvs H2 ex ng hg dv⟩
end
end Nm

namespace Nm
open PySem PySem.Spec PyProof.Rows L2 GL LamX NdefX StX
/-! ### removals -/
/-- the rounds: what is left ahead of each, what it removes -/
def roundsP (T every : List (List Int)) : Nat → List Int → List (List Int × List Int)
  | 0, _ => []
  | k + 1, left => if goneL T every left = [] then [] else (left, goneL T every left) :: roundsP T every k (stayL left (goneL T every left))
theorem roundsP_rows (T every : List (List Int)) : ∀ (k : Nat) (left : List Int), (roundsP T every k left).map (·.2) = roundsL T every k left
  | 0, _ => rfl
  | k + 1, left => by
    unfold roundsP roundsL
    by_cases e : goneL T every left = []
    · rw [if_pos e, if_pos e]
      rfl
    · rw [if_neg e, if_neg e, List.map_cons, roundsP_rows T every k]
theorem roundsP_fuel (T every : List (List Int)) : ∀ (k : Nat) (left : List Int), left.length < k → roundsP T every k left = roundsP T every (left.length + 1) left
  | 0, _, h => absurd h (Nat.not_lt_zero _)
  | k + 1, left, h => by
    unfold roundsP
    by_cases e : goneL T every left = []
    · rw [if_pos e, if_pos e]
    · rw [if_neg e, if_neg e]
      have lt := stay_lt (gone_sub T every left) e
      rw [roundsP_fuel T every k _ (by omega)]
      by_cases e2 : left.length < k + 1
      · cases hl : left.length with
        | zero => omega
        | succ n => rw [roundsP_fuel T every (n + 1) _ (by omega)]
      · omega
def removedP (T : List (List Int)) (mir : Nat) : List (List Int × List Int) := roundsP T (setsL mir T.length) (T.length + 1) (rangeI T.length)
theorem removedP_rows (T : List (List Int)) (mir : Nat) : (removedP T mir).map (·.2) = removedL T mir := roundsP_rows _ _ _ _
/-- a round's dict, known -/
def DG (H : Hp) (T : List (List Int)) (mir : Nat) (g : Addr) (p : List Int × List Int) : Prop := ∃ (od : Obj) (kvs : List (Key × V)), H g = some (.frz od (.dK kvs)) ∧ DV H T mir p.1 kvs p.2
def DGs (H : Hp) (T : List (List Int)) (mir : Nat) (gs : List Addr) (ps : List (List Int × List Int)) : Prop := Paired (DG H T mir) gs ps
section
variable {TT : Tbs} {H H' H2 H4 : Hp} {T : List (List Int)} {mir : Nat} {gs : List Addr} {ps : List (List Int × List Int)}
theorem DG.ex {g : Addr} {p : List Int × List Int} (h : DG H T mir g p) (s : Ex TT H H') : DG H' T mir g p := by
  obtain ⟨od, kvs, h1, h2⟩ := h
  exact ⟨od, kvs, s _ _ h1, h2.ex s⟩
theorem DGs.ex (h : DGs H T mir gs ps) (s : Ex TT H H') : DGs H' T mir gs ps := Paired.mapP h fun _ _ e => e.ex s
theorem DGs.put {D : Addr} {o1 o2 : HO} (h : DGs H T mir gs ps) (e : H D = some o1) (n : ∀ xs, o1 ≠ .tup xs) (n2 : ∀ o u, o1 ≠ .frz o u) : DGs (upd H D o2) T mir gs ps := Paired.mapP h fun g p ⟨od, kvs, h1, h2⟩ => by
  refine ⟨od, kvs, ?_, h2.put e n⟩
  rw [upd_ne (fun z => ?_)]
  · exact h1
  · rw [z, e] at h1
    exact n2 _ _ (Option.some.inj h1)
theorem Ex.put2 {D : Addr} {o1 o2 : HO} (s4 : Ex TT H H4) (n : H4 D = none) (s : Ex TT H H2) (e : H2 D = some o1) (n1 : ∀ ps, o1 ≠ .tbl ps := by intro _ z; cases z) (n2 : ∀ φ, o1 ≠ .ext φ := by intro _ z; cases z) : Ex TT H (upd H2 D o2) := by
  refine ⟨fun b o hb => ?_, fun t => tabs_put (s.tb t) e n1 n2⟩
  intro i
  rw [upd_ne (ne_of_none (s4 _ _ hb) n)]
  exact s _ _ hb
end
section
variable {P : Program} {w : World} {K : PySem.W.Frag} {mg : Str → Option Value} {base : Heap}
def spRemovals (TT : Tbs) : Sp := fun vs H Q _ => ∃ (p : Addr) (mir : Nat) (T : List (List Int)), vs = [.ref p, .int mir] ∧ mir ≤ 3 ∧ Tbl H p T ∧ IsRule T ∧ Tabs TT H ∧
  ∀ (F : Addr) (gs : List Addr) (H' : Hp), Ex TT H H' → H F = none → H' F = some (.lst (gs.map V.ref)) → DGs H' T mir gs (removedP T mir) → Q (.ref F) H'
set_option maxHeartbeats 4000000 in
theorem ok_removals {TT : Tbs} {f : Addr} {fd : FuncData} {k : Nat} (F : Fun K "removals" "removals" sRemovals f fd) (D : Gam K mg base TT) : FnOk P w K mg base CX0 (k + 9) f fd ["rule", "mirrors"] (spRemovals TT) := by
  obtain ⟨fA, dA, FA, bA, gA⟩ := D.rf
  have GA : FnOk P w K mg base CX0 (k + 8) fA dA ["rule", "mirrors", "left"] (spRemF TT) := ok_remfrom FA D
  refine F.ok scRemovals (fun vs H Q E h => ?_) (fun cdv A outer s H vs Q E hr h => ?_)
  · obtain ⟨p, mir, T, rfl, _⟩ := h
    rfl
  · obtain ⟨p, mir, T, rfl, m3, hT, rule, tabs, q⟩ := h
    refine ⟨_, pss_cons (ps_set (i := 2) scRemovals.nd rfl (.inl rfl) (pe_lst pa_nil))
      (pss_cons (ps_set (i := 3) scRemovals.nd rfl (.inl rfl) (pe_listRg (by rfl) (by rfl) D.list (prg_1 (by rfl) D.range (pe_callB (lenK (K := K)) (by rfl) D.len PySem.boot_len (pa_cons (pv 0) pa_nil)))))
      (pss_cons (ps_set (i := 4) scRemovals.nd rfl (.inr rfl) (pe_call GA hr (by rfl) gA FA.kp bA .nil pass0 (pa_cons (pv 0) (pa_cons (pv 1) (pa_cons (pv 3) pa_nil)))))
      (pss_cons (ps_while PassesOwn.never (pt_truth (pv 4) (fun _ => rfl))
        (pss_cons (ps_frz (ps_expr (pe_bm PySem.F.plainAttrs_list PySem.F.slot_list_append PySem.F.type_list_append mt_append (pv 2) (pa_cons (pv 4) pa_nil))))
        (pss_cons (ps_setLc (i := 3) (own := [("mark", 5)]) (g := gName 5) (by rfl) scRemovals.nd rfl rfl (sw_true rfl rfl rfl (by decide +kernel)) (piLstK (K := K) (pv 3))
            (blkOk_by (own := [("mark", 5)]) (N := nRemovals) (sc := defScope sRemovals) (by decide +kernel))
            (fun _ _ _ _ _ => pg_name (i := 5) scRemovals.nd rfl (Or.inl rfl))
            (fun _ _ _ _ _ => pts_one (pt_cmp (pc_dnotin (hu_of hr) (pv 5) (pv 4))))
            (fun _ _ _ _ _ => pv 5))
        (pss_one (ps_set (i := 4) scRemovals.nd rfl (.inr rfl) (pe_call GA hr (by rfl) gA FA.kp bA .nil pass0 (pa_cons (pv 0) (pa_cons (pv 1) (pa_cons (pv 3) pa_nil)))))))))
      (pss_one (ps_ret (pv 2)))))), ?_⟩
    have hT0 := hT
    obtain ⟨rs, hp, hR⟩ := hT0
    have lm : (rs.map V.ref).length = T.length := by rw [List.length_map]; exact Paired.length hR
    have n16 := rule.2.1
    refine ⟨Nat.zero_le _, fun Fo nF => ?_⟩
    have sF := same_upd (o := .lst []) nF
    refine ⟨.ref p, rfl, p, _, rfl, .inr (SqT.of (sF _ _ hp)), ?_⟩
    rw [lm]
    refine ⟨(T.length : Int), rfl, RgOk.of_le (by decide) (by omega) (by decide) (by omega), fun L0 nL0 => ?_⟩
    rw [rgV_range]
    have sL0 := same_upd (o := .lst ((rangeI T.length).map V.int)) nL0
    have hFo : upd H Fo (.lst []) Fo = some (.lst []) := upd_same
    have hF0 := sL0 _ _ hFo
    have nLF : L0 ≠ Fo := fun z => by
      rw [z, hFo] at nL0
      cases nL0
    have hL0 : upd (upd H Fo (.lst [])) L0 (.lst ((rangeI T.length).map V.int)) L0 = some (.lst ((rangeI T.length).map V.int)) := upd_same
    have s1 : Ex TT H (upd (upd H Fo (.lst [])) L0 (.lst ((rangeI T.length).map V.int))) := .of (sF.trans sL0)
    generalize upd (upd H Fo (.lst [])) L0 (.lst ((rangeI T.length).map V.int)) = H1 at hF0 hL0 s1 ⊢
    obtain ⟨every, ee⟩ : ∃ every, every = setsL mir T.length := ⟨_, rfl⟩
    obtain ⟨R, eR⟩ : ∃ R, roundsP T every (T.length + 1) (rangeI T.length) = R := ⟨_, rfl⟩
    refine ⟨.ref p, rfl, .int mir, rfl, .ref L0, rfl, p, L0, mir, T, rangeI T.length, rfl, m3, hT.ex s1, rule, hL0, rangeI_good _, s1.tb tabs, fun g kvs H2 ex2 ng hg dv => ?_⟩
    rw [← ee] at dv
    have hq : ∀ (F : Addr) (gs : List Addr) (H' : Hp), Ex TT H H' → H F = none → H' F = some (.lst (gs.map V.ref)) → DGs H' T mir gs R → Q (.ref F) H' := by
      rw [← eR, ee]
      exact q
    clear q
    refine ⟨fun c σ H' => ∃ (L g : Addr) (left : List Int) (kvs : List (Key × V)) (gs : List Addr) (acc : List (List Int × List Int)) (y5 : Option V), σ = [some (.ref p), some (.int mir), some (.ref Fo), some (.ref L), some (.ref g), y5] ∧ c = left.length ∧ L ≠ Fo ∧
        H' L = some (.lst (left.map V.int)) ∧ Good T.length left ∧ H' Fo = some (.lst (gs.map V.ref)) ∧ DGs H' T mir gs acc ∧ H' g = some (.dK kvs) ∧ (∃ H4, Ex TT H H4 ∧ H4 g = none) ∧ DV H' T mir left kvs (goneL T every left) ∧ Ex TT H H' ∧
        acc ++ roundsP T every (left.length + 1) left = R ∧ acc.length + left.length ≤ 16,
      ⟨T.length, L0, g, rangeI T.length, kvs, [], [], none, rfl, by rw [rangeI_length], nLF, ex2 _ _ hL0, rangeI_good _, ex2 _ _ hF0, .nil, hg, ⟨H1, s1, ng⟩, dv, s1.trans ex2, ?_, ?_⟩, fun c σ H3 hW => ?_⟩
    · rw [rangeI_length]
      exact eR
    · rw [rangeI_length]
      simpa using n16
    obtain ⟨L, g, left, kvs, gs, acc, y5, rfl, rfl, nLF3, hL3, gd3, hF3, dg3, hg3, ⟨H4, ex4, ng4⟩, dv3, ex3, hacc, lb⟩ := hW
    refine ⟨.ref g, rfl, _, .inr (.inr ⟨kvs, hg3, rfl⟩), ite2 (fun e => ?_) (fun e => ?_)⟩
    · have g0 : goneL T every left ≠ [] := fun z => by
        have l0 := dv3.len
        rw [z] at l0
        have : kvs = [] := List.length_eq_zero_iff.mp l0
        rw [this] at e
        simp at e
      generalize eg : goneL T every left = go at g0 dv3
      have gsub : go.Sublist left := by
        rw [← eg]
        exact gone_sub T every left
      have lt := stay_lt gsub g0
      refine ⟨fun σ H' => ∃ (c' : Nat) (L g : Addr) (left' : List Int) (kvs : List (Key × V)) (gs : List Addr) (acc : List (List Int × List Int)) (y5 : Option V), c' < left.length ∧ σ = [some (.ref p), some (.int mir), some (.ref Fo), some (.ref L), some (.ref g), y5] ∧ c' = left'.length ∧ L ≠ Fo ∧
        H' L = some (.lst (left'.map V.int)) ∧ Good T.length left' ∧ H' Fo = some (.lst (gs.map V.ref)) ∧ DGs H' T mir gs acc ∧ H' g = some (.dK kvs) ∧ (∃ H4, Ex TT H H4 ∧ H4 g = none) ∧ DV H' T mir left' kvs (goneL T every left') ∧ Ex TT H H' ∧
        acc ++ roundsP T every (left'.length + 1) left' = R ∧ acc.length + left'.length ≤ 16, fun σ' H' hN => ?_, ?_⟩
      · obtain ⟨c', L', g', left', kvs', gs', acc', z5, hlt, rest⟩ := hN
        exact ⟨c', hlt, L', g', left', kvs', gs', acc', z5, rest⟩
      refine ⟨g, .dK kvs, hg3, trivial, fun od => ?_⟩
      have nFg : Fo ≠ g := ne_of hF3 hg3 (by intro z; cases z)
      have nLg : L ≠ g := ne_of hL3 hg3 (by intro z; cases z)
      have hFz : upd H3 g (.frz od (.dK kvs)) Fo = some (.lst (gs.map V.ref)) := by
        rw [upd_ne nFg]
        exact hF3
      have hLz : upd H3 g (.frz od (.dK kvs)) L = some (.lst (left.map V.int)) := by
        rw [upd_ne nLg]
        exact hL3
      have exz : Ex TT H (upd H3 g (.frz od (.dK kvs))) := Ex.put2 ex4 ng4 ex3 hg3
      have dgz : DGs (upd H3 g (.frz od (.dK kvs))) T mir (gs ++ [g]) (acc ++ [(left, go)]) := paired_append (dg3.put hg3 (fun xs z => by cases z) (fun o u z => by cases z)) (.cons ⟨od, kvs, upd_same, dv3.put hg3 (fun xs z => by cases z)⟩ .nil)
      have hgz : upd H3 g (.frz od (.dK kvs)) g = some (.frz od (.dK kvs)) := upd_same
      have dvz : DV (upd H3 g (.frz od (.dK kvs))) T mir left kvs go := dv3.put hg3 (fun xs z => by cases z)
      generalize upd H3 g (.frz od (.dK kvs)) = H5 at hFz hLz exz dgz hgz dvz ⊢
      have lgs : (gs ++ [g]).length = (acc ++ [(left, go)]).length := Paired.length dgz
      rw [List.length_append, List.length_append, List.length_singleton, List.length_singleton] at lgs
      refine ⟨.ref Fo, rfl, .inl ⟨rfl, _, SqL.of hFz⟩, .ref g, rfl, Fo, _, .ref g, rfl, rfl, hFz, by rw [List.length_map]; exact lenLine (by omega), ?_⟩
      have hF6 : upd H5 Fo (.lst (gs.map V.ref ++ [.ref g])) Fo = some (.lst ((gs ++ [g]).map V.ref)) := by
        rw [upd_same, List.map_append]
        rfl
      have hL6 : upd H5 Fo (.lst (gs.map V.ref ++ [.ref g])) L = some (.lst (left.map V.int)) := by
        rw [upd_ne nLF3]
        exact hLz
      have hg6 : upd H5 Fo (.lst (gs.map V.ref ++ [.ref g])) g = some (.frz od (.dK kvs)) := by
        rw [upd_ne nFg.symm]
        exact hgz
      have dg6 : DGs (upd H5 Fo (.lst (gs.map V.ref ++ [.ref g]))) T mir (gs ++ [g]) (acc ++ [(left, go)]) := dgz.put hFz (fun xs z => by cases z) (fun o u z => by cases z)
      have ex6 : Ex TT H (upd H5 Fo (.lst (gs.map V.ref ++ [.ref g]))) := exz.put nF hFz
      generalize upd H5 Fo (.lst (gs.map V.ref ++ [.ref g])) = H6 at hF6 hL6 hg6 dg6 ex6 ⊢
      refine ⟨.ref L, rfl, L, rfl, ⟨_, SqL.of hL6⟩, fun D2 nD2 => ?_⟩
      have sD2 := same_upd (o := .lst []) nD2
      have nD2F : D2 ≠ Fo := fun z => by
        rw [z, hF6] at nD2
        cases nD2
      refine lc_list (K := K) (a := L) (xs := left.map V.int) (fun j H9 => H9 D2 = some (.lst ((stayL (left.take j) go).map V.int)) ∧ Same H6 H9) ⟨upd_same, sD2⟩ (fun j H9 _ h => SqL.of (h.2 _ _ hL6)) ?_ ?_
      · rintro j x H9 hx ⟨hD9, sm9⟩
        obtain ⟨y, hy, rfl⟩ := int_at hx
        have tk : left.take (j + 1) = left.take j ++ [y] := by
          rw [List.take_add_one, hy]
          rfl
        refine ⟨rfl, .int y, rfl, .ref g, rfl, g, _, rfl, .inl ⟨kvs, .inl y, .inr ⟨od, sm9 _ _ hg6⟩, rfl, rfl⟩, _, rfl, ?_⟩
        rw [dvz.isSome y]
        have ll : left.length ≤ 16 := by omega
        refine ite2 (fun e => ?_) (fun e => ?_)
        · have ne : y ∉ go := by simpa using e
          refine ⟨_, rfl, _, hD9, ?_, ?_, ?_⟩
          · rw [List.length_map]
            exact lenLine (Nat.lt_of_le_of_lt (List.length_filter_le _ _) (by rw [List.length_take]; omega))
          · unfold stayL
            rw [upd_same, tk, List.filter_append, List.map_append]
            simp [ne]
          · intro b ob hb
            rw [upd_ne (ne_of_none hb nD2)]
            exact sm9 _ _ hb
        · have ne : y ∈ go := by simpa using e
          refine ⟨?_, sm9⟩
          unfold stayL at hD9 ⊢
          rw [hD9, tk, List.filter_append]
          simp [ne]
      · rintro H9 ⟨hD9, sm9⟩
        rw [List.length_map, List.take_length] at hD9
        have ex9 : Ex TT H H9 := ex6.trans (.of sm9)
        have gd9 : Good T.length (stayL left go) := gd3.sub List.filter_sublist
        refine ⟨.ref p, rfl, .int mir, rfl, .ref D2, rfl, p, D2, mir, T, stayL left go, rfl, m3, hT.ex ex9, rule, hD9, gd9, ex9.tb tabs, fun g2 kvs2 H10 ex10 ng2 hg2 dv2 => ?_⟩
        rw [← ee] at dv2
        refine ⟨_, D2, g2, stayL left go, kvs2, gs ++ [g], acc ++ [(left, go)], _, lt, rfl, rfl, nD2F, ex10 _ _ hD9, gd9, ex10 _ _ (sm9 _ _ hF6), (dg6.ex (TT := TT) (.of sm9)).ex ex10, hg2, ⟨H9, ex9, ng2⟩, dv2, ex9.trans ex10, ?_, ?_⟩
        · rw [← hacc, List.append_assoc]
          have : roundsP T every (left.length + 1) left = (left, go) :: roundsP T every left.length (stayL left go) := by
            rw [roundsP, eg, if_neg g0]
          rw [this, roundsP_fuel T every left.length _ lt]
          rfl
        · have := List.length_pos_iff.mpr g0
          rw [List.length_append]
          simp
          omega
    · have g0 : goneL T every left = [] := by
        have e' : kvs = [] := by
          cases kvs with
          | nil => rfl
          | cons a b => simp at e
        have l0 := dv3.len
        rw [e'] at l0
        exact List.length_eq_zero_iff.mp l0.symm
      refine ⟨.ref Fo, rfl, hq Fo gs H3 ex3 nF hF3 ?_⟩
      have : roundsP T every (left.length + 1) left = [] := by
        unfold roundsP
        rw [g0, if_pos rfl]
      rw [this, List.append_nil] at hacc
      rw [← hacc]
      exact dg3
end
end Nm

namespace Nm
open PySem PySem.Spec PyProof.Rows L2 GL
/-! ### stage 2's drawing: grown rules -/
abbrev sGrown2 : Stmt := topS 27
abbrev nGrown2 : List Str := ["_law_pot_here", "_law_values", "_law_more", "_law_many", "_law_found", "_law_mark", "_law_named_here", "_law_own", "_law_some", "_law_turn", "_law_one"]
theorem scGrown2 : FnScope nGrown2 ["_law_pot_here", "_law_values", "_law_more"] (defScope sGrown2) := ⟨rfl, rfl, rfl, by decide +kernel, rfl, by decide +kernel, by decide +kernel⟩
section
variable {X : Cx}
theorem sortedSetW {w : World} (hc : X.calm = true) (hw : X.w = w := by rfl) : CallR X (.builtin "sorted") (rSortedSet w) := by
  subst hw
  exact cr_sortedSet hc
def rSetLI (K : PySem.W.Frag) (w : World) : List V → Hp → VK → Prop := fun xs H Q => ∃ (l : Addr) (ns : List Int), xs = [V.ref l] ∧ SqL K H l (ns.map V.int) ∧ ns.length < 1000 ∧
    ∀ (a : Addr) (c : Nat), H a = none → c ≤ ns.length → Q (.ref a) (upd H a (SetO w a (fun j => decide (j ∈ ns)) c))
theorem setLIW {K : PySem.W.Frag} {w : World} (hc : X.calm = true) (hK : X.K = K := by rfl) (hw : X.w = w := by rfl) : CallR X (.type "set") (rSetLI K w) := by
  subst hw
  exact setLI hc hK
end
/-- a bound of a row's length: v values, m rows of named marks, k marks put in, o turns of the next -/
def gBd (v m k o j : Nat) : Nat := if j < m then v * (1 + k) + o else if j < m + k then 16 else 0
/-- the lists between two turns -/
def GrM (H0 H : Hp) (p L : Addr) (v m n k o c : Nat) : Prop := ∃ (ls : List Addr) (T : List (List Int)), H L = some (.lst (ls.map V.ref)) ∧ LR H ls T ∧ (∀ a ∈ ls, H0 a = none ∧ a ≠ L) ∧ T.length = n ∧
  (∀ row ∈ T, ∀ x ∈ row, 0 ≤ x ∧ x < (n : Int)) ∧ (∀ (j : Nat) (row : List Int), T[j]? = some row → row.length ≤ gBd v m k o j) ∧ Pot H p c ∧ Kp p H0 H
theorem GrM.kp {H0 H H' : Hp} {p L : Addr} {v m n k o c c' : Nat} {xs : List V} (h : GrM H0 H p L v m n k o c) (kk : Kp p H H') (hp : Pot H' p c') (h0 : H0 p = some (.lst xs)) (nL : H0 L = none) : GrM H0 H' p L v m n k o c' := by
  obtain ⟨ls, T, hL, ⟨l1, l2, l3⟩, fr, lt, gd, bd, _, kp⟩ := h
  have nLp : L ≠ p := fun z => by subst z; rw [h0] at nL; cases nL
  refine ⟨ls, T, kk _ _ nLp hL, ⟨l1, fun i a row hi hr => kk _ _ (fun z => ?_) (l2 i a row hi hr), l3⟩, fr, lt, gd, bd, hp, kp.trans kk⟩
  have := (fr a (List.mem_of_getElem? hi)).1
  subst z
  rw [h0] at this
  cases this
/-- a row of the lists grows -/
theorem GrM.ext {H0 H : Hp} {p L : Addr} {v m n k o k' o' c : Nat} {xs : List V} {ls : List Addr} {T : List (List Int)} {j : Nat} {b : Addr} {row zs : List Int} (h0 : H0 p = some (.lst xs))
    (hL : H L = some (.lst (ls.map V.ref))) (lr : LR H ls T) (fr : ∀ a ∈ ls, H0 a = none ∧ a ≠ L) (lt : T.length = n) (gd : ∀ row ∈ T, ∀ x ∈ row, 0 ≤ x ∧ x < (n : Int)) (bd : ∀ (j : Nat) (row : List Int), T[j]? = some row → row.length ≤ gBd v m k o j)
    (hp : Pot H p c) (kp : Kp p H0 H) (hb : ls[j]? = some b) (hrow : T[j]? = some row) (hz : ∀ x ∈ zs, 0 ≤ x ∧ x < (n : Int)) (l1 : (row ++ zs).length ≤ gBd v m k' o' j) (l2 : ∀ i, i ≠ j → gBd v m k o i ≤ gBd v m k' o' i) :
    GrM H0 (upd H b (.lst ((row ++ zs).map V.int))) p L v m n k' o' c := by
  have nbL := (fr b (List.mem_of_getElem? hb)).2
  have nb0 := (fr b (List.mem_of_getElem? hb)).1
  have npb : p ≠ b := ne_of_none h0 nb0
  have i2 : j < T.length := (List.getElem?_eq_some_iff.mp hrow).1
  refine ⟨ls, T.set j (row ++ zs), ?_, ⟨?_, ?_, lr.inj⟩, fr, ?_, ?_, ?_, ?_, ?_⟩
  · rw [upd_ne nbL.symm]
    exact hL
  · rw [List.length_set]
    exact lr.len
  · intro i' a' row' hi' hr'
    by_cases e' : i' = j
    · subst e'
      rw [hb] at hi'
      cases hi'
      rw [List.getElem?_set_self i2] at hr'
      cases hr'
      exact upd_same
    · rw [List.getElem?_set_ne (Ne.symm e')] at hr'
      rw [upd_ne (show a' ≠ b from fun z => e' (lr.inj i' j a' hi' (by rw [z]; exact hb)))]
      exact lr.at' _ _ _ hi' hr'
  · rw [List.length_set]
    exact lt
  · intro row' hr' x hx
    rcases mem_set hr' with z | z
    · exact gd row' z x hx
    · subst z
      rcases List.mem_append.mp hx with y | y
      · exact gd row (List.mem_of_getElem? hrow) x y
      · exact hz x y
  · intro i' row' hr'
    by_cases e' : i' = j
    · subst e'
      rw [List.getElem?_set_self i2] at hr'
      cases hr'
      exact l1
    · rw [List.getElem?_set_ne (Ne.symm e')] at hr'
      exact Nat.le_trans (bd i' row' hr') (l2 i' e')
  · obtain ⟨g, t, c', hq, rr⟩ := hp
    refine ⟨g, t, c', ?_, rr⟩
    rw [upd_ne npb]
    exact hq
  · intro c o nc hc
    rw [upd_ne (ne_of_none hc nb0)]
    exact kp _ _ nc hc
theorem LR.same {H H' : Hp} {ls : List Addr} {T : List (List Int)} (h : LR H ls T) (s : Same H H') : LR H' ls T := ⟨h.len, fun i a row hi hr => s _ _ (h.at' i a row hi hr), h.inj⟩
theorem LR.kp {H0 H H' : Hp} {p L : Addr} {ls : List Addr} {T : List (List Int)} {xs : List V} (h : LR H ls T) (k : Kp p H H') (h0 : H0 p = some (.lst xs)) (fr : ∀ a ∈ ls, H0 a = none ∧ a ≠ L) : LR H' ls T :=
  ⟨h.len, fun i a row hi hr => k _ _ (fun z => by
    have := (fr a (List.mem_of_getElem? hi)).1
    rw [z, h0] at this
    cases this) (h.at' i a row hi hr), h.inj⟩
theorem LR.held {H : Hp} {ls : List Addr} {T : List (List Int)} (h : LR H ls T) {b : Addr} (hb : b ∈ ls) : ∃ row, H b = some (.lst row) := by
  obtain ⟨i, hi⟩ := List.mem_iff_getElem?.mp hb
  have l1 := (List.getElem?_eq_some_iff.mp hi).1
  exact ⟨_, h.at' i b _ hi (List.getElem?_eq_getElem (by rw [← h.len]; exact l1))⟩
theorem LR.nil {H : Hp} : LR H [] [] := ⟨rfl, fun i a row h => by simp at h, fun i j a h => by simp at h⟩
theorem LR.append {H : Hp} {ls ls2 : List Addr} {T T2 : List (List Int)} (h : LR H ls T) (h2 : LR H ls2 T2) (d : ∀ b ∈ ls, b ∉ ls2) : LR H (ls ++ ls2) (T ++ T2) := by
  refine ⟨by rw [List.length_append, List.length_append, h.len, h2.len], fun i a row hi hr => ?_, fun i j a hi hj => ?_⟩
  · by_cases e : i < ls.length
    · rw [List.getElem?_append_left e] at hi
      rw [List.getElem?_append_left (by rw [← h.len]; exact e)] at hr
      exact h.at' i a row hi hr
    · rw [List.getElem?_append_right (by omega)] at hi
      rw [List.getElem?_append_right (by rw [← h.len]; omega), ← h.len] at hr
      exact h2.at' _ a row hi hr
  · by_cases e : i < ls.length
    · rw [List.getElem?_append_left e] at hi
      by_cases e2 : j < ls.length
      · rw [List.getElem?_append_left e2] at hj
        exact h.inj i j a hi hj
      · rw [List.getElem?_append_right (by omega)] at hj
        exact absurd (List.mem_of_getElem? hj) (d a (List.mem_of_getElem? hi))
    · rw [List.getElem?_append_right (by omega)] at hi
      by_cases e2 : j < ls.length
      · rw [List.getElem?_append_left e2] at hj
        exact absurd (List.mem_of_getElem? hi) (d a (List.mem_of_getElem? hj))
      · rw [List.getElem?_append_right (by omega)] at hj
        have := h2.inj _ _ a hi hj
        omega
theorem ne_of_none' {H : Hp} {p a : Addr} {n : Nat} (h : H a = none) (hp : Pot H p n) : a ≠ p := fun z => by
  obtain ⟨_, y⟩ := pot_lst hp
  rw [z, y] at h
  cases h
/-- a list of new lists -/
def Bld (H0 H : Hp) (D : Addr) (ls : List Addr) (T : List (List Int)) : Prop := H D = some (.lst (ls.map V.ref)) ∧ LR H ls T ∧ (∀ b ∈ ls, H0 b = none ∧ b ≠ D) ∧ Same H0 H
theorem Bld.push {H0 H : Hp} {D l : Addr} {ls : List Addr} {T : List (List Int)} {row : List Int} (h : Bld H0 H D ls T) (n0 : H0 D = none) (nl : H l = none) :
    Bld H0 (upd (upd H l (.lst (row.map V.int))) D (.lst (ls.map V.ref ++ [.ref l]))) D (ls ++ [l]) (T ++ [row]) := by
  obtain ⟨hD, lr, fr, sm⟩ := h
  have sl := same_upd (o := .lst (row.map V.int)) nl
  have nlD : l ≠ D := fun z => by subst z; rw [hD] at nl; cases nl
  have nls : l ∉ ls := fun z => by
    obtain ⟨r, y⟩ := lr.held z
    rw [y] at nl
    cases nl
  have up : ∀ {ls' : List Addr} {T' : List (List Int)}, (∀ b ∈ ls', b ≠ D) → LR (upd H l (.lst (row.map V.int))) ls' T' → LR (upd (upd H l (.lst (row.map V.int))) D (.lst (ls.map V.ref ++ [.ref l]))) ls' T' := fun hn h => ⟨h.len, fun i a r hi hr => by
    rw [upd_ne (hn a (List.mem_of_getElem? hi))]
    exact h.at' i a r hi hr, h.inj⟩
  refine ⟨?_, up ?_ (LR.append (lr.same sl) ⟨rfl, fun i a r hi hr => ?_, fun i j a hi hj => ?_⟩ ?_), ?_, ?_⟩
  · rw [upd_same, List.map_append]
    rfl
  · intro b hb
    rcases List.mem_append.mp hb with z | z
    · exact (fr b z).2
    · rw [List.mem_singleton.mp z]
      exact nlD
  · cases i with
    | zero =>
      cases hi
      cases hr
      exact upd_same
    | succ i => simp at hi
  · cases i with
    | zero =>
      cases j with
      | zero => rfl
      | succ j => simp at hj
    | succ i => simp at hi
  · intro b hb z
    rw [List.mem_singleton.mp z] at hb
    exact nls hb
  · intro b hb
    rcases List.mem_append.mp hb with z | z
    · exact fr b z
    · rw [List.mem_singleton.mp z]
      exact ⟨sm.free nl, nlD⟩
  · intro b o hb
    rw [upd_ne (ne_of_none hb n0)]
    exact sl _ _ (sm _ _ hb)
section
variable {P : Program} {w : World} {K : PySem.W.Frag} {mg : Str → Option Value} {base : Heap}
def spGrown2 (K : PySem.W.Frag) : Sp := fun vs H Q _ => ∃ (p : Addr) (n v e : Nat), vs = [.ref p, .int v, .int e] ∧ 1 ≤ v ∧ v * v + e ≤ 16 ∧ Pot H p n ∧ n + 1000 < 1000000 ∧
  ∀ (o : Addr) (T : List (List Int)) (H' : Hp), Pot H' p (n + 400) → Kp p H H' → Tbl H' o T → IsRule T → T.length = v * v + e → Q (.ref o) H'
set_option maxHeartbeats 4000000 in
theorem ok_grown2 {f fT fN fR fS : Addr} {fd dT dN dR dS : FuncData} {k : Nat} (F : Fun K "_law_grown" "_law_grown" sGrown2 f fd) (FT : Fun K "_law_take" "_law_take" sTake2 fT dT) (bT : Binds K dT ["_law_pot_here", "_law_many"] []) (gT : mg "_law_take" = some (.ref fT))
    (FN : Fun K "_law_named" "_law_named" sNamed2 fN dN) (bN : Binds K dN ["_law_values"] []) (gN : mg "_law_named" = some (.ref fN))
    (FR : Fun K "_law_renamed" "_law_renamed" sRen2 fR dR) (bR : Binds K dR ["_law_rule", "_law_order"] []) (gR : mg "_law_renamed" = some (.ref fR))
    (FS : Fun K "_law_shuffled" "_law_shuffled" sShuf2 fS dS) (bS : Binds K dS ["_law_pot_here", "_law_many"] []) (gS : mg "_law_shuffled" = some (.ref fS)) (B : Lib K mg) (mset : mg "set" = none) :
    FnOk P w K mg base CX0 (k + 3) f fd ["_law_pot_here", "_law_values", "_law_more"] (spGrown2 K) := by
  have GT : FnOk P w K mg base CX0 (k + 2) fT dT ["_law_pot_here", "_law_many"] (spTake K) := ok_take2 FT
  have GN : FnOk P w K mg base CX0 (k + 2) fN dN ["_law_values"] (spNamed2 K) := ok_named2 FN B
  have GR : FnOk P w K mg base CX0 (k + 2) fR dR ["_law_rule", "_law_order"] (spCso K) := ok_ren2 FR B
  have GS : FnOk P w K mg base CX0 (k + 2) fS dS ["_law_pot_here", "_law_many"] (spShuf2 K) := ok_shuf2 FS FT bT gT B
  refine F.ok scGrown2 (fun vs H Q E h => ?_) (fun cdv A outer s H vs Q E hr h => ?_)
  · obtain ⟨p, n, v, e, rfl, _⟩ := h
    rfl
  · obtain ⟨p, n, v, e, rfl, v1, ve, hp, hn, q⟩ := h
    refine ⟨_, pss_cons (ps_set (i := 3) scGrown2.nd rfl (.inl rfl) (pe_op op_mul (pv 1) (pv 1)))
      (pss_cons (ps_set (i := 4) scGrown2.nd rfl (.inl rfl) (pe_op op_cat
          (pe_lc (own := [("_law_some", 8)]) (g := gName 8) (by rfl) scGrown2.nd (piTupK (K := K) (pe_call GN hr (by rfl) gN FN.kp bN .nil pass0 (pa_cons (pv 1) pa_nil)))
            (blkOk_by (own := [("_law_some", 8)]) (N := nGrown2) (sc := defScope sGrown2) (by decide +kernel))
            (fun _ _ _ _ _ => pg_name (i := 8) scGrown2.nd rfl (Or.inl rfl)) (fun _ _ _ _ _ => pts_nil)
            (fun _ _ _ _ _ => pe_callTy (lstOfK (K := K)) (by rfl) B.list (by decide +kernel) (pa_cons (pv 8) pa_nil)))
          (pe_lc (own := [("_law_turn", 9)]) (g := gName 9) (by rfl) scGrown2.nd (pi_range1 (by rfl) B.range (pa_cons (pv 2) pa_nil))
            (blkOk_by (own := [("_law_turn", 9)]) (N := nGrown2) (sc := defScope sGrown2) (by decide +kernel))
            (fun _ _ _ _ _ => pg_name (i := 9) scGrown2.nd rfl (Or.inl rfl)) (fun _ _ _ _ _ => pts_nil)
            (fun _ _ _ _ _ => pe_lst pa_nil))))
      (pss_cons (ps_for PassesOwn.never rfl (pi_range2 (by rfl) B.range (pa_cons (pv 3) (pa_cons (pe_op op_add (pv 3) (pv 2)) pa_nil))) (pg_name (i := 5) scGrown2.nd rfl (.inl rfl))
        (pss_cons (ps_set (i := 6) scGrown2.nd rfl (.inl rfl) (pe_call GT hr (by rfl) gT FT.kp bT .nil pass0 (pa_cons (pv 0) (pa_cons (pv 1) pa_nil))))
        (pss_cons (ps_for PassesOwn.never rfl (pi_range1 (by rfl) B.range (pa_cons (pv 1) pa_nil)) (pg_name (i := 7) scGrown2.nd rfl (.inl rfl))
          (pss_one (ps_expr (pe_bm PySem.F.plainAttrs_list PySem.F.slot_list_extend PySem.F.type_list_extend mt_extend (pe_ix (ixLstK (K := K)) (pv 4) (pe_op op_add (pe_op op_mul (pv 7) (pv 1)) (pv 6)) (fun _ _ => rfl))
            (pa_cons (pe_op op_rep (pe_lst (pa_cons (pv 5) pa_nil)) (pe_call GT hr (by rfl) gT FT.kp bT .nil pass0 (pa_cons (pv 0) (pa_cons pe_int pa_nil)))) pa_nil)))))
        (pss_one (ps_expr (pe_bm PySem.F.plainAttrs_list PySem.F.slot_list_extend PySem.F.type_list_extend mt_extend (pe_ix (ixLstK (K := K)) (pv 4) (pv 5) (fun _ _ => rfl))
            (pa_cons (pe_lc (own := [("_law_one", 10)]) (g := gName 10) (by rfl) scGrown2.nd (pi_range1 (by rfl) B.range (pa_cons (pe_op op_add (pv 3) (pv 2)) pa_nil))
              (blkOk_by (own := [("_law_one", 10)]) (N := nGrown2) (sc := defScope sGrown2) (by decide +kernel))
              (fun _ _ _ _ _ => pg_name (i := 10) scGrown2.nd rfl (Or.inl rfl))
              (fun _ _ _ _ _ => pts_one (pt_cmpR op_eq (pe_call GT hr (by rfl) gT FT.kp bT .nil pass0 (pa_cons (pv 0) (pa_cons pe_int pa_nil))) pe_int (nomark _)))
              (fun _ _ _ _ _ => pv 10)) pa_nil)))))))
      (pss_one (ps_ret (pe_call GR hr (by rfl) gR FR.kp bR .nil pass0 (pa_cons
        (pe_callTy (tupOfK (K := K)) (by rfl) B.tuple (by decide +kernel) (pa_cons
          (pe_lc (own := [("_law_some", 8)]) (g := gName 8) (by rfl) scGrown2.nd (piLstK (K := K) (pv 4))
            (blkOk_by (own := [("_law_some", 8)]) (N := nGrown2) (sc := defScope sGrown2) (by decide +kernel))
            (fun _ _ _ _ _ => pg_name (i := 8) scGrown2.nd rfl (Or.inl rfl)) (fun _ _ _ _ _ => pts_nil)
            (fun _ _ _ _ _ => pe_callTy (tupOfK (K := K)) (by rfl) B.tuple (by decide +kernel) (pa_cons (pe_callB (sortedSetW (w := w) rfl) (by rfl) B.sorted (by decide +kernel) (pa_cons
              (pe_callTy (setLIW (K := K) (w := w) rfl) (by rfl) mset (by decide +kernel) (pa_cons (pv 8) pa_nil)) pa_nil)) pa_nil))) pa_nil))
        (pa_cons (pe_call GS hr (by rfl) gS FS.kp bS .nil pass0 (pa_cons (pv 0) (pa_cons (pe_op op_add (pv 3) (pv 2)) pa_nil))) pa_nil))))))), ?_⟩
    obtain ⟨xs0, hp0⟩ := pot_lst hp
    have v4 : v ≤ 4 := by
      refine Nat.le_of_not_lt fun z => ?_
      have := Nat.mul_le_mul (show 5 ≤ v from z) (show 5 ≤ v from z)
      omega
    have vv : (v : Int) * v = ((v * v : Nat) : Int) := by norm_cast
    have wide : v * (1 + e) ≤ 63 := by
      obtain rfl | rfl | rfl | rfl : v = 1 ∨ v = 2 ∨ v = 3 ∨ v = 4 := by omega
      all_goals omega
    have rows := named_rows2 v1 v4
    obtain ⟨TN, eTN⟩ : ∃ TN, TN = ofPrs (prsTo v v) := ⟨_, rfl⟩
    obtain ⟨m, em⟩ : ∃ m, m = v * v := ⟨_, rfl⟩
    rw [← em] at vv ve rows q
    rw [← eTN] at rows
    have lTN : TN.length = m := by rw [rows, List.length_map, List.length_range]
    have rowTN : ∀ row ∈ TN, row.length = v ∧ ∀ x ∈ row, 0 ≤ x ∧ x < (m : Int) := by
      intro row hrow
      rw [rows] at hrow
      obtain ⟨i, hi, rfl⟩ := List.mem_map.mp hrow
      refine ⟨by rw [List.length_map, List.length_range], fun x hx => ?_⟩
      obtain ⟨j, hj, rfl⟩ := List.mem_map.mp hx
      have hj' := List.mem_range.mp hj
      have im : i % v < v := Nat.mod_lt _ v1
      have b1 : i % v * v + v ≤ v * v := by
        have := Nat.mul_le_mul_right v (show i % v + 1 ≤ v from im)
        rw [Nat.add_mul, Nat.one_mul] at this
        exact this
      omega
    refine ⟨.int v, rfl, .int v, rfl, (v : Int), (v : Int), rfl, rfl, .inl ⟨by omega, by omega⟩, ?_⟩
    dsimp only
    rw [vv]
    refine ⟨.int v, rfl, v, rfl, v1, v4, fun pN H1 s1 tb => ?_⟩
    rw [← eTN] at tb
    obtain ⟨rs, hN, hRN⟩ := tb
    have lrs : rs.length = m := by rw [Paired.length hRN, lTN]
    refine ⟨pN, rfl, ⟨_, SqT.of hN⟩, fun D nD => ?_⟩
    refine lc_tup (K := K) (a := pN) (xs := rs.map V.ref) (fun i H2 => ∃ ls : List Addr, Bld H1 H2 D ls (TN.take i)) ⟨[], upd_same, LR.nil, fun b h => (by cases h), same_upd nD⟩ (fun i H2 _ h => SqT.of (h.elim fun ls h => h.2.2.2 _ _ hN)) ?_ ?_
    · rintro i x H2 hx ⟨ls, bl⟩
      obtain ⟨c, hc, rfl⟩ := ref_at hx
      obtain ⟨row, hrw, hcell⟩ := paired_get hRN hc
      have iT : i < TN.length := (List.getElem?_eq_some_iff.mp hrw).1
      refine ⟨rfl, yesI ⟨.ref c, rfl, c, _, rfl, .inr (SqT.of (bl.2.2.2 _ _ hcell)), fun l nl => ?_⟩⟩
      have hl := bl.2.1.len
      rw [List.length_take] at hl
      refine ⟨_, same_upd nl _ _ bl.1, by rw [List.length_map]; exact lenLine (by omega), ls ++ [l], ?_⟩
      rw [List.take_add_one, hrw]
      exact bl.push nD nl
    · rintro H2 ⟨ls, bl⟩
      rw [List.length_map, lrs, ← lTN, List.take_length] at bl
      obtain ⟨hD, lrA, frA, smA⟩ := bl
      refine ⟨.int e, rfl, (e : Int), rfl, by omega, by omega, fun D2 nD2 => ?_⟩
      rw [Int.toNat_natCast]
      refine lc_range (lo := 0) (n := e) (fun i H3 => ∃ ls2 : List Addr, Bld H2 H3 D2 ls2 (List.replicate i [])) ⟨[], upd_same, LR.nil, fun b h => (by cases h), same_upd nD2⟩ ?_ ?_
      · rintro i H3 hi ⟨ls2, bl⟩
        refine ⟨rfl, yesI ⟨Nat.zero_le _, fun l nl => ?_⟩⟩
        have hl := bl.2.1.len
        rw [List.length_replicate] at hl
        refine ⟨_, same_upd nl _ _ bl.1, by rw [List.length_map]; exact lenLine (by omega), ls2 ++ [l], ?_⟩
        rw [List.replicate_succ']
        exact bl.push (row := []) nD2 nl
      · rintro H3 ⟨ls2, hD2, lrB, frB, smB⟩
        refine ⟨D, D2, _, _, rfl, rfl, smB _ _ hD, hD2, ?_, fun L nL => ?_⟩
        · rw [List.length_map, List.length_map, lrA.len, lrB.len, List.length_replicate]
          exact Nat.le_of_lt (lenLine (by omega))
        have sL := same_upd (o := .lst (ls.map V.ref ++ ls2.map V.ref)) nL
        have hL : upd H3 L (.lst (ls.map V.ref ++ ls2.map V.ref)) L = some (.lst ((ls ++ ls2).map V.ref)) := by rw [upd_same, List.map_append]
        have lrC := LR.append ((lrA.same smB).same sL) (lrB.same sL) (fun b hb z => by
          obtain ⟨r, y⟩ := lrA.held hb
          rw [(frB b z).1] at y
          cases y)
        have sm : Same H _ := s1.trans (smA.trans (smB.trans sL))
        have nL0 : H L = none := (s1.trans (smA.trans smB)).free nL
        have gr : GrM H (upd H3 L (.lst (ls.map V.ref ++ ls2.map V.ref))) p L v m (m + e) 0 0 n := by
          refine ⟨_, _, hL, lrC, fun b hb => ?_, ?_, fun row hrow x hx => ?_, fun j row hrow => ?_, hp.same sm, .of sm⟩
          · have hne : b ≠ L := fun z => by
              subst z
              rcases List.mem_append.mp hb with y | y
              · obtain ⟨r, y'⟩ := (lrA.same smB).held y
                rw [nL] at y'
                cases y'
              · obtain ⟨r, y'⟩ := lrB.held y
                rw [nL] at y'
                cases y'
            rcases List.mem_append.mp hb with y | y
            · exact ⟨s1.free (frA b y).1, hne⟩
            · exact ⟨(s1.trans smA).free (frB b y).1, hne⟩
          · rw [List.length_append, lTN, List.length_replicate]
          · rcases List.mem_append.mp hrow with y | y
            · have := (rowTN row y).2 x hx
              omega
            · rw [(List.mem_replicate.mp y).2] at hx
              cases hx
          · by_cases e' : j < m
            · rw [List.getElem?_append_left (by omega)] at hrow
              unfold gBd
              rw [if_pos e', (rowTN row (List.mem_of_getElem? hrow)).1]
              omega
            · rw [List.getElem?_append_right (by omega)] at hrow
              rw [(List.mem_replicate.mp (List.mem_of_getElem? hrow)).2]
              exact Nat.zero_le _
        generalize upd H3 L (.lst (ls.map V.ref ++ ls2.map V.ref)) = H4 at gr ⊢
        refine ⟨.int m, rfl, .int m, rfl, .int e, rfl, (m : Int), (e : Int), rfl, rfl, (m : Int), (m : Int) + (e : Int), rfl, ⟨by omega, by omega, by omega, by omega⟩, ?_⟩
        show ∃ W, _
        rw [show ((m : Int) + (e : Int) - (m : Int)).toNat = e by omega]
        refine for_range (lo := (m : Int)) (n := e) (fun i σ H' => ∃ (y5 y6 y7 y8 y9 y10 : Option V), σ = [some (.ref p), some (.int v), some (.int e), some (.int m), some (.ref L), y5, y6, y7, y8, y9, y10] ∧ GrM H H' p L v m (m + e) i 0 (n + 21 * i))
          ⟨none, none, none, none, none, none, rfl, gr⟩ ?_ ?_
        · rintro i σ H5 hi ⟨y5, y6, y7, y8, y9, y10, rfl, gr5⟩
          have g5 := gr5
          obtain ⟨_, _, _, _, _, _, _, _, hp5, _⟩ := g5
          refine ⟨.ref p, rfl, .int v, rfl, p, _, (v : Int), rfl, hp5, by omega, by omega, by omega, fun r H6 r0 r1 hp6 kp6 => ?_⟩
          have gr6 := gr5.kp kp6 hp6 hp0 nL0
          refine ⟨.int v, rfl, (v : Int), rfl, by omega, by omega, ?_⟩
          rw [Int.toNat_natCast]
          refine for_range (lo := 0) (n := v) (fun o σ H' => ∃ (z7 z8 z9 z10 : Option V), σ = [some (.ref p), some (.int v), some (.int e), some (.int m), some (.ref L), some (.int ((m : Int) + (i : Int))), some (.int r), z7, z8, z9, z10] ∧ GrM H H' p L v m (m + e) i o (n + 21 * i + 1 + o))
            ⟨y7, y8, y9, y10, rfl, gr6⟩ ?_ ?_
          · rintro o σ H7 ho ⟨z7, z8, z9, z10, rfl, gr7⟩
            have g7 := gr7
            obtain ⟨ls7, T7, hL7, lr7, fr7, lt7, gd7, bd7, hp7, kp7⟩ := g7
            obtain ⟨w7, rfl⟩ : ∃ w7 : Nat, r = (w7 : Int) := ⟨r.toNat, by omega⟩
            have jm : o * v + w7 < m := by
              have := Nat.mul_le_mul_right v (show o + 1 ≤ v from ho)
              rw [Nat.add_mul, Nat.one_mul] at this
              omega
            have ov : o * v ≤ 16 := by omega
            have idx : ((0 : Int) + (o : Int)) * (v : Int) + (w7 : Int) = ((o * v + w7 : Nat) : Int) := by
              rw [Int.zero_add]
              norm_cast
            obtain ⟨b, hb⟩ : ∃ b, ls7[o * v + w7]? = some b := ⟨_, List.getElem?_eq_getElem (by rw [lr7.len, lt7]; omega)⟩
            obtain ⟨row, hrw⟩ : ∃ row, T7[o * v + w7]? = some row := ⟨_, List.getElem?_eq_getElem (by rw [lt7]; omega)⟩
            have atb : atI (ls7.map V.ref) ((0 + (o : Int)) * (v : Int) + (w7 : Int)) = some (.ref b) := by
              rw [idx]
              exact atI_nat (by rw [List.getElem?_map, hb]; rfl)
            have hbr := lr7.at' _ _ _ hb hrw
            have nbp : b ≠ p := fun z => by
              have := (fr7 b (List.mem_of_getElem? hb)).1
              rw [z, hp0] at this
              cases this
            refine ⟨.ref L, rfl, .int (0 + o), rfl, .int v, rfl, _, (v : Int), rfl, rfl, .inr ⟨by omega, by omega⟩, .int w7, rfl, _, _, rfl, rfl, L, _, _, _, rfl, rfl, SqL.of hL7, atb, .inl ⟨rfl, _, SqL.of hbr⟩, ?_⟩
            refine ⟨.int (m + i), rfl, by show 1 ≤ sizeLine; decide, fun e1 ne1 => ?_⟩
            have s1' := same_upd (o := .lst [.int ((m : Int) + (i : Int))]) ne1
            have he1 : upd H7 e1 (.lst [.int ((m : Int) + (i : Int))]) e1 = some (.lst [.int ((m : Int) + (i : Int))]) := upd_same
            have gr8 := gr7.kp (.of s1') (hp7.same s1') hp0 nL0
            have ne1p : e1 ≠ p := ne_of_none' ne1 hp7
            have hbr8 := s1' _ _ hbr
            generalize upd H7 e1 (.lst [.int ((m : Int) + (i : Int))]) = H8 at s1' he1 gr8 hbr8 ⊢
            refine ⟨.ref p, rfl, p, n + 21 * i + 1 + o, 2, rfl, hp7.same s1', by omega, by decide, by decide, fun r2 H9 r20 r21 hp9 kp9 => ?_⟩
            have gr9 := gr8.kp kp9 hp9 hp0 nL0
            have he9 := kp9 _ _ ne1p he1
            have hbr9 := kp9 _ _ nbp hbr8
            refine ⟨e1, r2, _, rfl, rfl, he9, by omega, by omega, ?_, fun e2 ne2 => ?_⟩
            · show 1 * _ ≤ _
              exact Nat.le_of_lt (lenLine (by omega))
            rw [rep_flat]
            have s2' := same_upd (o := .lst (List.replicate r2.toNat (.int ((m : Int) + (i : Int))))) ne2
            have he2 : upd H9 e2 (.lst (List.replicate r2.toNat (.int ((m : Int) + (i : Int))))) e2 = some (.lst ((List.replicate r2.toNat ((m : Int) + (i : Int))).map V.int)) := by rw [upd_same, List.map_replicate]
            have gr10 := gr9.kp (.of s2') (hp9.same s2') hp0 nL0
            have hbr10 := s2' _ _ hbr9
            generalize upd H9 e2 (.lst (List.replicate r2.toNat (.int ((m : Int) + (i : Int))))) = H10 at s2' he2 gr10 hbr10 ⊢
            have bl := bd7 _ _ hrw
            unfold gBd at bl
            rw [if_pos jm] at bl
            have vi : v * (1 + i) ≤ 63 := Nat.le_trans (Nat.mul_le_mul_left v (by omega)) wide
            refine ⟨b, e2, _, _, rfl, rfl, hbr10, he2, ?_, ?_⟩
            · rw [List.length_map, List.length_map, List.length_replicate]
              exact Nat.le_of_lt (lenLine (by omega))
            rw [← List.map_append]
            have nLp : L ≠ p := fun z => by
              rw [z, hp0] at nL0
              cases nL0
            have kpA : Kp p H7 H10 := (Kp.of s1').trans (kp9.trans (.of s2'))
            refine ⟨_, _, _, _, rfl, GrM.ext hp0 (kpA _ _ nLp hL7) (lr7.kp kpA hp0 fr7) fr7 lt7 gd7 bd7 (hp9.same s2') (kp7.trans kpA) hb hrw ?_ ?_ ?_⟩
            · intro x hx
              rw [(List.mem_replicate.mp hx).2]
              omega
            · unfold gBd
              rw [if_pos jm, List.length_append, List.length_replicate]
              omega
            · intro i' _
              unfold gBd
              split
              · omega
              · exact Nat.le_refl _
          · rintro σ H7 ⟨z7, z8, z9, z10, rfl, gr7⟩
            obtain ⟨ls7, T7, hL7, lr7, fr7, lt7, gd7, bd7, hp7, kp7⟩ := gr7
            obtain ⟨b, hb⟩ : ∃ b, ls7[m + i]? = some b := ⟨_, List.getElem?_eq_getElem (by rw [lr7.len, lt7]; omega)⟩
            obtain ⟨row, hrw⟩ : ∃ row, T7[m + i]? = some row := ⟨_, List.getElem?_eq_getElem (by rw [lt7]; omega)⟩
            have atb : atI (ls7.map V.ref) ((m : Int) + (i : Int)) = some (.ref b) := by
              rw [show (m : Int) + (i : Int) = ((m + i : Nat) : Int) by omega]
              exact atI_nat (by rw [List.getElem?_map, hb]; rfl)
            have hbr := lr7.at' _ _ _ hb hrw
            have nbp : b ≠ p := fun z => by
              have := (fr7 b (List.mem_of_getElem? hb)).1
              rw [z, hp0] at this
              cases this
            have row0 : row = [] := by
              have := bd7 _ _ hrw
              unfold gBd at this
              rw [if_neg (by omega), if_neg (by omega)] at this
              exact List.length_eq_zero_iff.mp (by omega)
            have nLp : L ≠ p := fun z => by
              rw [z, hp0] at nL0
              cases nL0
            refine ⟨.ref L, rfl, .int (m + i), rfl, L, _, _, _, rfl, rfl, SqL.of hL7, atb, .inl ⟨rfl, _, SqL.of hbr⟩, ?_⟩
            refine ⟨.int m, rfl, .int e, rfl, (m : Int), (e : Int), rfl, rfl, (m : Int) + (e : Int), rfl, by omega, by omega, fun D3 nD3 => ?_⟩
            rw [show ((m : Int) + (e : Int)).toNat = m + e by omega]
            have sD := same_upd (o := .lst []) nD3
            have nDp := ne_of_none' nD3 hp7
            refine lc_range (lo := 0) (n := m + e) (fun j H8 => ∃ ms : List Int, ms.Sublist (rangeI j) ∧ H8 D3 = some (.lst (ms.map V.int)) ∧ Pot H8 p (n + 21 * i + 1 + v + j) ∧ Kp p H7 H8) ⟨[], List.nil_sublist _, upd_same, hp7.same sD, .of sD⟩ ?_ ?_
            · rintro j H8 hj ⟨ms, sub, hD8, hp8, kp8⟩
              have lm := sub.length_le
              rw [rangeI_length] at lm
              have er : rangeI (j + 1) = rangeI j ++ [(j : Int)] := by
                unfold rangeI
                rw [List.range_succ, List.map_append]
                rfl
              refine ⟨rfl, .ref p, rfl, p, n + 21 * i + 1 + v + j, 2, rfl, hp8, by omega, by decide, by decide, fun r' H9 _ _ hp9 kp9 => ?_⟩
              have hD9 := kp9 _ _ nDp hD8
              refine ⟨rfl, _, rfl, ite2 (fun _ => ?_) (fun _ => ?_)⟩
              · refine ⟨_, rfl, _, hD9, by rw [List.length_map]; exact lenLine (by omega), ms ++ [(j : Int)], ?_, ?_, ?_, ?_⟩
                · rw [er]
                  exact sub.append (List.Sublist.refl _)
                · rw [upd_same, List.map_append, Int.zero_add]
                  rfl
                · obtain ⟨g, t', c, e', r''⟩ := hp9
                  exact ⟨g, t', c, by rw [upd_ne nDp.symm]; exact e', r''⟩
                · intro b' ob nb hb'
                  rw [upd_ne (ne_of_none hb' nD3)]
                  exact kp9 _ _ nb (kp8 _ _ nb hb')
              · refine ⟨ms, ?_, hD9, hp9, kp8.trans kp9⟩
                rw [er]
                exact sub.trans (List.sublist_append_left _ _)
            · rintro H8 ⟨ms, sub, hD8, hp8, kp8⟩
              have lm := sub.length_le
              rw [rangeI_length] at lm
              refine ⟨b, D3, _, _, rfl, rfl, kp8 _ _ nbp hbr, hD8, ?_, ?_⟩
              · rw [row0, List.length_map, List.length_map]
                exact Nat.le_of_lt (lenLine (by simp; omega))
              rw [← List.map_append]
              refine ⟨_, _, _, _, _, _, rfl, GrM.ext hp0 (kp8 _ _ nLp hL7) (lr7.kp kp8 hp0 fr7) fr7 lt7 gd7 bd7 (hp8.mono ?_) (kp7.trans kp8) hb hrw ?_ ?_ ?_⟩
              · omega
              · intro x hx
                have := mem_rangeI.mp (sub.subset hx)
                omega
              · unfold gBd
                rw [if_neg (by omega), if_pos (by omega), row0, List.nil_append]
                omega
              · intro i' ne'
                unfold gBd
                by_cases c1 : i' < m
                · rw [if_pos c1, if_pos c1, show 1 + (i + 1) = 1 + i + 1 by omega, Nat.mul_succ]
                  omega
                · rw [if_neg c1, if_neg c1]
                  by_cases c2 : i' < m + i
                  · rw [if_pos c2, if_pos (by omega)]
                    exact Nat.le_refl _
                  · rw [if_neg c2]
                    exact Nat.zero_le _
        · rintro σ H5 ⟨y5, y6, y7, y8, y9, y10, rfl, gr5⟩
          obtain ⟨ls7, T7, hL7, lr7, fr7, lt7, gd7, bd7, hp7, kp7⟩ := gr5
          have lls : (ls7.map V.ref).length = m + e := by rw [List.length_map, lr7.len, lt7]
          refine ⟨.ref L, rfl, L, rfl, ⟨_, SqL.of hL7⟩, fun D nD => ?_⟩
          have sD := same_upd (o := .lst []) nD
          refine lc_list (K := K) (a := L) (xs := ls7.map V.ref) (fun i H6 => ∃ (ts : List Addr) (T : List (List Int)), H6 D = some (.lst (ts.map V.ref)) ∧ Rows H6 ts T ∧ T.length = i ∧ (∀ row ∈ T, Good (m + e) row) ∧ Same H5 H6)
            ⟨[], [], upd_same, .nil, rfl, fun row h => (by cases h), sD⟩ (fun i H6 _ h => ?_) ?_ ?_
          · obtain ⟨_, _, _, _, _, _, sm6⟩ := h
            exact SqL.of (sm6 _ _ hL7)
          · rintro i x H6 hx ⟨ts, T, hD6, hR6, lT6, gd6, sm6⟩
            obtain ⟨b, hb, rfl⟩ := ref_at hx
            have il : i < m + e := by
              have := (List.getElem?_eq_some_iff.mp hb).1
              rw [List.length_map] at lls
              omega
            obtain ⟨row, hrw⟩ : ∃ row, T7[i]? = some row := ⟨_, List.getElem?_eq_getElem (by rw [lt7]; exact il)⟩
            have hbr := sm6 _ _ (lr7.at' _ _ _ hb hrw)
            have lrow : row.length ≤ 63 := by
              have := bd7 _ _ hrw
              unfold gBd at this
              split at this
              · omega
              · omega
            have lts : ts.length = i := by rw [Paired.length hR6, lT6]
            refine ⟨rfl, yesI ⟨.ref b, rfl, b, row, rfl, SqL.of hbr, by omega, fun a c na hc => ?_⟩⟩
            refine ⟨a, _, c, rfl, upd_same, by omega, fun ns o asc mem _ no => ⟨o, _, rfl, .inl ⟨SqL.of upd_same, fun t nt => ?_⟩⟩⟩
            have sa := same_upd (o := SetO w a (fun j => decide (j ∈ row)) c) na
            have so := same_upd (o := .lst (ns.map V.int)) no
            have st := same_upd (o := .tup (ns.map V.int)) nt
            have sA := sa.trans (so.trans st)
            have ht : upd (upd (upd H6 a (SetO w a (fun j => decide (j ∈ row)) c)) o (.lst (ns.map V.int))) t (.tup (ns.map V.int)) t = some (.tup (ns.map V.int)) := upd_same
            generalize upd (upd (upd H6 a (SetO w a (fun j => decide (j ∈ row)) c)) o (.lst (ns.map V.int))) t (.tup (ns.map V.int)) = H7 at sA ht ⊢
            have hD7 := sA _ _ hD6
            refine ⟨_, hD7, by rw [List.length_map]; exact lenLine (by omega), ts ++ [t], T ++ [ns], ?_, ?_, ?_, ?_, ?_⟩
            · rw [upd_same, List.map_append]
              rfl
            · exact Rows.kt (paired_append (hR6.same sA) (.cons ht .nil)) (KT.lst hD7)
            · rw [List.length_append, lT6]
              rfl
            · intro row' hr'
              rcases List.mem_append.mp hr' with y | y
              · exact gd6 row' y
              · rw [List.mem_singleton.mp y]
                refine ⟨asc, fun x hx => ?_⟩
                exact gd7 row (List.mem_of_getElem? hrw) x (of_decide_eq_true ((mem x).mp hx))
            · intro b' ob hb'
              rw [upd_ne (ne_of_none hb' nD)]
              exact sA _ _ (sm6 _ _ hb')
          · rintro H6 ⟨ts, T, hD6, hR6, lT6, gd6, sm6⟩
            rw [lls] at lT6
            refine ⟨D, _, rfl, .inl ⟨SqL.of hD6, fun t nt => ?_⟩⟩
            have st := same_upd (o := .tup (ts.map V.ref)) nt
            have hp8 := (hp7.same sm6).same st
            have tbl : Tbl (upd H6 t (.tup (ts.map V.ref))) t T := ⟨ts, upd_same, hR6.same st⟩
            have kp8 : Kp p H _ := kp7.trans (.of (sm6.trans st))
            generalize upd H6 t (.tup (ts.map V.ref)) = H8 at hp8 tbl kp8 ⊢
            refine ⟨.ref p, rfl, .int m, rfl, .int e, rfl, (m : Int), (e : Int), rfl, rfl, p, n + 21 * e, m + e, ?_, hp8, by omega, by omega, fun o ms H9 pm ho hp9 kp9 => ?_⟩
            · rw [show ((m + e : Nat) : Int) = (m : Int) + (e : Int) by omega]
              rfl
            rw [← lT6] at pm
            refine ⟨t, o, T, ms, rfl, tbl.kp kp9 hp8, .inr (SqT.of ho), by omega, pm, fun row hr' => ?_, fun p' T' H' _ sm9 tb' cal => ?_⟩
            · have g := gd6 row hr'
              have := g.len
              rw [lT6]
              exact ⟨by omega, g.2⟩
            · have rl : IsRule T := by
                have m1 : 1 ≤ m := by
                  rw [em]
                  exact Nat.mul_le_mul v1 v1
                refine ⟨by omega, by omega, fun row hr' => ?_⟩
                rw [lT6]
                exact gd6 row hr'
              exact q p' T' H' ((hp9.same sm9).mono (by omega)) (kp8.trans (kp9.trans (.of sm9))) tb' (called_rule rl pm cal) (by rw [cal.1, lT6])
end
end Nm

namespace Nm
open PySem PySem.Spec PyProof.Rows L2 GL
/-! ### stage 2's drawing: any rule, small rules -/
abbrev sAny2 : Stmt := topS 29
abbrev sSmall2 : Stmt := topS 30
theorem scAny2 : FnScope ["_law_pot_here", "_law_most", "_law_way"] ["_law_pot_here", "_law_most"] (defScope sAny2) := ⟨rfl, rfl, rfl, by decide +kernel, rfl, by decide +kernel, by decide +kernel⟩
theorem scSmall2 : FnScope ["_law_pot_here", "_law_way"] ["_law_pot_here"] (defScope sSmall2) := ⟨rfl, rfl, rfl, by decide +kernel, rfl, by decide +kernel, by decide +kernel⟩
section
variable {P : Program} {w : World} {K : PySem.W.Frag} {mg : Str → Option Value} {base : Heap}
/-- a def of the text, by its name -/
def Has (K : PySem.W.Frag) (mg : Str → Option Value) (nm : Str) (s : Stmt) (ps : List Str) : Prop := ∃ (f : Addr) (d : FuncData), Fun K nm nm s f d ∧ Binds K d ps [] ∧ mg nm = some (.ref f)
/-- what stage 2's drawing leans on -/
structure Drw2 (K : PySem.W.Frag) (mg : Str → Option Value) : Prop where
  B : Lib K mg
  int : mg "int" = none
  set : mg "set" = none
  T : Has K mg "_law_take" sTake2 ["_law_pot_here", "_law_many"]
  O : Has K mg "_law_of" sOf2 ["_law_pot_here", "_law_some"]
  S : Has K mg "_law_shuffled" sShuf2 ["_law_pot_here", "_law_many"]
  D : Has K mg "_law_drawn_rule" sDrawn2 ["_law_pot_here", "_law_most"]
  N : Has K mg "_law_named" sNamed2 ["_law_values"]
  R : Has K mg "_law_renamed" sRen2 ["_law_rule", "_law_order"]
  G : Has K mg "_law_grown" sGrown2 ["_law_pot_here", "_law_values", "_law_more"]
  Z : Has K mg "_law_spoilt" sSpoilt2 ["_law_pot_here", "_law_rule"]
def spAny2 (K : PySem.W.Frag) : Sp := fun vs H Q _ => ∃ (p : Addr) (n m : Nat), vs = [.ref p, .int m] ∧ 9 ≤ m ∧ m ≤ 16 ∧ Pot H p n ∧ n + 2000 < 1000000 ∧
  ∀ (o : Addr) (T : List (List Int)) (H' : Hp), Pot H' p (n + 500) → Kp p H H' → Tbl H' o T → IsRule T → T.length ≤ m → Q (.ref o) H'
def spSmall2 (K : PySem.W.Frag) : Sp := fun vs H Q _ => ∃ (p : Addr) (n : Nat), vs = [.ref p] ∧ Pot H p n ∧ n + 2000 < 1000000 ∧
  ∀ (o : Addr) (T : List (List Int)) (H' : Hp), Pot H' p (n + 500) → Kp p H H' → Tbl H' o T → IsRule T → T.length ≤ 6 → Q (.ref o) H'
set_option maxHeartbeats 2000000 in
theorem ok_any2 {f : Addr} {fd : FuncData} {k : Nat} (F : Fun K "_law_any_rule" "_law_any_rule" sAny2 f fd) (D : Drw2 K mg) : FnOk P w K mg base CX0 (k + 4) f fd ["_law_pot_here", "_law_most"] (spAny2 K) := by
  obtain ⟨B, mi, mset, ⟨fT, dT, FT, bT, gT⟩, ⟨fO, dO, FO, bO, gO⟩, ⟨fS, dS, FS, bS, gS⟩, ⟨fD, dD, FD, bD, gD⟩, ⟨fN, dN, FN, bN, gN⟩, ⟨fR, dR, FR, bR, gR⟩, ⟨fG, dG, FG, bG, gG⟩, ⟨fZ, dZ, FZ, bZ, gZ⟩⟩ := D
  have GT : FnOk P w K mg base CX0 (k + 3) fT dT ["_law_pot_here", "_law_many"] (spTake K) := ok_take2 FT
  have GD : FnOk P w K mg base CX0 (k + 3) fD dD ["_law_pot_here", "_law_most"] (spDrawn2 K) := ok_drawn2 FD FT bT gT FO bO gO B
  have GN : FnOk P w K mg base CX0 (k + 3) fN dN ["_law_values"] (spNamed2 K) := ok_named2 FN B
  have GG : FnOk P w K mg base CX0 (k + 3) fG dG ["_law_pot_here", "_law_values", "_law_more"] (spGrown2 K) := ok_grown2 FG FT bT gT FN bN gN FR bR gR FS bS gS B mset
  have GZ : FnOk P w K mg base CX0 (k + 3) fZ dZ ["_law_pot_here", "_law_rule"] (spSpoilt2 K) := ok_spoilt2 FZ FT bT gT B mi
  refine F.ok scAny2 (fun vs H Q E h => ?_) (fun cdv A outer s H vs Q E hr h => ?_)
  · obtain ⟨p, n, m, rfl, _⟩ := h
    rfl
  · obtain ⟨p, n, m, rfl, m9, m16, hp, hn, q⟩ := h
    refine ⟨_, pss_cons (ps_set (i := 2) scAny2.nd rfl (.inl rfl) (pe_call GT hr (by rfl) gT FT.kp bT .nil pass0 (pa_cons (pv 0) (pa_cons pe_int pa_nil))))
      (pss_cons (ps_if (pt_cmpR op_lt (pv 2) pe_int (nomark _)) (pss_one (ps_ret (pe_call GD hr (by rfl) gD FD.kp bD .nil pass0 (pa_cons (pv 0) (pa_cons (pv 1) pa_nil))))) pss_nil)
      (pss_cons (ps_if (pt_cmpR op_eq (pv 2) pe_int (nomark _)) (pss_one (ps_ret (pe_call GG hr (by rfl) gG FG.kp bG .nil pass0 (pa_cons (pv 0) (pa_cons pe_int (pa_cons
          (pe_call GT hr (by rfl) gT FT.kp bT .nil pass0 (pa_cons (pv 0) (pa_cons pe_int pa_nil))) pa_nil)))))) pss_nil)
      (pss_cons (ps_if (pt_cmpR op_eq (pv 2) pe_int (nomark _)) (pss_one (ps_ret (pe_call GG hr (by rfl) gG FG.kp bG .nil pass0 (pa_cons (pv 0) (pa_cons pe_int (pa_cons
          (pe_call GT hr (by rfl) gT FT.kp bT .nil pass0 (pa_cons (pv 0) (pa_cons (pe_op op_sub (pv 1) pe_int) pa_nil))) pa_nil)))))) pss_nil)
      (pss_one (ps_ret (pe_call GZ hr (by rfl) gZ FZ.kp bZ .nil pass0 (pa_cons (pv 0) (pa_cons (pe_ifExp (pt_cmpR op_eq (pv 2) pe_int (nomark _))
          (pe_call GG hr (by rfl) gG FG.kp bG .nil pass0 (pa_cons (pv 0) (pa_cons pe_int (pa_cons (pe_call GT hr (by rfl) gT FT.kp bT .nil pass0 (pa_cons (pv 0) (pa_cons pe_int pa_nil))) pa_nil))))
          (pe_call GN hr (by rfl) gN FN.kp bN .nil pass0 (pa_cons pe_int pa_nil))) pa_nil)))))))), ?_⟩
    refine ⟨.ref p, rfl, p, n, 6, rfl, hp, by omega, by decide, by decide, fun way H1 w0 w1 hp1 kp1 => ?_⟩
    refine ⟨.int way, rfl, way, 2, rfl, rfl, _, rfl, ite2 (fun _ => ?_) (fun _ => ?_)⟩
    · refine ⟨.ref p, rfl, .int m, rfl, p, n + 1, m, rfl, by omega, m16, hp1, by omega, fun o T H' hp' kp' tb rl lt => ?_⟩
      exact q o T H' (hp'.mono (by omega)) (kp1.trans kp') tb rl lt
    refine ⟨.int way, rfl, rfl, _, rfl, ite2 (fun _ => ?_) (fun _ => ?_)⟩
    · refine ⟨.ref p, rfl, .ref p, rfl, p, n + 1, 4, rfl, hp1, by omega, by decide, by decide, fun r H2 r0 r1 hp2 kp2 => ?_⟩
      obtain ⟨e, rfl⟩ : ∃ e : Nat, r = (e : Int) := ⟨r.toNat, by omega⟩
      refine ⟨p, n + 2, 2, e, rfl, by decide, by omega, hp2, by omega, fun o T H' hp' kp' tb rl lt => ?_⟩
      exact q o T H' (hp'.mono (by omega)) (kp1.trans (kp2.trans kp')) tb rl (by omega)
    refine ⟨.int way, rfl, rfl, _, rfl, ite2 (fun _ => ?_) (fun _ => ?_)⟩
    · refine ⟨.ref p, rfl, .ref p, rfl, .int m, rfl, _, _, rfl, rfl, p, n + 1, _, rfl, hp1, by omega, by omega, by omega, fun r H2 r0 r1 hp2 kp2 => ?_⟩
      obtain ⟨e, rfl⟩ : ∃ e : Nat, r = (e : Int) := ⟨r.toNat, by omega⟩
      refine ⟨p, n + 2, 3, e, rfl, by decide, by omega, hp2, by omega, fun o T H' hp' kp' tb rl lt => ?_⟩
      exact q o T H' (hp'.mono (by omega)) (kp1.trans (kp2.trans kp')) tb rl (by omega)
    refine ⟨.ref p, rfl, .int way, rfl, rfl, _, rfl, ite2 (fun _ => ?_) (fun _ => ?_)⟩
    · refine ⟨.ref p, rfl, .ref p, rfl, p, n + 1, 4, rfl, hp1, by omega, by decide, by decide, fun r H2 r0 r1 hp2 kp2 => ?_⟩
      obtain ⟨e, rfl⟩ : ∃ e : Nat, r = (e : Int) := ⟨r.toNat, by omega⟩
      refine ⟨p, n + 2, 2, e, rfl, by decide, by omega, hp2, by omega, fun o T H3 hp3 kp3 tb rl lt => ?_⟩
      refine ⟨p, o, n + 2 + 400, T, rfl, hp3, by omega, tb, rl, fun o' T' H' hp' kp' tb' rl' lt' => ?_⟩
      exact q o' T' H' (hp'.mono (by omega)) (kp1.trans (kp2.trans (kp3.trans kp'))) tb' rl' (by omega)
    · refine ⟨3, rfl, by decide, by decide, fun o H2 s2 tb => ?_⟩
      refine ⟨p, o, n + 1, _, rfl, hp1.same s2, by omega, tb, named_rule (by decide) (by decide), fun o' T' H' hp' kp' tb' rl' lt' => ?_⟩
      refine q o' T' H' (hp'.mono (by omega)) (kp1.trans ((Kp.of s2).trans kp')) tb' rl' ?_
      rw [lt', show (ofPrs (prsTo 3 3)).length = 9 by decide +kernel]
      exact m9
set_option maxHeartbeats 2000000 in
theorem ok_small2 {f : Addr} {fd : FuncData} {k : Nat} (F : Fun K "_law_small_rule" "_law_small_rule" sSmall2 f fd) (D : Drw2 K mg) : FnOk P w K mg base CX0 (k + 4) f fd ["_law_pot_here"] (spSmall2 K) := by
  obtain ⟨B, mi, mset, ⟨fT, dT, FT, bT, gT⟩, ⟨fO, dO, FO, bO, gO⟩, ⟨fS, dS, FS, bS, gS⟩, ⟨fD, dD, FD, bD, gD⟩, ⟨fN, dN, FN, bN, gN⟩, ⟨fR, dR, FR, bR, gR⟩, ⟨fG, dG, FG, bG, gG⟩, ⟨fZ, dZ, FZ, bZ, gZ⟩⟩ := D
  have GT : FnOk P w K mg base CX0 (k + 3) fT dT ["_law_pot_here", "_law_many"] (spTake K) := ok_take2 FT
  have GD : FnOk P w K mg base CX0 (k + 3) fD dD ["_law_pot_here", "_law_most"] (spDrawn2 K) := ok_drawn2 FD FT bT gT FO bO gO B
  have GG : FnOk P w K mg base CX0 (k + 3) fG dG ["_law_pot_here", "_law_values", "_law_more"] (spGrown2 K) := ok_grown2 FG FT bT gT FN bN gN FR bR gR FS bS gS B mset
  have GZ : FnOk P w K mg base CX0 (k + 3) fZ dZ ["_law_pot_here", "_law_rule"] (spSpoilt2 K) := ok_spoilt2 FZ FT bT gT B mi
  refine F.ok scSmall2 (fun vs H Q E h => ?_) (fun cdv A outer s H vs Q E hr h => ?_)
  · obtain ⟨p, n, rfl, _⟩ := h
    rfl
  · obtain ⟨p, n, rfl, hp, hn, q⟩ := h
    refine ⟨_, pss_cons (ps_set (i := 1) scSmall2.nd rfl (.inl rfl) (pe_call GT hr (by rfl) gT FT.kp bT .nil pass0 (pa_cons (pv 0) (pa_cons pe_int pa_nil))))
      (pss_cons (ps_if (pt_cmpR op_eq (pv 1) pe_int (nomark _)) (pss_one (ps_ret (pe_call GG hr (by rfl) gG FG.kp bG .nil pass0 (pa_cons (pv 0) (pa_cons pe_int (pa_cons
          (pe_call GT hr (by rfl) gT FT.kp bT .nil pass0 (pa_cons (pv 0) (pa_cons pe_int pa_nil))) pa_nil)))))) pss_nil)
      (pss_one (ps_ret (pe_ifExp (pt_cmpR op_eq (pv 1) pe_int (nomark _))
        (pe_call GZ hr (by rfl) gZ FZ.kp bZ .nil pass0 (pa_cons (pv 0) (pa_cons
          (pe_call GG hr (by rfl) gG FG.kp bG .nil pass0 (pa_cons (pv 0) (pa_cons pe_int (pa_cons (pe_call GT hr (by rfl) gT FT.kp bT .nil pass0 (pa_cons (pv 0) (pa_cons pe_int pa_nil))) pa_nil)))) pa_nil)))
        (pe_call GD hr (by rfl) gD FD.kp bD .nil pass0 (pa_cons (pv 0) (pa_cons pe_int pa_nil))))))), ?_⟩
    refine ⟨.ref p, rfl, p, n, 4, rfl, hp, by omega, by decide, by decide, fun way H1 w0 w1 hp1 kp1 => ?_⟩
    refine ⟨.int way, rfl, rfl, _, rfl, ite2 (fun _ => ?_) (fun _ => ?_)⟩
    · refine ⟨.ref p, rfl, .ref p, rfl, p, n + 1, 3, rfl, hp1, by omega, by decide, by decide, fun r H2 r0 r1 hp2 kp2 => ?_⟩
      obtain ⟨e, rfl⟩ : ∃ e : Nat, r = (e : Int) := ⟨r.toNat, by omega⟩
      refine ⟨p, n + 2, 2, e, rfl, by decide, by omega, hp2, by omega, fun o T H' hp' kp' tb rl lt => ?_⟩
      exact q o T H' (hp'.mono (by omega)) (kp1.trans (kp2.trans kp')) tb rl (by omega)
    refine ⟨.int way, rfl, rfl, _, rfl, ite2 (fun _ => ?_) (fun _ => ?_)⟩
    · refine ⟨.ref p, rfl, .ref p, rfl, .ref p, rfl, p, n + 1, 2, rfl, hp1, by omega, by decide, by decide, fun r H2 r0 r1 hp2 kp2 => ?_⟩
      obtain ⟨e, rfl⟩ : ∃ e : Nat, r = (e : Int) := ⟨r.toNat, by omega⟩
      refine ⟨p, n + 2, 2, e, rfl, by decide, by omega, hp2, by omega, fun o T H3 hp3 kp3 tb rl lt => ?_⟩
      refine ⟨p, o, n + 2 + 400, T, rfl, hp3, by omega, tb, rl, fun o' T' H' hp' kp' tb' rl' lt' => ?_⟩
      exact q o' T' H' (hp'.mono (by omega)) (kp1.trans (kp2.trans (kp3.trans kp'))) tb' rl' (by omega)
    · refine ⟨.ref p, rfl, p, n + 1, 6, rfl, by decide, by decide, hp1, by omega, fun o T H' hp' kp' tb rl lt => ?_⟩
      exact q o T H' (hp'.mono (by omega)) (kp1.trans kp') tb rl lt
end
end Nm

/-! The end of a law whose defs ask repr: the caller's around has none under way. -/
namespace GL
open PySem PySem.Spec PyProof.Rows L2
theorem endG {P : Program} {w : World} {K : PySem.W.Frag} {mg mb : Str → Option Value} {k : Nat} {fa a : Addr} {fd : FuncData} {x : Str} {sp : Sp} {s1 : Shared}
    {vs : List Value} {ns : List Int} (kin : K.In s1.heap) (gl : s1.heap.Ns mainGlobals mg) (bl : s1.heap.Ns builtinsNs mb)
    (blb : ∀ x : Str, x ≠ "__name__" → mb x = bootBuiltins x) (nol : s1.heap.NoLimit) (gens : s1.gens = #[])
    (obj : s1.heap.get? a = some { cls := .type "list", data := .seq vs.toArray }) (hints0 : IntsAre vs ns) (few : ns.length ≤ sizeLine) (room : Room k callerA)
    (F : ∀ base : Heap, K.In base → base.Ns mainGlobals mg → FnG P w K mg base k fa fd [x] sp)
    (bind : ∀ (s : Shared) (u : Value), BindsTo s fd ⟨[u], []⟩ [(x, u)])
    (wish : ∀ H : Hp, SqL K H a (ns.map V.int) → sp [.ref a] H (fun v _ => v = .bl true) fun _ _ _ => False) :
    codeAny (model P w) callerA (.call (.ref fa) ⟨[.ref a], []⟩)
      (fun r s' => r = .ok (.ret (.bool true)) ∧ OldK s1.heap s'.heap ∧ s'.os = s1.os ∧ AllBare s'.gens) s1 := by
  have rel := vals_ints hints0
  have lens := hints0.length
  have main : ∀ H : Hp, (∀ b, H b = none ∨ (b = a ∧ ∃ o xs, H b = some (.frz o (.lst xs)))) → SqL K H a (ns.map V.int) → HOk P w H s1.heap → (H a ≠ none → K.lookup a = none) →
      codeAny (model P w) callerA (.call (.ref fa) ⟨[.ref a], []⟩)
        (fun r s' => r = .ok (.ret (.bool true)) ∧ OldK s1.heap s'.heap ∧ s'.os = s1.os ∧ AllBare s'.gens) s1 := by
    intro H only sq hok kl
    have noDict : ∀ {b : Addr} {o : Obj} {es : Array DictEntry} {ep : Nat}, s1.heap.get? b = some o → o.data = .dict es ep → H b = none := by
      intro b o es ep e d
      rcases only b with z | ⟨z, _⟩
      · exact z
      · rw [z, obj] at e
        cases e
        have d' : Data.seq vs.toArray _ = Data.dict es ep := d
        cases d'
    have ns' : ∀ {b : Addr} {m : Str → Option Value}, s1.heap.Ns b m → (hidT s1.heap H).Ns b m := by
      rintro b m ⟨o, es, ep, e, d, r⟩
      exact ⟨o, es, ep, hidT_get e (noDict e d), d, r⟩
    have kin' : K.In (hidT s1.heap H) := by
      intro b o e
      refine hidT_get (kin b o e) ?_
      rcases only b with z | ⟨z, o2, xs, y⟩
      · exact z
      · exfalso
        rw [z] at e y
        have n0 := kl (by rw [y]; intro q; cases q)
        rw [n0] at e
        cases e
    have mo : Mod K mg (hidT s1.heap H) := by
      obtain ⟨mc, h1, h2⟩ := nol
      exact ⟨kin', ns' gl, ⟨mb, ns' bl, blb⟩, ⟨mc, ns' h1, h2⟩⟩
    have env : Env0 P w K mg (hidT s1.heap H) callerA [] s1 H :=
      ⟨rfl, mo, fun b o e => of_hidT e, Nat.le_of_eq (hidT_size _ _), trivial, (fun b hb => by cases hb), hok, .of_eq gens⟩
    have go := (F _ kin' (ns' gl)).does callerA [] s1 H ⟨[.ref a], []⟩ [.ref a] [.ref a] _ _ rfl room env (bind s1 (.ref a)) (.cons rfl .nil) (wish H sq)
    refine codeAny_mono go fun r s' h => ?_
    rcases r with e | fl
    · exact h.elim
    · rcases fl with _ | _ | _ | u
      all_goals try exact False.elim h
      obtain ⟨v, H', os, bare, un, hok', r', q⟩ := h
      obtain rfl : v = .bl true := q
      obtain rfl : u = Value.bool true := r'
      refine ⟨rfl, OldK.of_keep fun b o e => ?_, os, bare⟩
      rcases only b with z | ⟨_, o2, xs, z⟩
      · exact un.keep b o e z (fun y => by cases y) (fun y => by cases y)
      · have z2 := un.frzs b o2 _ z
        obtain ⟨e1, _⟩ := hok b _ z
        obtain ⟨e2, _⟩ := hok' b _ z2
        rw [e] at e1
        cases e1
        exact e2
  rcases hk : K.lookup a with _ | o
  · refine main (fun b => if b = a then some (.frz { cls := .type "list", data := .seq vs.toArray } (.lst (ns.map V.int))) else none) (fun b => ?_) (.inl (.inr ⟨_, if_pos rfl⟩)) (fun b u z => ?_) fun _ => hk
    · by_cases e : b = a
      · exact .inr ⟨e, _, _, if_pos e⟩
      · exact .inl (if_neg e)
    · by_cases e : b = a
      · have y := (if_pos e).symm.trans z
        cases y
        subst e
        exact ⟨obj, by rw [List.length_map]; exact few, vs, _, rel, obj⟩
      · have y := (if_neg e).symm.trans z
        cases y
  · have e := kin a o hk
    rw [obj] at e
    cases e
    refine main (fun _ => none) (fun _ => .inl rfl) (.inr ⟨_, vs.toArray, _, hk, rfl, rfl, rfl, ?_, ?_⟩) (fun b u z => by cases z) fun z => absurd rfl z
    · rw [List.size_toArray, lens]
      exact few
    · simpa using rel
theorem walkG {l : PySem.W.OpenLaw} {n k : Nat} {q : Program} {loose : List Str} {XP : (Str → Option Value) → Heap → Prop} {YP : World → Heap → Prop} {d : DefRec}
    {K : Params → PySem.W.Frag} {sp : World → Sp} {x : Str} (hn : l.most = some n) (hn2 : n ≤ sizeLine) (hdf : d.params.defaults = []) (hr : Room k callerA)
    (hY : ∀ (w : World) (h : Heap), YP w h → (K w.params).In h)
    (F : ∀ (w : World) (mg : Str → Option Value) (fa : Addr) (h : Heap), (K w.params).In h → h.Ns mainGlobals mg → mg d.name = some (.ref fa) →
      ∃ fd : FuncData, (∀ (s : Shared) (u : Value), BindsTo s fd ⟨[u], []⟩ [(x, u)]) ∧
        ∀ base : Heap, (K w.params).In base → base.Ns mainGlobals mg → FnG l.prog w (K w.params) mg base k fa fd [x] (sp w))
    (hsp : ∀ (w : World) (H : Hp) (a : Addr) (ns : List Int), ns.length ≤ n → SqL (K w.params) H a (ns.map V.int) → sp w [.ref a] H (fun v _ => v = .bl true) fun _ _ _ => False) :
    PySem.W.WalkO q loose XP YP l.row.toRowW d [] (fun f vs => PySem.call f vs) := by
  apply Att.attach_call hn hdf
  intro w s0 s1 mg mb fa o pm cd doc a vs ns G Y ho hd hcd hmg hobj hints hlen hg
  obtain ⟨fd, hb, hF⟩ := F w mg fa _ (hY w _ Y) G.T.g hmg
  exact endG (hY w _ Y) G.T.g G.T.b G.T.builtins G.T.nolimit hg hobj hints (Nat.le_trans hlen hn2) hr hF hb fun H hS => hsp w H a ns hlen hS
end GL

namespace Nm
open PySem PySem.Spec PyProof.Rows L2 GL
/-! ### what repr shows -/
def rowD (row : List Int) : PyData := .tuple (row.map PyData.int)
def tblD (T : List (List Int)) : PyData := .tuple (T.map rowD)
theorem dpRow {K : PySem.W.Frag} {H : Hp} {a : Addr} {row : List Int} (h : H a = some (.tup (row.map V.int))) : Dp K H (.ref a) (rowD row) := .tup (SqT.of h) (dpInts row)
theorem dpRows {K : PySem.W.Frag} {H : Hp} : ∀ {rs : List Addr} {T : List (List Int)}, Rows H rs T → DpAll K H (rs.map V.ref) (T.map rowD)
  | _, _, .nil => .nil
  | _, _, .cons h r => .cons (dpRow h) (dpRows r)
theorem dpTbl {K : PySem.W.Frag} {H : Hp} {p : Addr} {T : List (List Int)} (h : Tbl H p T) : Dp K H (.ref p) (tblD T) := by
  obtain ⟨rs, e, r⟩ := h
  exact .tup (SqT.of e) (dpRows r)
/-- small: numbers from 0 to 15 -/
def Sm (row : List Int) : Prop := ∀ x ∈ row, 0 ≤ x ∧ x < 16
theorem num_shown {i : Int} (h0 : 0 ≤ i) (h1 : i < 16) : (PyData.shown (.int i)).length ≤ 2 ∧ PyData.showable (.int i) = true := by
  obtain ⟨n, rfl⟩ : ∃ n : Nat, i = n := ⟨i.toNat, by omega⟩
  have all : ∀ n : Fin 16, (PyData.shown (.int (n.val : Int))).length ≤ 2 ∧ PyData.showable (.int (n.val : Int)) = true := by decide +kernel
  exact all ⟨n, by omega⟩
theorem row_piled : ∀ (row : List Int), Sm row → piled (PyData.shownAll (row.map PyData.int)) ≤ 4 * row.length ∧ PyData.showableAll (row.map PyData.int) = true ∧ PyData.hasDictAll (row.map PyData.int) = false
  | [], _ => by simp [PyData.shownAll, PyData.showableAll, PyData.hasDictAll, piled_nil]
  | x :: r, h => by
    have h1 := num_shown (h x List.mem_cons_self).1 (h x List.mem_cons_self).2
    have ih := row_piled r fun y hy => h y (List.mem_cons_of_mem _ hy)
    refine ⟨?_, ?_, ?_⟩
    · rw [List.map_cons, PyData.shownAll, piled_cons, List.length_cons]
      omega
    · simp [PyData.showableAll, h1.2, ih.2.1]
    · simp [PyData.hasDictAll, PyData.hasDict, ih.2.2]
structure Shows (d : PyData) (n : Nat) : Prop where
  ok : d.showable = true
  nd : d.hasDict = false
  len : d.shown.length ≤ n
theorem shows_row {row : List Int} (h : Sm row) : Shows (rowD row) (4 * row.length + 2) := by
  obtain ⟨h1, h2, h3⟩ := row_piled row h
  refine ⟨by simpa [rowD, PyData.showable] using h2, by simpa [rowD, PyData.hasDict] using h3, ?_⟩
  have := fmt_text (PyData.shownAll (row.map PyData.int))
  show (tupleText (PyData.shownAll (row.map PyData.int))).length ≤ _
  omega
theorem rows_piled : ∀ (T : List (List Int)), (∀ row ∈ T, Sm row ∧ row.length ≤ 16) → piled (PyData.shownAll (T.map rowD)) ≤ 70 * T.length ∧ PyData.showableAll (T.map rowD) = true ∧ PyData.hasDictAll (T.map rowD) = false
  | [], _ => by simp [PyData.shownAll, PyData.showableAll, PyData.hasDictAll, piled_nil]
  | row :: T, h => by
    have h0 := h row List.mem_cons_self
    have h1 := shows_row h0.1
    have ih := rows_piled T fun y hy => h y (List.mem_cons_of_mem _ hy)
    have l1 := h1.len
    refine ⟨?_, ?_, ?_⟩
    · rw [List.map_cons, PyData.shownAll, piled_cons, List.length_cons]
      omega
    · simp [PyData.showableAll, h1.ok, ih.2.1]
    · simp [PyData.hasDictAll, h1.nd, ih.2.2]
theorem shows_tbl {T : List (List Int)} (h : ∀ row ∈ T, Sm row ∧ row.length ≤ 16) : Shows (tblD T) (70 * T.length + 2) := by
  obtain ⟨h1, h2, h3⟩ := rows_piled T h
  refine ⟨by simpa [tblD, PyData.showable] using h2, by simpa [tblD, PyData.hasDict] using h3, ?_⟩
  have := fmt_text (PyData.shownAll (T.map rowD))
  show (tupleText (PyData.shownAll (T.map rowD))).length ≤ _
  omega
theorem shows_three {a b c : PyData} {l m n : Nat} (ha : Shows a l) (hb : Shows b m) (hc : Shows c n) : Shows (.tuple [a, b, c]) (l + m + n + 8) := by
  refine ⟨by simp [PyData.showable, PyData.showableAll, ha.ok, hb.ok, hc.ok], by simp [PyData.hasDict, PyData.hasDictAll, ha.nd, hb.nd, hc.nd], ?_⟩
  have h1 := fmt_text (PyData.shownAll [a, b, c])
  have h2 : piled (PyData.shownAll [a, b, c]) = (a.shown.length + 2) + ((b.shown.length + 2) + ((c.shown.length + 2) + 0)) := by
    simp only [PyData.shownAll, piled_cons, piled_nil]
  have e1 := ha.len
  have e2 := hb.len
  have e3 := hc.len
  show (tupleText (PyData.shownAll [a, b, c])).length ≤ _
  omega
theorem depth_row (row : List Int) : (rowD row).depth = 1 := by simp [rowD, PyData.depth, deepInts]
theorem depth_rows : ∀ T : List (List Int), PyData.depthAll (T.map rowD) ≤ 1
  | [] => by simp [PyData.depthAll]
  | row :: T => by
    have := depth_rows T
    rw [List.map_cons, PyData.depthAll, depth_row]
    omega
theorem depth_tbl (T : List (List Int)) : (tblD T).depth ≤ 2 := by
  have := depth_rows T
  rw [tblD, PyData.depth]
  omega
theorem lineBig {n : Nat} (h : n ≤ 100000) : n ≤ sizeLine := Nat.le_trans h (by decide)
theorem good_sm {n : Nat} {row : List Int} (h : Good n row) (hn : n ≤ 16) : Sm row ∧ row.length ≤ 16 := by
  have := h.len
  exact ⟨fun x hx => ⟨(h.2 x hx).1, by have := (h.2 x hx).2; omega⟩, by omega⟩
theorem rule_sm {T : List (List Int)} (r : IsRule T) : ∀ row ∈ T, Sm row ∧ row.length ≤ 16 := fun row h => good_sm (r.2.2 row h) r.2.1
/-- repr of a table -/
structure ShT (T : List (List Int)) : Prop where
  a : (tblD T).showable = true
  b : (tblD T).hasDict = false
  c : (tblD T).depth ≤ 20
  d : (tblD T).shown.length ≤ sizeLine
theorem shT {T : List (List Int)} (r : IsRule T) : ShT T := by
  have s := shows_tbl (rule_sm r)
  have dt := depth_tbl T
  have l := s.len
  have := r.2.1
  exact ⟨s.ok, s.nd, by omega, lineBig (by omega)⟩
end Nm

namespace GL
open PySem PySem.Spec PyProof.Rows L2
/-! ### data of any kind, heaps that grow -/
mutual
theorem dpS {K : PySem.W.Frag} {H H' : Hp} (s : Same H H') : ∀ (d : PyData) (v : V), Dp K H v d → Dp K H' v d
  | .none, _, h => by cases h; exact .non
  | .bool _, _, h => by cases h; exact .bl _
  | .int _, _, h => by cases h; exact .int _
  | .str _, _, h => by cases h; exact .str _
  | .list ds, _, h => by
    cases h with
    | lst hs ha => exact .lst (s.seq hs) (dpSA s ds _ ha)
  | .tuple ds, _, h => by
    cases h with
    | tup hs ha => exact .tup (Nm.Same.seqT s hs) (dpSA s ds _ ha)
  | .dict _, _, h => by cases h
theorem dpSA {K : PySem.W.Frag} {H H' : Hp} (s : Same H H') : ∀ (ds : List PyData) (vs : List V), DpAll K H vs ds → DpAll K H' vs ds
  | [], _, h => by cases h; exact .nil
  | d :: ds, _, h => by
    cases h with
    | cons h1 h2 => exact .cons (dpS s d _ h1) (dpSA s ds _ h2)
end
theorem DpAll.len {K : PySem.W.Frag} {H : Hp} : ∀ {vs : List V} {ds : List PyData}, DpAll K H vs ds → vs.length = ds.length
  | _, _, .nil => rfl
  | _, _, .cons _ t => by
    have := DpAll.len t
    simp [this]
theorem DpAll.at {K : PySem.W.Frag} {H : Hp} : ∀ {vs : List V} {ds : List PyData} {i : Nat} {v : V}, DpAll K H vs ds → vs[i]? = some v → ∃ d, ds[i]? = some d ∧ Dp K H v d
  | _, _, i, _, .nil, h => by simp at h
  | _, _, 0, _, .cons a t, h => by
    cases h
    exact ⟨_, rfl, a⟩
  | _, _, i + 1, _, .cons a t, h => DpAll.at (i := i) t (by simpa using h)
theorem DpAll.app {K : PySem.W.Frag} {H : Hp} : ∀ {vs ws : List V} {ds es : List PyData}, DpAll K H vs ds → DpAll K H ws es → DpAll K H (vs ++ ws) (ds ++ es)
  | _, _, _, _, .nil, h => h
  | _, _, _, _, .cons a t, h => .cons a (DpAll.app t h)
theorem DpAll.take {K : PySem.W.Frag} {H : Hp} : ∀ {vs : List V} {ds : List PyData} (n : Nat), DpAll K H vs ds → DpAll K H (vs.take n) (ds.take n)
  | _, _, 0, _ => by rw [List.take_zero, List.take_zero]; exact .nil
  | _, _, n + 1, .nil => .nil
  | _, _, n + 1, .cons a t => .cons a (DpAll.take n t)
theorem DpAll.drop {K : PySem.W.Frag} {H : Hp} : ∀ {vs : List V} {ds : List PyData} (n : Nat), DpAll K H vs ds → DpAll K H (vs.drop n) (ds.drop n)
  | _, _, 0, h => h
  | _, _, n + 1, .nil => .nil
  | _, _, n + 1, .cons a t => DpAll.drop n t
theorem DpAll.rev {K : PySem.W.Frag} {H : Hp} : ∀ {vs : List V} {ds : List PyData}, DpAll K H vs ds → DpAll K H vs.reverse ds.reverse
  | _, _, .nil => .nil
  | _, _, .cons a t => by
    rw [List.reverse_cons, List.reverse_cons]
    exact DpAll.app (DpAll.rev t) (.cons a .nil)
/-- a heap without the place p -/
def rm (H : Hp) (p : Addr) : Hp := fun a => if a = p then none else H a
theorem rm_sub {H : Hp} {p : Addr} : Same (rm H p) H := fun b o h => by
  unfold rm at h
  split at h
  · cases h
  · exact h
theorem rm_of {H : Hp} {p a : Addr} {o : HO} (n : a ≠ p) (h : H a = some o) : rm H p a = some o := by
  unfold rm
  rw [if_neg n]
  exact h
theorem rm_kp {H H' : Hp} {p : Addr} (k : Nm.Kp p H H') : Same (rm H p) (rm H' p) := fun b o h => by
  unfold rm at h
  split at h
  · cases h
  · exact rm_of ‹_› (k _ _ ‹_› h)
/-- what of H' was not there in H -/
def nw (H H' : Hp) : Hp := fun a => if (H a).isNone = true then H' a else none
theorem nw_sub {H H' : Hp} : Same (nw H H') H' := fun b o h => by
  unfold nw at h
  split at h
  · exact h
  · cases h
theorem nw_of {H H' : Hp} {a : Addr} {o : HO} (n : H a = none) (h : H' a = some o) : nw H H' a = some o := by
  unfold nw
  rw [n]
  exact h
theorem nw_grow {H H1 H2 : Hp} (s : Same H1 H2) : Same (nw H H1) (nw H H2) := fun b o h => by
  unfold nw at h
  split at h
  · unfold nw
    rw [if_pos ‹_›]
    exact s _ _ h
  · cases h
theorem none_back {H H1 : Hp} (s : Same H H1) {a : Addr} (h : H1 a = none) : H a = none := by
  rcases e : H a with _ | o
  · rfl
  · rw [s _ _ e] at h
    cases h
theorem nw_back {H H1 H2 : Hp} (s : Same H H1) : Same (nw H1 H2) (nw H H2) := fun b o h => by
  unfold nw at h
  split at h
  · have e : H1 b = none := by
      rcases e : H1 b with _ | o
      · rfl
      · rename_i z
        rw [e] at z
        cases z
    exact nw_of (none_back s e) h
  · cases h
theorem nw_rm {H H' : Hp} {p : Addr} {o : HO} (h : H p = some o) : Same (nw H H') (rm H' p) := fun b u e => by
  unfold nw at e
  split at e
  · refine rm_of (fun z => ?_) e
    rename_i y
    rw [z, h] at y
    cases y
  · cases e
/-! ### displays that are data -/
section
variable {X : Cx}
def tLit (K : PySem.W.Frag) (d : PyData) : TE := fun _ H Q => ∀ (v : V) (H' : Hp), Same H H' → Dp K (nw H H') v d → Q v H'
def tLits (K : PySem.W.Frag) (ds : List PyData) : TA := fun _ H Q => ∀ (vs : List V) (H' : Hp), Same H H' → DpAll K (nw H H') vs ds → Q vs H'
theorem PE.weak {e : Expr} {t t' : TE} (h : PE X e t) (i : ∀ σ H Q, t' σ H Q → t σ H Q) : PE X e t' := ⟨fun pins s σ H Q I q => h.run pins s σ H Q I (i _ _ _ q)⟩
theorem PA.weak {es : List Expr} {t t' : TA} (h : PA X es t) (i : ∀ σ H Q, t' σ H Q → t σ H Q) : PA X es t' := ⟨fun pos pins s σ H Q I q => h.run pos pins s σ H Q I (i _ _ _ q)⟩
variable {K : PySem.W.Frag}
theorem lt_non {k : Nat} {pos : Pos} : PE X (.Constant .none k pos) (tLit K .none) := PE.weak pe_non fun _ H Q q => q _ H (Same.refl _) .non
theorem lt_bl {k : Nat} {pos : Pos} {b : Bool} : PE X (.Constant (.bool b) k pos) (tLit K (.bool b)) := PE.weak pe_bl fun _ H Q q => q _ H (Same.refl _) (.bl b)
theorem lt_int {k : Nat} {pos : Pos} {i : Int} : PE X (.Constant (.int i) k pos) (tLit K (.int i)) := PE.weak pe_int fun _ H Q q => q _ H (Same.refl _) (.int i)
theorem lt_neg {k : Nat} {p1 pos : Pos} {i : Int} : PE X (.UnaryOp .USub (.Constant (.int i) k p1) pos) (tLit K (.int (-i))) := PE.weak (pe_un un_neg pe_int) fun _ H Q q => ⟨_, rfl, q _ H (Same.refl _) (.int (-i))⟩
theorem lt_str {k : Nat} {pos : Pos} {x : Str} : PE X (.Constant (.str x) k pos) (tLit K (.str x)) := PE.weak pe_str fun _ H Q q => q _ H (Same.refl _) (.str x)
theorem lts_nil : PA X [] (tLits K []) := PA.weak pa_nil fun _ H Q q => q _ H (Same.refl _) .nil
theorem lts_cons {e : Expr} {es : List Expr} {d : PyData} {ds : List PyData} (h : PE X e (tLit K d)) (r : PA X es (tLits K ds)) (hs : starEach (e :: es) X.env = (false, eval e X.env) :: starEach es X.env := by rfl) : PA X (e :: es) (tLits K (d :: ds)) :=
  PA.weak (pa_cons h r hs) fun _ H Q q v H1 s1 d1 vs H2 s2 d2 => q (v :: vs) H2 (s1.trans s2) (.cons (dpS (nw_grow s2) _ _ d1) (dpSA (nw_back s1) _ _ d2))
theorem lt_tup {es : List Expr} {j : Nat} {pos : Pos} {ds : List PyData} (h : PA X es (tLits K ds)) (hz : ds.length ≤ 1000 := by decide) : PE X (.Tuple es j pos) (tLit K (.tuple ds)) :=
  PE.weak (pe_tup h) fun _ H Q q vs H1 s1 d1 => by
    have l := DpAll.len d1
    refine ⟨Nat.le_trans (by omega : vs.length ≤ 1000) (by decide), fun t nt => q _ _ (s1.trans (Nm.same_upd nt)) (.tup (SqT.of (nw_of (none_back s1 nt) upd_same)) (dpSA (nw_grow (Nm.same_upd nt)) _ _ d1))⟩
theorem lt_lst {es : List Expr} {pos : Pos} {ds : List PyData} (h : PA X es (tLits K ds)) (hz : ds.length ≤ 1000 := by decide) : PE X (.List es pos) (tLit K (.list ds)) :=
  PE.weak (pe_lst h) fun _ H Q q vs H1 s1 d1 => by
    have l := DpAll.len d1
    refine ⟨Nat.le_trans (by omega : vs.length ≤ 1000) (by decide), fun t nt => q _ _ (s1.trans (Nm.same_upd nt)) (.lst (SqL.of (nw_of (none_back s1 nt) upd_same)) (dpSA (nw_grow (Nm.same_upd nt)) _ _ d1))⟩
end
/-! ### repr of data of any kind, and of {} -/
section
variable {X : Cx}
theorem reprA {K : PySem.W.Frag} (gu : X.A.guards = some []) (hu : X.A.units + 64 < cLine) (hK : X.K = K := by rfl) :
    CallR X (.builtin "repr") (fun xs H Q => ∃ v d, xs = [v] ∧ Dp K H v d ∧ d.showable = true ∧ d.hasDict = false ∧ d.depth ≤ 20 ∧ d.shown.length ≤ sizeLine ∧ Q (.str d.shown) H) := by
  subst hK
  intro pins s σ H xs us Q I r h
  obtain ⟨v, d, rfl, dp, sh, nd, de, sz, q⟩ := h
  obtain ⟨u, rfl, ru⟩ := vals1 r
  obtain ⟨as, rd⟩ := Dp.reads I d v u dp ru
  have go : ∀ (a : Addr), u = .ref a → wpAny (model X.prog X.w) X.A (call (.builtin "repr") [u]) (EP X pins σ Q) X.xe s := fun a e => by
    subst e
    refine repr_of_reads' (h₀ := s.heap) rd sh (PyData.noDict_hsm nd) gu (by omega) (fun _ _ z => z) ?_ sz
    intro h' u tk kp
    exact ⟨.str _, H, I.kept kp, ⟨_, rfl⟩, q⟩
  cases dp with
  | non =>
    cases (show u = Value.none from ru)
    exact PySem.P.repr_of_none ⟨.str _, H, I.tok _, ⟨_, rfl⟩, q⟩
  | bl b =>
    cases (show u = Value.bool b from ru)
    exact PySem.P.repr_of_bool ⟨.str _, H, I.tok _, ⟨_, rfl⟩, by cases b <;> exact q⟩
  | int i =>
    obtain ⟨t, rfl⟩ := ru
    exact PySem.P.repr_of_int (by simpa [PyData.showable] using sh) ⟨.str _, H, I.tok _, ⟨_, rfl⟩, q⟩
  | str x =>
    obtain ⟨t, rfl⟩ := ru
    exact PySem.P.repr_of_str ⟨.str _, H, I.tok _, ⟨_, rfl⟩, q⟩ sz
  | lst hs ha => exact go _ ru
  | tup hs ha => exact go _ ru
theorem reprD {K : PySem.W.Frag} (gu : X.A.guards = some []) (hu : X.A.units + 64 < cLine) (hK : X.K = K := by rfl) :
    CallR X (.builtin "repr") (fun xs H Q => ∃ a, xs = [.ref a] ∧ H a = some (.dK []) ∧ Q (.str (PyData.dict []).shown) H) := by
  subst hK
  intro pins s σ H xs us Q I r h
  obtain ⟨a, rfl, ha, q⟩ := h
  obtain ⟨u, rfl, rfl⟩ := vals1 r
  obtain ⟨_, sy, vs, kv, o, es, ep, h1, h2, h3, _, h4, _⟩ := I.hok a _ ha
  cases kv
  have he : es.toList = [] := by
    cases e : es.toList with
    | nil => rfl
    | cons x r =>
      rw [e] at h4
      cases h4
  have rd : Reads s.heap (.ref a) (.dict []) [a] := Reads.dict (as := []) (bs := []) h1 h2.1 h3 (by rw [he]; exact .nil) (by rw [he]; exact .nil)
  refine repr_of_reads' (h₀ := s.heap) rd rfl (fun _ z => ?_) gu (by simp [PyData.depth, PyData.depthKv]; omega) (fun _ _ z => z) ?_ (by decide +kernel)
  · rw [List.mem_singleton.mp z] at sy
    simp at sy
  intro h' u tk kp
  exact ⟨.str _, H, I.kept kp, ⟨_, rfl⟩, q⟩
/-! ### t[::-1] -/
def tRevT (K : PySem.W.Frag) (te : TE) : TE := fun σ H Q => te σ H fun x H1 => ∃ a xs, x = .ref a ∧ SqT K H1 a xs ∧ ∀ p, H1 p = none → Q (.ref p) (upd H1 p (.tup xs.reverse))
theorem pick_back (xs : Array Value) : ((List.range xs.size).filterMap fun (k : Nat) => xs[(((xs.size : Int) - 1) + (k : Int) * (-1)).toNat]?).toArray = xs.toList.reverse.toArray := by
  have e : (List.range xs.size).filterMap (fun (k : Nat) => xs[(((xs.size : Int) - 1) + (k : Int) * (-1)).toNat]?) = ((List.range xs.size).map fun k => xs.size - 1 - k).filterMap (xs[·]?) := by
    rw [List.filterMap_map]
    have aux : ∀ (l : List Nat) (f g : Nat → Option Value), (∀ k ∈ l, f k = g k) → l.filterMap f = l.filterMap g := fun l f g => by
      induction l with
      | nil => intro _; rfl
      | cons a l ih =>
        intro h
        rw [List.filterMap_cons, List.filterMap_cons, h a List.mem_cons_self, ih fun k hk => h k (List.mem_cons_of_mem _ hk)]
    refine aux _ _ _ fun k hk => ?_
    have hl := List.mem_range.mp hk
    have : (((xs.size : Int) - 1) + (k : Int) * (-1)).toNat = xs.size - 1 - k := by omega
    show xs[(((xs.size : Int) - 1) + (k : Int) * (-1)).toNat]? = xs[xs.size - 1 - k]?
    rw [this]
  rw [e, PySem.W.krv_range, List.filterMap_reverse, PySem.W.krv_all]
section
variable {prog : Program} {w : World} {A : Around} {E : Value → Shared → Prop} {s : Shared}
theorem sliceApplied_back {sl : Addr} {vl vu vs : Value} {n : Nat} {Q : Int × Int × Nat → Shared → Prop} (hs : s.heap.IsSliceOf sl vl vu vs) (pl : IsPart vl none) (pu : IsPart vu none) (ps : IsPart vs (some (-1)))
    (h : Q ((n : Int) - 1, -1, n) s) : wpAny (model prog w) A (Builtin.Slice.sliceApplied (.ref sl) (pure (n : Int))) Q E s := by
  obtain ⟨os, hos, hcs, hds⟩ := id hs
  unfold Builtin.Slice.sliceApplied Builtin.Slice.sliceFields
  refine wpAny_bind (wpAny_bind (wpAny_field hos hds (x := vl) rfl (wpAny_bind (wpAny_field hos hds (x := vu) rfl (wpAny_bind (wpAny_field hos hds (x := vs) rfl (wpAny_pure ?_)))))))
  refine wpAny_bind (HT.slicePart_ ps ?_)
  show wpAny _ _ (if ((-1 : Int) == 0) = true then _ else _) _ _ s
  rw [if_neg (by decide)]
  refine wpAny_bind (HT.slicePart_ pl (wpAny_bind (HT.slicePart_ pu (wpAny_bind (wpAny_pure ?_)))))
  have e : Builtin.Slice.slicePlaces ((n : Int) - 1) (-1) (-1) = n := by
    unfold Builtin.Slice.slicePlaces
    have h1 : ¬ ((-1 : Int) > 0) := by decide
    simp only [h1, if_false]
    split
    · rw [show (- -1 : Int) = 1 by decide, Int.ediv_one]
      omega
    · omega
  show wpAny _ _ (pure ((n : Int) - 1, (-1 : Int), Builtin.Slice.slicePlaces ((n : Int) - 1) (-1) (-1))) _ _ s
  rw [e]
  exact wpAny_pure h
theorem getItem_tuple_back {t sl : Addr} {items : Array Value} {vl vu vs : Value} {Q : Value → Shared → Prop} (ht : IsTup s.heap t items) (hs : s.heap.IsSliceOf sl vl vu vs) (pl : IsPart vl none) (pu : IsPart vu none) (ps : IsPart vs (some (-1)))
    (h : Q (.ref s.heap.objs.size) { s with heap := s.heap.push { cls := .type "tuple", data := .seq items.toList.reverse.toArray } })
    (hsz : items.size ≤ sizeLine) : wpAny (model prog w) A (getItem (.ref t) (.ref sl)) Q E s := by
  have htake : sizeOk (.seq items.toList.reverse.toArray) := by
    show items.toList.reverse.toArray.size ≤ sizeLine
    rw [List.size_toArray, List.length_reverse, Array.length_toList]
    exact hsz
  obtain ⟨os, hos, hcs, hds⟩ := id hs
  have hTs : s.TypeIs (.ref sl) "slice" := ⟨os, hos, hcs⟩
  unfold getItem
  try with_reducible refine wpAny_holding ?_
  first | refine wpAny_bind (wpAny_pure ?_) | skip
  refine wpAny_bind (wpAny_sequenceKey ht.typeIs (by decide) ?_)
  refine wpAny_bind (wpAny_callSpecial?_slot (name := Str.ofString "__getitem__") ht.typeIs PyProof.Rows.slot_tuple_getitem
    (wpAny_call_entry PyProof.Rows.slot_tuple_getitem ht.typeIs entry_tuple_getitem ?_ (args_tuple_getitem _ _)))
  show wpAny _ _ (Builtin.Tuple.tupleItemsOf (.ref t) >>= _) _ _ s
  refine wpAny_bind (tupleItemsOf_ ht ?_)
  refine wpAny_bind (wpAny_typeOf hTs ?_)
  rw [if_pos (by decide)]
  refine wpAny_bind (sliceApplied_back hs pl pu ps ?_)
  have hno : ¬ ((((items.size : Int) - 1) == 0 && (-1 : Int) == 1 && items.size == items.size) = true) := by simp
  show wpAny _ _ (if (((items.size : Int) - 1) == 0 && (-1 : Int) == 1 && items.size == items.size) = true then _ else _) _ _ s
  rw [if_neg hno, pick_back]
  first
    | exact wpAny_bind (m := Builtin.Tuple.tupleExact _) (wpAny_newObj_type (wpAny_pure ⟨_, rfl, wpAny_pure h⟩) htake)
    | exact wpAny_bind (m := Builtin.Tuple.tupleExact _) (wpAny_newObj_type (wpAny_bind (wpAny_pure (wpAny_pure ⟨_, rfl, wpAny_pure h⟩))) htake)
    | exact wpAny_bind (wpAny_bind (m := Builtin.Tuple.tupleExact _) (wpAny_newObj_type (wpAny_pure (wpAny_pure ⟨_, rfl, wpAny_pure h⟩)) htake))
    | exact wpAny_bind (wpAny_bind (m := Builtin.Tuple.tupleExact _) (wpAny_newObj_type (wpAny_pure ⟨_, rfl, wpAny_pure h⟩) htake))
end
theorem pe_revT {K : PySem.W.Frag} {e : Expr} {te : TE} {k : Nat} {p1 p2 p3 pos : Pos} (he : PE X e te) (hK : X.K = K := by rfl) : PE X (.Subscript e (.Slice none none (some (.UnaryOp .USub (.Constant (.int 1) k p1) p2)) p3) pos) (tRevT K te) := by
  subst hK
  refine ⟨fun pins s σ H Q I h => ?_⟩
  refine Subscript_ (thn (he.run pins s σ H _ I h) fun v s1 ⟨x, H1, I1, r1, q1⟩ => ?_)
  obtain ⟨a, xs, ex, hx, q⟩ := q1
  subst ex
  cases r1
  have hst : PO X (some (.UnaryOp .USub (.Constant (.int 1) k p1) p2)) (tPart (tUn (rU fun i => .int (-i)) (tC (.int 1)))) := po_some (pe_un un_neg pe_int)
  refine wpAny_Slice (thn (po_none.run pins s1 σ H1 (fun o H2 => o = none ∧ H2 = H1) I1 ⟨rfl, rfl⟩) fun vl s2 ⟨l, H2, I2, pl, el, e2⟩ => ?_)
  subst el e2
  refine thn (po_none.run pins s2 σ H2 (fun o H3 => o = none ∧ H3 = H2) I2 ⟨rfl, rfl⟩) fun vu s3 ⟨u, H3, I3, pu, eu, e3⟩ => ?_
  subst eu e3
  refine thn (hst.run pins s3 σ H3 (fun o H4 => o = some (-1) ∧ H4 = H3) I3 ⟨1, rfl, -1, rfl, rfl, rfl⟩) fun vs s4 ⟨o, H4, I4, ps, eo, e4⟩ => ?_
  subst eo e4
  have I5 : Inv X pins σ H4 { s4 with heap := s4.heap.push { cls := .type "slice", data := .fields #[vl, vu, vs] } } := I4.kept (t' := s4.toks) fun b ob q => Heap.get?_push_of_some _ q
  obtain ⟨its, r, ht, hz⟩ := I5.tuple hx
  have hlen := r.length
  show wpAny (model X.prog X.w) X.A (subscriptTail e (.Slice none none (some (.UnaryOp .USub (.Constant (.int 1) k p1) p2)) p3) (.ref a) (.ref s4.heap.objs.size)) (EP X pins σ Q) X.xe { s4 with heap := s4.heap.push { cls := .type "slice", data := .fields #[vl, vu, vs] } }
  refine tail_any (ops := [.ref a, .ref s4.heap.objs.size]) ht.typeIs (PyProof.Rows.slot_tuple_getitem.lookup) ?_ (by with_unfolding_all rfl)
  refine getItem_tuple_back ht (Heap.IsSliceOf.new _ vl vu vs) pl pu ps ?_ (by rw [List.size_toArray]; omega)
  refine ⟨.ref _, _, I5.laid (t' := s4.toks) (o := .tup xs.reverse) (fun b ob q => Heap.get?_push_of_some _ q) (Nat.le_refl _) ?_, rfl, q _ (I5.hok.fresh (Nat.le_refl _))⟩
  exact ⟨by rw [List.length_reverse]; exact hz, its.reverse, r.reverse, by have z := IsTup.new (s4.heap.push { cls := .type "slice", data := .fields #[vl, vu, vs] }) its.reverse.toArray; simpa using z⟩
/-! ### set(t), t a tuple of ints -/
theorem setTI {K : PySem.W.Frag} (hc : X.calm = true) (hK : X.K = K := by rfl) : CallR X (.type "set") (fun xs H Q => ∃ (l : Addr) (ns : List Int), xs = [V.ref l] ∧ SqT K H l (ns.map V.int) ∧ ns.length < 1000 ∧
    ∀ (a : Addr) (c : Nat), H a = none → c ≤ ns.length → Q (.ref a) (upd H a (SetO X.w a (fun j => decide (j ∈ ns)) c))) := by
  subst hK
  intro pins s σ H xs us Q I r h
  obtain ⟨l, ns, rfl, hl, hz, q⟩ := h
  rw [Vals.ref1 r]
  obtain ⟨its, rv, tp, _⟩ := I.tuple hl
  refine call_set_tupI (P := X.prog) (w := X.w) ns (I.ok.hd hc) tp (by simpa using intsAre_of rv) (Nat.lt_of_le_of_lt (by omega : ns.length + 1 ≤ 1001) (by decide)) fun h' tk c R hc' kp => ?_
  exact ⟨.ref s.heap.objs.size, _, I.laid (t' := tk) kp (Nat.le_refl _) (setO_new R), rfl, q _ c (I.hok.fresh (Nat.le_refl _)) hc'⟩
end
end GL
namespace Nm
open PySem PySem.Spec PyProof.Rows L2 GL
/-! ### small data -/
def Fit : Nat → PyData → Prop
  | _, .none => True
  | _, .bool _ => True
  | _, .int i => -100 < i ∧ i < 100
  | _, .str x => (PyData.str x).shown.length ≤ 20
  | n + 1, .tuple ds => ds.length ≤ 40 ∧ ∀ x ∈ ds, Fit n x
  | n + 1, .list ds => ds.length ≤ 40 ∧ ∀ x ∈ ds, Fit n x
  | _, _ => False
def big : Nat → Nat
  | 0 => 20
  | n + 1 => 40 * (big n + 2) + 3
structure Fine (d : PyData) (n b : Nat) : Prop where
  ok : d.showable = true
  nd : d.hasDict = false
  dp : d.depth ≤ n
  len : d.shown.length ≤ b
theorem int_fine {i : Int} (h : -100 < i ∧ i < 100) : (PyData.shown (.int i)).length ≤ 20 ∧ PyData.showable (.int i) = true := by
  have all : ∀ n : Fin 200, (PyData.shown (.int ((n.val : Int) - 100))).length ≤ 20 ∧ PyData.showable (.int ((n.val : Int) - 100)) = true := by decide +kernel
  have z := all ⟨(i + 100).toNat, by omega⟩
  rw [show (((i + 100).toNat : Nat) : Int) - 100 = i by omega] at z
  exact z
theorem all_fine {n b : Nat} : ∀ ds : List PyData, (∀ x ∈ ds, Fine x n b) → PyData.showableAll ds = true ∧ PyData.hasDictAll ds = false ∧ PyData.depthAll ds ≤ n ∧ piled (PyData.shownAll ds) ≤ (b + 2) * ds.length
  | [], _ => by simp [PyData.shownAll, PyData.showableAll, PyData.hasDictAll, piled_nil, PyData.depthAll]
  | x :: ds, h => by
    have h0 := h x List.mem_cons_self
    have ih := all_fine ds fun y hy => h y (List.mem_cons_of_mem _ hy)
    have l0 := h0.len
    have d0 := h0.dp
    refine ⟨by simp [PyData.showableAll, h0.ok, ih.1], by simp [PyData.hasDictAll, h0.nd, ih.2.1], ?_, ?_⟩
    · rw [PyData.depthAll]
      have := ih.2.2.1
      omega
    · rw [PyData.shownAll, piled_cons, List.length_cons, Nat.mul_succ]
      have := ih.2.2.2
      omega
theorem from_len : ∀ (ts : List Str) (k : Nat) (acc : Str), (textFrom k acc ts).length ≤ acc.length + piled ts
  | [], k, acc => Nat.le_add_right _ _
  | t :: ts, k, acc => by
    have ih := from_len ts (k + 1) (acc ++ (if k > 0 then ", " else "" : String) ++ t)
    have e : (((if k > 0 then ", " else "" : String) : Str)).length ≤ 2 := by split <;> decide +kernel
    rw [strLen_append, strLen_append] at ih
    rw [piled_cons]
    show (textFrom (k + 1) (acc ++ (if k > 0 then ", " else "" : String) ++ t) ts).length ≤ _
    omega
theorem list_len (ts : List Str) : (listText ts).length ≤ piled ts + 2 := by
  have h := from_len ts 0 "["
  have e1 : ((("[" : String) : Str)).length = 1 := rfl
  have e2 : ((("]" : String) : Str)).length = 1 := rfl
  unfold listText
  rw [strLen_append]
  omega
theorem big_mono : ∀ n, 20 ≤ big n
  | 0 => Nat.le_refl _
  | n + 1 => by
    have := big_mono n
    show 20 ≤ 40 * (big n + 2) + 3
    omega
theorem fit_fine : ∀ (n : Nat) (d : PyData), Fit n d → Fine d n (big n)
  | n, .none, _ => ⟨rfl, rfl, Nat.zero_le _, Nat.le_trans (by decide +kernel) (big_mono n)⟩
  | n, .bool b, _ => ⟨rfl, rfl, Nat.zero_le _, Nat.le_trans (by cases b <;> decide +kernel) (big_mono n)⟩
  | n, .int i, h => by
    unfold Fit at h
    have z := int_fine h
    exact ⟨z.2, rfl, Nat.zero_le _, Nat.le_trans z.1 (big_mono n)⟩
  | n, .str x, h => by
    unfold Fit at h
    exact ⟨rfl, rfl, Nat.zero_le _, Nat.le_trans h (big_mono n)⟩
  | 0, .tuple ds, h => by
    unfold Fit at h
    exact h.elim
  | 0, .list ds, h => by
    unfold Fit at h
    exact h.elim
  | n + 1, .tuple ds, h => by
    unfold Fit at h
    have z := all_fine ds fun x hx => fit_fine n x (h.2 x hx)
    refine ⟨by simpa [PyData.showable] using z.1, by simpa [PyData.hasDict] using z.2.1, by have := z.2.2.1; rw [PyData.depth]; omega, ?_⟩
    have y := fmt_text (PyData.shownAll ds)
    have m : (big n + 2) * ds.length ≤ (big n + 2) * 40 := Nat.mul_le_mul_left _ h.1
    show (tupleText (PyData.shownAll ds)).length ≤ 40 * (big n + 2) + 3
    have := z.2.2.2
    omega
  | n + 1, .list ds, h => by
    unfold Fit at h
    have z := all_fine ds fun x hx => fit_fine n x (h.2 x hx)
    refine ⟨by simpa [PyData.showable] using z.1, by simpa [PyData.hasDict] using z.2.1, by have := z.2.2.1; rw [PyData.depth]; omega, ?_⟩
    have y := list_len (PyData.shownAll ds)
    have m : (big n + 2) * ds.length ≤ (big n + 2) * 40 := Nat.mul_le_mul_left _ h.1
    show (listText (PyData.shownAll ds)).length ≤ 40 * (big n + 2) + 3
    have := z.2.2.2
    omega
  | 0, .dict _, h => by
    unfold Fit at h
    exact h.elim
  | n + 1, .dict _, h => by
    unfold Fit at h
    exact h.elim
structure ShA (d : PyData) : Prop where
  a : d.showable = true
  b : d.hasDict = false
  c : d.depth ≤ 20
  d : d.shown.length ≤ sizeLine
theorem shA {d : PyData} (h : Fit 3 d) : ShA d := by
  have z := fit_fine 3 d h
  exact ⟨z.ok, z.nd, by have := z.dp; omega, Nat.le_trans z.len (by decide)⟩
/-! ### the type of data -/
def tyN : PyData → String
  | .none => "NoneType"
  | .bool _ => "bool"
  | .int _ => "int"
  | .str _ => "str"
  | .list _ => "list"
  | .tuple _ => "tuple"
  | .dict _ => "dict"
theorem tyD {K : PySem.W.Frag} {H : Hp} {v : V} {d : PyData} (h : Dp K H v d) : TyX K H v (.type (tyN d)) := by
  cases h with
  | non => exact .base .non
  | bl b => exact .base (.bl b)
  | int i => exact .base (.int i)
  | str x => exact .base (.str x)
  | lst hs ha =>
    rcases hs with (h | ⟨o, h⟩) | ⟨o, its, n, hk, hc, _⟩
    · exact .base (.lst h)
    · exact .base (.frz h)
    · exact .kList hk hc
  | tup hs ha =>
    rcases hs with (h | ⟨o, h⟩) | ⟨o, its, n, hk, hc, _⟩
    · exact .base (.tup h)
    · exact .fTuple h
    · exact .kTuple hk hc
end Nm

namespace Nm
open PySem PySem.Spec PyProof.Rows L2 GL
/-! ### k11: cores are those of the law -/
/-! sRight11 -/
/-! sLaw11 -/
abbrev nRight11 : List Str := ["_law_rule", "_law_mirrors", "_law_gone", "_law_left", "_law_mark", "_law_due", "_law_number", "_law_some"]
theorem Kp.new4 {p : Addr} {H H1 H' : Hp} (k : Kp p H1 H') (s : Same H H1) (n : H p = none) : Same H H' := fun b o h => k b o (ne_of_none h n) (s b o h)
/-- the numbers of the rounds that remove a mark, among the first j -/
def numsL (R : List (List Int)) (m : Int) (j : Nat) : List Int := ((List.range j).filter fun i => decide (m ∈ R.getD i [])).map fun (i : Nat) => (i : Int)
/-- how many appends are left behind a mark -/
def leftL (R : List (List Int)) (m : Int) : Option Int := (numsL R m R.length).head?
def optV : Option Int → V
  | none => .non
  | some i => .int i
def optD : Option Int → PyData
  | none => .none
  | some i => .int i
theorem numsL_bd {R : List (List Int)} {m : Int} {j : Nat} : (numsL R m j).length ≤ j ∧ ∀ x ∈ numsL R m j, 0 ≤ x ∧ x < (j : Int) := by
  unfold numsL
  refine ⟨?_, fun x hx => ?_⟩
  · rw [List.length_map]
    have := List.length_filter_le (fun i => decide (m ∈ R.getD i [])) (List.range j)
    rw [List.length_range] at this
    exact this
  · obtain ⟨i, hi, rfl⟩ := List.mem_map.mp hx
    have := List.mem_range.mp (List.mem_filter.mp hi).1
    omega
structure ShV (d : PyData) : Prop where
  a : d.showable = true
  b : d.hasDict = false
  c : d.depth ≤ 20
  d' : d.shown.length ≤ sizeLine
theorem shOpt {o : Option Int} (h : ∀ i, o = some i → 0 ≤ i ∧ i < 16) : ShV (optD o) := by
  cases o with
  | none => exact ⟨rfl, rfl, by decide, by decide +kernel⟩
  | some i =>
    have b := h i rfl
    have z := num_shown b.1 b.2
    exact ⟨z.2, rfl, by simp [optD, PyData.depth], Nat.le_trans z.1 (by decide)⟩
theorem dpOpt {K : PySem.W.Frag} {H : Hp} (o : Option Int) : Dp K H (optV o) (optD o) := by
  cases o with
  | none => exact .non
  | some i => exact .int i
theorem shBl (b : Bool) : ShV (.bool b) := by cases b <;> exact ⟨rfl, rfl, by decide, by decide +kernel⟩
theorem core_sh {T : List (List Int)} {mir : Nat} (r : IsRule T) : ShV (rowD (coreL T mir)) := by
  have g := good_sm (core_good (T := T) (mir := mir)) r.2.1
  have s := shows_row g.1
  have l := s.len
  have := g.2
  exact ⟨s.ok, s.nd, by rw [depth_row]; decide, lineBig (by omega)⟩
theorem removed_count {T : List (List Int)} {mir : Nat} : (removedL T mir).length ≤ T.length := by
  have h := removed_flat (T := T) (mir := mir)
  have g : ∀ R : List (List Int), (∀ row ∈ R, row ≠ []) → R.length ≤ R.flatten.length := fun R => by
    induction R with
    | nil => intro _; exact Nat.le_refl _
    | cons a R ih =>
      intro hn
      have := ih fun row hr => hn row (List.mem_cons_of_mem _ hr)
      have l := List.length_pos_iff.mpr (hn a List.mem_cons_self)
      rw [List.flatten_cons, List.length_append, List.length_cons]
      omega
  exact Nat.le_trans (g _ fun row hr => (removed_rows row hr).2) h
theorem eqv_nilT (ns : List Int) : PyData.eqv (.tuple (ns.map PyData.int)) (.tuple []) = ns.isEmpty := by
  cases ns <;> simp [PyData.eqv, PyData.eqvAll]
section
variable {P : Program} {w : World} {K : PySem.W.Frag} {mg : Str → Option Value} {base : Heap}
end
end Nm

namespace Nm
open PySem PySem.Spec PyProof.Rows L2 GL
/-! ### k09: the marks that fit are those of the law -/
/-! sRight09 -/
/-! sLaw09 -/
abbrev nRight09 : List Str := ["_law_pot_here", "_law_rule", "_law_kept", "_law_turn", "_law_mark", "_law_some", "_law_more", "_law_due", "_law_again"]
abbrev nLaw09 : List Str := ["_law_script", "_law_k", "_law_pot_here", "_law_turn"]
theorem Kp.new3 {p : Addr} {H H1 H' : Hp} (k : Kp p H1 H') (s : Same H H1) (n : H p = none) : Same H H' := fun b o h => k b o (ne_of_none h n) (s b o h)
section
variable {X : Cx}
theorem slAK {K : PySem.W.Frag} (hK : X.K = K := by rfl) : SlR X (rSlA K) := by
  subst hK
  exact sl_tupA
theorem all3K {K : PySem.W.Frag} (hc : X.calm = true) (hK : X.K = K := by rfl) : CallR X (.builtin "all") (rAll K) := by
  subst hK
  exact cr_all hc
end
theorem slA_of {K : PySem.W.Frag} {H : Hp} {a : Addr} {xs : List V} {lo hi : Option Int} {Q : VK} (ha : H a = some (.tup xs))
    (q : ∀ (p : Addr) (H' : Hp), Same H H' → H' p = some (.tup (cutV xs lo hi)) → Q (.ref p) H') : rSlA K (.ref a) lo hi H Q := by
  refine ⟨a, xs, rfl, SqT.of ha, fun e => q a H (Same.refl _) ?_, fun _ p np => q p _ (same_upd np) upd_same⟩
  unfold cutV
  rw [e.1, e.2, List.drop_zero, Nat.sub_zero, List.take_length]
  exact ha
theorem hit_same {xs ys zs : List Int} (h : ∀ x, x ∈ ys ↔ x ∈ zs) : hitL xs ys = hitL xs zs := by
  unfold hitL
  congr 1
  funext x
  exact decide_eq_decide.mpr (h x)
/-- neither order nor repeats of lying marks matter -/
theorem fit_same {T : List (List Int)} {m : Int} {ss rr : List Int} (h : ∀ x, x ∈ ss ↔ x ∈ rr) : fitL T m ss = fitL T m rr := by
  unfold fitL
  congr 1
  funext x
  rw [hit_same h]
theorem fit_good {T : List (List Int)} (r : IsRule T) (m : Int) (ss : List Int) : Good T.length (fitL T m ss) := (behL_good r m).sub List.filter_sublist
theorem cut_to (ms : List Int) (k : Nat) : cutV (ms.map V.int) none (some (k : Int)) = (ms.take k).map V.int := by
  unfold cutV
  rw [HT.sIx_none, HT.sIx_nat, List.drop_zero, Nat.sub_zero, List.map_take, List.length_map]
  by_cases h : k ≤ ms.length
  · rw [Nat.min_eq_left h]
  · rw [Nat.min_eq_right (by omega), List.take_of_length_le (by rw [List.length_map]; exact Nat.le_refl _), List.take_of_length_le (by rw [List.length_map]; omega)]
/-- repr of a row -/
structure ShRw (row : List Int) : Prop where
  a : (rowD row).showable = true
  b : (rowD row).hasDict = false
  c : (rowD row).depth ≤ 20
  d : (rowD row).shown.length ≤ sizeLine
theorem shRw {row : List Int} (h : Sm row) (l : row.length ≤ 1000) : ShRw row := by
  have s := shows_row h
  have l := s.len
  exact ⟨s.ok, s.nd, by rw [depth_row]; decide, lineBig (by omega)⟩
section
variable {P : Program} {w : World} {K : PySem.W.Frag} {mg : Str → Option Value} {base : Heap}
/-- what the program's fitting is asked to do -/
def spFitting2 (K : PySem.W.Frag) : Sp := fun vs H Q _ => ∃ (a l : Addr) (m : Int) (T : List (List Int)) (ss : List Int), vs = [.ref a, .int m, .ref l] ∧ Tbl H a T ∧ IsRule T ∧ 0 ≤ m ∧ m < 16 ∧ H l = some (.tup (ss.map V.int)) ∧ Sm ss ∧ ss.length ≤ 3 ∧
  ∀ (c : Addr) (H' : Hp), Same H H' → H' c = some (.tup ((fitL T m ss).map V.int)) → Q (.ref c) H'
def spRight09 (K : PySem.W.Frag) : Sp := fun vs H Q _ => ∃ (p : Addr) (n : Nat), vs = [.ref p] ∧ Pot H p n ∧ n + 5000 < 1000000 ∧ ∀ H', Pot H' p (n + 1000) → Kp p H H' → Q (.bl true) H'
def spLaw09 (K : PySem.W.Frag) : Sp := fun vs H Q _ => ∃ (a : Addr) (ns : List Int), vs = [.ref a] ∧ SqL K H a (ns.map V.int) ∧ ns.length ≤ 63 ∧ ∀ H', Q (.bl true) H'
end
end Nm

namespace Nm
open PySem PySem.Spec PyProof.Rows L2 GL
/-! ### the program's fits, fitting -/
abbrev sFits : Stmt := topS 10
abbrev sFitting : Stmt := topS 11
abbrev nFits : List Str := ["rule", "mark", "lying", "other"]
abbrev sBarred : Stmt := topS 9
abbrev nBarred : List Str := ["rule", "lying", "other", "lies"]
theorem scBarred : FnScope nBarred ["rule", "lying", "other"] (defScope sBarred) := ⟨rfl, rfl, rfl, by decide +kernel, rfl, by decide +kernel, by decide +kernel⟩
theorem scFits : FnScope nFits ["rule", "mark", "lying", "other"] (defScope sFits) := ⟨rfl, rfl, rfl, by decide +kernel, rfl, by decide +kernel, by decide +kernel⟩
abbrev nFitting : List Str := ["rule", "mark", "lying", "other"]
theorem scFitting : FnScope nFitting ["rule", "mark", "lying"] (defScope sFitting) := ⟨rfl, rfl, rfl, by decide +kernel, rfl, by decide +kernel, by decide +kernel⟩
/-- whether a mark fits -/
def fitsB (T : List (List Int)) (m : Int) (ss : List Int) (x : Int) : Bool := decide (x ∈ behL T m) && !(ss.any fun z => decide (z ∈ behL T x))
theorem hit_swap (xs ys : List Int) : hitL xs ys = ys.any fun z => decide (z ∈ xs) := by
  unfold hitL
  rw [Bool.eq_iff_iff, List.any_eq_true, List.any_eq_true]
  constructor
  · rintro ⟨x, h1, h2⟩
    exact ⟨x, of_decide_eq_true h2, decide_eq_true h1⟩
  · rintro ⟨x, h1, h2⟩
    exact ⟨x, of_decide_eq_true h2, decide_eq_true h1⟩
theorem pw_ext : ∀ {l1 l2 : List Int}, l1.Pairwise (· < ·) → l2.Pairwise (· < ·) → (∀ x, x ∈ l1 ↔ x ∈ l2) → l1 = l2
  | [], [], _, _, _ => rfl
  | [], b :: r, _, _, h => absurd ((h b).mpr List.mem_cons_self) (by simp)
  | a :: r, [], _, _, h => absurd ((h a).mp List.mem_cons_self) (by simp)
  | a :: r, b :: t, h1, h2, h => by
    obtain ⟨a1, a2⟩ := List.pairwise_cons.mp h1
    obtain ⟨b1, b2⟩ := List.pairwise_cons.mp h2
    have e : a = b := by
      rcases List.mem_cons.mp ((h a).mp List.mem_cons_self) with z | z
      · exact z
      · rcases List.mem_cons.mp ((h b).mpr List.mem_cons_self) with y | y
        · exact y.symm
        · have := a1 b y
          have := b1 a z
          omega
    subst e
    rw [pw_ext a2 b2 fun x => ?_]
    constructor
    · intro hx
      rcases List.mem_cons.mp ((h x).mp (List.mem_cons_of_mem _ hx)) with z | z
      · have := a1 x hx
        omega
      · exact z
    · intro hx
      rcases List.mem_cons.mp ((h x).mpr (List.mem_cons_of_mem _ hx)) with z | z
      · have := b1 x hx
        omega
      · exact z
theorem fit_range {T : List (List Int)} (r : IsRule T) (m : Int) (ss : List Int) : (rangeI T.length).filter (fitsB T m ss) = fitL T m ss := by
  have g := behL_good r m
  refine pw_ext ((good_sub (List.Sublist.refl (rangeI T.length))).1.filter _) (g.1.filter _) fun x => ?_
  rw [List.mem_filter]
  unfold fitL fitsB
  rw [List.mem_filter, hit_swap, Bool.and_eq_true]
  constructor
  · rintro ⟨_, h1, h2⟩
    exact ⟨of_decide_eq_true h1, h2⟩
  · rintro ⟨h1, h2⟩
    exact ⟨mem_rangeI.mpr (g.2 x h1), decide_eq_true h1, h2⟩
section
variable {P : Program} {w : World} {K : PySem.W.Frag} {mg : Str → Option Value} {base : Heap}
def spFits (K : PySem.W.Frag) : Sp := fun vs H Q _ => ∃ (p l : Addr) (m o : Int) (T : List (List Int)) (ss : List Int), vs = [.ref p, .int m, .ref l, .int o] ∧ Tbl H p T ∧ 0 ≤ m ∧ 0 ≤ o ∧ SqT K H l (ss.map V.int) ∧ ss.length ≤ 1000 ∧
  ∀ (H' : Hp), Same H H' → Q (.bl (fitsB T m ss o)) H'
def spBarred (K : PySem.W.Frag) : Sp := fun vs H Q _ => ∃ (p l : Addr) (o : Int) (T : List (List Int)) (ss : List Int), vs = [.ref p, .ref l, .int o] ∧ Tbl H p T ∧ 0 ≤ o ∧ SqT K H l (ss.map V.int) ∧ ss.length ≤ 1000 ∧
  ∀ (H' : Hp), Same H H' → Q (.bl (ss.any fun z => decide (z ∈ behL T o))) H'
/-- any, and is_barred -/
def AnyB (K : PySem.W.Frag) (mg : Str → Option Value) : Prop := mg "any" = none ∧ ∃ (f : Addr) (d : FuncData), Fun K "is_barred" "is_barred" sBarred f d ∧ Binds K d ["rule", "lying", "other"] [] ∧ mg "is_barred" = some (.ref f)
theorem ok_barred {f fY : Addr} {fd dY : FuncData} {k : Nat} (F : Fun K "is_barred" "is_barred" sBarred f fd) (FY : Fun K "may_follow" "may_follow" sMay fY dY) (bY : Binds K dY ["rule", "mark", "other"] []) (gY : mg "may_follow" = some (.ref fY)) (ml : mg "len" = none) (ma : mg "any" = none) :
    FnOk P w K mg base CX0 (k + 2) f fd ["rule", "lying", "other"] (spBarred K) := by
  have GY : FnOk P w K mg base CX0 (k + 1) fY dY ["rule", "mark", "other"] (spMay K) := ok_may FY ml
  refine F.ok scBarred (fun vs H Q E h => ?_) (fun cdv A outer s H vs Q E hr h => ?_)
  · obtain ⟨p, l, o, T, ss, rfl, _⟩ := h
    rfl
  · obtain ⟨p, l, o, T, ss, rfl, hT, o0, hl, ls, q⟩ := h
    refine ⟨_, pss_one (ps_ret (pe_callB (any2K (K := K) rfl) (by rfl) ma (by decide +kernel) (pa_cons
        (pe_lc (own := [("lies", 3)]) (g := gName 3) (by rfl) scBarred.nd (piTupK (K := K) (pv 1))
          (blkOk_by (own := [("lies", 3)]) (N := nBarred) (sc := defScope sBarred) (by decide +kernel))
          (fun _ _ _ _ _ => pg_name (i := 3) scBarred.nd rfl (Or.inl rfl)) (fun _ _ _ _ _ => pts_nil)
          (fun _ _ _ _ _ => pe_call GY hr (by rfl) gY FY.kp bY .nil pass0 (pa_cons (pv 0) (pa_cons (pv 2) (pa_cons (pv 3) pa_nil))))) pa_nil))), ?_⟩
    refine ⟨.ref l, rfl, l, rfl, ⟨_, hl⟩, fun D nD => ?_⟩
    have sD := same_upd (o := .lst []) nD
    refine lc_tup (K := K) (a := l) (xs := ss.map V.int) (fun j H2 => H2 D = some (.lst (((ss.take j).map fun z => decide (z ∈ behL T o)).map V.bl)) ∧ Same H H2) ⟨upd_same, sD⟩ (fun j H2 _ h => Nm.Same.seqT h.2 hl) ?_ ?_
    · rintro j x H2 hx ⟨hD, s2⟩
      obtain ⟨y, hy, rfl⟩ := int_at hx
      have tk : ss.take (j + 1) = ss.take j ++ [y] := by
        rw [List.take_add_one, hy]
        rfl
      refine ⟨rfl, yesI ⟨.ref p, rfl, .int o, rfl, .int y, rfl, p, T, o, y, rfl, hT.same s2, o0, _, hD, ?_, ?_, ?_⟩⟩
      · rw [List.length_map, List.length_map, List.length_take]
        exact lenLine (by omega)
      · rw [upd_same, tk, List.map_append, List.map_append]
        rfl
      · intro b o hb
        rw [upd_ne (ne_of_none hb nD)]
        exact s2 _ _ hb
    · rintro H2 ⟨hD, s2⟩
      rw [List.length_map, List.take_length] at hD
      refine ⟨D, _, rfl, SqL.of hD, ?_⟩
      have z := q H2 s2
      rw [List.any_map]
      exact z
theorem ok_fits {f fY : Addr} {fd dY : FuncData} {k : Nat} (F : Fun K "fits" "fits" sFits f fd) (FY : Fun K "may_follow" "may_follow" sMay fY dY) (bY : Binds K dY ["rule", "mark", "other"] []) (gY : mg "may_follow" = some (.ref fY)) (ml : mg "len" = none) (ma : AnyB K mg) :
    FnOk P w K mg base CX0 (k + 3) f fd ["rule", "mark", "lying", "other"] (spFits K) := by
  have GY : FnOk P w K mg base CX0 (k + 2) fY dY ["rule", "mark", "other"] (spMay K) := ok_may FY ml
  obtain ⟨ma, fB, dB, FB, bB, gB⟩ := ma
  have GB : FnOk P w K mg base CX0 (k + 2) fB dB ["rule", "lying", "other"] (spBarred K) := ok_barred FB FY bY gY ml ma
  refine F.ok scFits (fun vs H Q E h => ?_) (fun cdv A outer s H vs Q E hr h => ?_)
  · obtain ⟨p, l, m, o, T, ss, rfl, _⟩ := h
    rfl
  · obtain ⟨p, l, m, o, T, ss, rfl, hT, m0, o0, hl, ls, q⟩ := h
    refine ⟨_, pss_one (ps_ret (pe_and (pe_call GY hr (by rfl) gY FY.kp bY .nil pass0 (pa_cons (pv 0) (pa_cons (pv 1) (pa_cons (pv 3) pa_nil))))
      (pe_one (pe_not (pe_call GB hr (by rfl) gB FB.kp bB .nil pass0 (pa_cons (pv 0) (pa_cons (pv 2) (pa_cons (pv 3) pa_nil)))))))), ?_⟩
    refine ⟨.ref p, rfl, .int m, rfl, .int o, rfl, p, T, m, o, rfl, hT, m0, ?_⟩
    refine ⟨_, rfl, ite2 (fun e => ?_) (fun e => ?_)⟩
    · refine ⟨.ref p, rfl, .ref l, rfl, .int o, rfl, p, l, o, T, ss, rfl, hT, o0, hl, ls, fun H2 s2 => ?_⟩
      have z := q H2 s2
      unfold fitsB at z
      have e' : decide (o ∈ behL T m) = true := e
      rw [e', Bool.true_and] at z
      exact ⟨_, rfl, z⟩
    · have z := q H (Same.refl _)
      unfold fitsB at z
      have e' : decide (o ∈ behL T m) = false := by
        rw [Bool.not_eq_true] at e
        exact e
      rw [e', Bool.false_and] at z
      exact z
theorem ok_fitting {f fY fX : Addr} {fd dY dX : FuncData} {k : Nat} (F : Fun K "fitting" "fitting" sFitting f fd) (FX : Fun K "fits" "fits" sFits fX dX) (bX : Binds K dX ["rule", "mark", "lying", "other"] []) (gX : mg "fits" = some (.ref fX))
    (FY : Fun K "may_follow" "may_follow" sMay fY dY) (bY : Binds K dY ["rule", "mark", "other"] []) (gY : mg "may_follow" = some (.ref fY)) (ml : mg "len" = none) (ma : AnyB K mg) (mr : mg "range" = none) (mt : mg "tuple" = none) :
    FnOk P w K mg base CX0 (k + 4) f fd ["rule", "mark", "lying"] (spFitting2 K) := by
  have GX : FnOk P w K mg base CX0 (k + 3) fX dX ["rule", "mark", "lying", "other"] (spFits K) := ok_fits FX FY bY gY ml ma
  refine F.ok scFitting (fun vs H Q E h => ?_) (fun cdv A outer s H vs Q E hr h => ?_)
  · obtain ⟨a, l, m, T, ss, rfl, _⟩ := h
    rfl
  · obtain ⟨a, l, m, T, ss, rfl, hT, rule, m0, m16, hl, sm, l3, q⟩ := h
    refine ⟨_, pss_one (ps_ret (pe_callTy (tupOfK (K := K)) (by rfl) mt (by decide +kernel) (pa_cons
        (pe_lc (own := [("other", 3)]) (g := gName 3) (by rfl) scFitting.nd (pi_range1 (by rfl) mr (pa_cons (pe_callB (lenK (K := K)) (by rfl) ml PySem.boot_len (pa_cons (pv 0) pa_nil)) pa_nil))
          (blkOk_by (own := [("other", 3)]) (N := nFitting) (sc := defScope sFitting) (by decide +kernel))
          (fun _ _ _ _ _ => pg_name (i := 3) scFitting.nd rfl (Or.inl rfl))
          (fun _ _ _ _ _ => pts_one (pt_val (pe_call GX hr (by rfl) gX FX.kp bX .nil pass0 (pa_cons (pv 0) (pa_cons (pv 1) (pa_cons (pv 2) (pa_cons (pv 3) pa_nil)))))))
          (fun _ _ _ _ _ => pv 3)) pa_nil))), ?_⟩
    have n16 := rule.2.1
    have hT0 := hT
    obtain ⟨rs, hp, hR⟩ := hT0
    have lm : (rs.map V.ref).length = T.length := by rw [List.length_map]; exact Paired.length hR
    refine ⟨.ref a, rfl, a, _, rfl, .inr (SqT.of hp), ?_⟩
    rw [lm]
    refine ⟨(T.length : Int), rfl, by omega, by omega, fun D nD => ?_⟩
    rw [Int.toNat_natCast]
    have sD := same_upd (o := .lst []) nD
    refine lc_range (lo := 0) (n := T.length) (fun j H3 => H3 D = some (.lst (((rangeI j).filter (fitsB T m ss)).map V.int)) ∧ Same H H3) ⟨upd_same, sD⟩ ?_ ?_
    · rintro j H3 hj ⟨hD, s3⟩
      have er : rangeI (j + 1) = rangeI j ++ [(j : Int)] := by
        unfold rangeI
        rw [List.range_succ, List.map_append]
        rfl
      refine ⟨rfl, .ref a, rfl, .int m, rfl, .ref l, rfl, .int (0 + j), rfl, a, l, m, _, T, ss, rfl, hT.same s3, m0, by omega, SqT.of (s3 _ _ hl), by omega, fun H4 s4 => ⟨_, rfl, ?_⟩⟩
      rw [Int.zero_add]
      refine ite2 (fun e => ?_) (fun e => ?_)
      · refine ⟨_, rfl, _, s4 _ _ hD, ?_, ?_, ?_⟩
        · rw [List.length_map]
          exact lenLine (Nat.lt_of_le_of_lt (List.length_filter_le _ _) (by rw [rangeI_length]; omega))
        · rw [upd_same, er, List.filter_append, List.map_append, List.filter_cons_of_pos e]
          rfl
        · intro b o hb
          rw [upd_ne (ne_of_none hb nD)]
          exact s4 _ _ (s3 _ _ hb)
      · refine ⟨?_, s3.trans s4⟩
        rw [s4 _ _ hD, er, List.filter_append, List.filter_cons_of_neg e]
        simp
    · rintro H3 ⟨hD, s3⟩
      rw [fit_range rule] at hD
      refine ⟨D, _, rfl, .inl ⟨SqL.of hD, fun t nt => ?_⟩⟩
      have st := same_upd (o := .tup ((fitL T m ss).map V.int)) nt
      exact q t _ (s3.trans st) upd_same
/-- the same, lying marks read anywhere -/
def spFittingT (K : PySem.W.Frag) : Sp := fun vs H Q _ => ∃ (a l : Addr) (m : Int) (T : List (List Int)) (ss : List Int), vs = [.ref a, .int m, .ref l] ∧ Tbl H a T ∧ IsRule T ∧ 0 ≤ m ∧ SqT K H l (ss.map V.int) ∧ ss.length ≤ 1000 ∧
  ∀ (c : Addr) (H' : Hp), Same H H' → H' c = some (.tup ((fitL T m ss).map V.int)) → Q (.ref c) H'
theorem ok_fittingT {f fY fX : Addr} {fd dY dX : FuncData} {k : Nat} (F : Fun K "fitting" "fitting" sFitting f fd) (FX : Fun K "fits" "fits" sFits fX dX) (bX : Binds K dX ["rule", "mark", "lying", "other"] []) (gX : mg "fits" = some (.ref fX))
    (FY : Fun K "may_follow" "may_follow" sMay fY dY) (bY : Binds K dY ["rule", "mark", "other"] []) (gY : mg "may_follow" = some (.ref fY)) (ml : mg "len" = none) (ma : AnyB K mg) (mr : mg "range" = none) (mt : mg "tuple" = none) :
    FnOk P w K mg base CX0 (k + 4) f fd ["rule", "mark", "lying"] (spFittingT K) := by
  have GX : FnOk P w K mg base CX0 (k + 3) fX dX ["rule", "mark", "lying", "other"] (spFits K) := ok_fits FX FY bY gY ml ma
  refine F.ok scFitting (fun vs H Q E h => ?_) (fun cdv A outer s H vs Q E hr h => ?_)
  · obtain ⟨a, l, m, T, ss, rfl, _⟩ := h
    rfl
  · obtain ⟨a, l, m, T, ss, rfl, hT, rule, m0, hl, l3, q⟩ := h
    refine ⟨_, pss_one (ps_ret (pe_callTy (tupOfK (K := K)) (by rfl) mt (by decide +kernel) (pa_cons
        (pe_lc (own := [("other", 3)]) (g := gName 3) (by rfl) scFitting.nd (pi_range1 (by rfl) mr (pa_cons (pe_callB (lenK (K := K)) (by rfl) ml PySem.boot_len (pa_cons (pv 0) pa_nil)) pa_nil))
          (blkOk_by (own := [("other", 3)]) (N := nFitting) (sc := defScope sFitting) (by decide +kernel))
          (fun _ _ _ _ _ => pg_name (i := 3) scFitting.nd rfl (Or.inl rfl))
          (fun _ _ _ _ _ => pts_one (pt_val (pe_call GX hr (by rfl) gX FX.kp bX .nil pass0 (pa_cons (pv 0) (pa_cons (pv 1) (pa_cons (pv 2) (pa_cons (pv 3) pa_nil)))))))
          (fun _ _ _ _ _ => pv 3)) pa_nil))), ?_⟩
    have n16 := rule.2.1
    have hT0 := hT
    obtain ⟨rs, hp, hR⟩ := hT0
    have lm : (rs.map V.ref).length = T.length := by rw [List.length_map]; exact Paired.length hR
    refine ⟨.ref a, rfl, a, _, rfl, .inr (SqT.of hp), ?_⟩
    rw [lm]
    refine ⟨(T.length : Int), rfl, by omega, by omega, fun D nD => ?_⟩
    rw [Int.toNat_natCast]
    have sD := same_upd (o := .lst []) nD
    refine lc_range (lo := 0) (n := T.length) (fun j H3 => H3 D = some (.lst (((rangeI j).filter (fitsB T m ss)).map V.int)) ∧ Same H H3) ⟨upd_same, sD⟩ ?_ ?_
    · rintro j H3 hj ⟨hD, s3⟩
      have er : rangeI (j + 1) = rangeI j ++ [(j : Int)] := by
        unfold rangeI
        rw [List.range_succ, List.map_append]
        rfl
      refine ⟨rfl, .ref a, rfl, .int m, rfl, .ref l, rfl, .int (0 + j), rfl, a, l, m, _, T, ss, rfl, hT.same s3, m0, by omega, Nm.Same.seqT s3 hl, by omega, fun H4 s4 => ⟨_, rfl, ?_⟩⟩
      rw [Int.zero_add]
      refine ite2 (fun e => ?_) (fun e => ?_)
      · refine ⟨_, rfl, _, s4 _ _ hD, ?_, ?_, ?_⟩
        · rw [List.length_map]
          exact lenLine (Nat.lt_of_le_of_lt (List.length_filter_le _ _) (by rw [rangeI_length]; omega))
        · rw [upd_same, er, List.filter_append, List.map_append, List.filter_cons_of_pos e]
          rfl
        · intro b o hb
          rw [upd_ne (ne_of_none hb nD)]
          exact s4 _ _ (s3 _ _ hb)
      · refine ⟨?_, s3.trans s4⟩
        rw [s4 _ _ hD, er, List.filter_append, List.filter_cons_of_neg e]
        simp
    · rintro H3 ⟨hD, s3⟩
      rw [fit_range rule] at hD
      refine ⟨D, _, rfl, .inl ⟨SqL.of hD, fun t nt => ?_⟩⟩
      have st := same_upd (o := .tup ((fitL T m ss).map V.int)) nt
      exact q t _ (s3.trans st) upd_same
end
end Nm

namespace GL
open PySem PySem.Spec PyProof.Rows L2
section
variable {J : It} {n : Nat} {G : Hp → Prop} {Y : Nat → Hp → V → Hp → Prop}
/-- a comprehension of two fors: the outer walk -/
theorem lc2_it (w : Walk J n G Y) {g g1 : TG} {tt tt1 : TT} {wi1 : TI} {te : TE} {vs vs1 : List Nat} {σ : L2.St} {H1 : Hp} {D : Addr} {Qd : Hp → Prop} (Pv : Nat → Hp → Prop) (h0 : Pv 0 (upd H1 D (.lst []))) (hG : ∀ i H, i ≤ n → Pv i H → G H)
    (hs : ∀ i x H H', i < n → Pv i H → Y i H x H' → g x (wipe σ vs) H' fun σ2 H2 => wipe σ2 vs = wipe σ vs ∧ tt σ2 H2 fun b H3 =>
      if b = true then wi1 σ2 H3 fun J1 H4 => ∃ W1 : Nat → Nat → Hp → Prop, (∃ m, W1 0 m H4) ∧ ∀ j k H, W1 j k H →
        (J1.stop j H ∧ Pv (i + 1) H) ∨ (J1.go j H ∧ ∃ Nx1 : Hp → Prop, (∀ H', Nx1 H' → ∃ k', k' < k ∧ W1 (j + 1) k' H') ∧ ∀ x H', J1.yld j H x H' → g1 x (wipe σ2 vs1) H' fun σ3 H5 => wipe σ3 vs1 = wipe σ2 vs1 ∧ tt1 σ3 H5 fun b H6 =>
          if b = true then te σ3 H6 fun y H7 => ∃ acc, H7 D = some (.lst acc) ∧ acc.length < sizeLine ∧ Nx1 (upd H7 D (.lst (acc ++ [y]))) else Nx1 H6)
      else Pv (i + 1) H3) (hd : ∀ H, Pv n H → Qd H) :
    ∃ W : Nat → Nat → Hp → Prop, (∃ m, W 0 m (upd H1 D (.lst []))) ∧ ∀ i m H, W i m H →
      (J.stop i H ∧ Qd H) ∨ (J.go i H ∧ ∃ Nx : Hp → Prop, (∀ H', Nx H' → ∃ m', m' < m ∧ W (i + 1) m' H') ∧ ∀ x H', J.yld i H x H' → g x (wipe σ vs) H' fun σ2 H2 => wipe σ2 vs = wipe σ vs ∧ tt σ2 H2 fun b H3 =>
        if b = true then wi1 σ2 H3 fun J1 H4 => ∃ W1 : Nat → Nat → Hp → Prop, (∃ m, W1 0 m H4) ∧ ∀ j k H, W1 j k H →
          (J1.stop j H ∧ Nx H) ∨ (J1.go j H ∧ ∃ Nx1 : Hp → Prop, (∀ H', Nx1 H' → ∃ k', k' < k ∧ W1 (j + 1) k' H') ∧ ∀ x H', J1.yld j H x H' → g1 x (wipe σ2 vs1) H' fun σ3 H5 => wipe σ3 vs1 = wipe σ2 vs1 ∧ tt1 σ3 H5 fun b H6 =>
            if b = true then te σ3 H6 fun y H7 => ∃ acc, H7 D = some (.lst acc) ∧ acc.length < sizeLine ∧ Nx1 (upd H7 D (.lst (acc ++ [y]))) else Nx1 H6)
        else Nx H3) := by
  refine ⟨fun i m H => m = n - i ∧ i ≤ n ∧ Pv i H, ⟨n, by simp, Nat.zero_le _, h0⟩, ?_⟩
  rintro i m H ⟨rfl, hi, p⟩
  have q := hG i H hi p
  by_cases hlt : i < n
  · exact .inr ⟨w.goes i H hlt q, Pv (i + 1), fun H' p' => ⟨n - (i + 1), by omega, rfl, hlt, p'⟩, fun x H' y => hs i x H H' hlt p (w.yields i H x H' hlt q y)⟩
  · have e : i = n := by omega
    subst e
    exact .inl ⟨w.stops H q, hd H p⟩
/-- .. the inner walk -/
theorem lc2_in (w : Walk J n G Y) {g1 : TG} {tt1 : TT} {te : TE} {vs1 : List Nat} {σ2 : L2.St} {H4 : Hp} {D : Addr} {Nx : Hp → Prop} (Pv : Nat → Hp → Prop) (h0 : Pv 0 H4) (hG : ∀ i H, i ≤ n → Pv i H → G H)
    (hs : ∀ j x H H', j < n → Pv j H → Y j H x H' → g1 x (wipe σ2 vs1) H' fun σ3 H5 => wipe σ3 vs1 = wipe σ2 vs1 ∧ tt1 σ3 H5 fun b H6 =>
      if b = true then te σ3 H6 fun y H7 => ∃ acc, H7 D = some (.lst acc) ∧ acc.length < sizeLine ∧ Pv (j + 1) (upd H7 D (.lst (acc ++ [y]))) else Pv (j + 1) H6) (hd : ∀ H, Pv n H → Nx H) :
    ∃ W1 : Nat → Nat → Hp → Prop, (∃ m, W1 0 m H4) ∧ ∀ j k H, W1 j k H →
      (J.stop j H ∧ Nx H) ∨ (J.go j H ∧ ∃ Nx1 : Hp → Prop, (∀ H', Nx1 H' → ∃ k', k' < k ∧ W1 (j + 1) k' H') ∧ ∀ x H', J.yld j H x H' → g1 x (wipe σ2 vs1) H' fun σ3 H5 => wipe σ3 vs1 = wipe σ2 vs1 ∧ tt1 σ3 H5 fun b H6 =>
        if b = true then te σ3 H6 fun y H7 => ∃ acc, H7 D = some (.lst acc) ∧ acc.length < sizeLine ∧ Nx1 (upd H7 D (.lst (acc ++ [y]))) else Nx1 H6) := by
  refine ⟨fun i m H => m = n - i ∧ i ≤ n ∧ Pv i H, ⟨n, by simp, Nat.zero_le _, h0⟩, ?_⟩
  rintro i m H ⟨rfl, hi, p⟩
  have q := hG i H hi p
  by_cases hlt : i < n
  · exact .inr ⟨w.goes i H hlt q, Pv (i + 1), fun H' p' => ⟨n - (i + 1), by omega, rfl, hlt, p'⟩, fun x H' y => hs i x H H' hlt p (w.yields i H x H' hlt q y)⟩
  · have e : i = n := by omega
    subst e
    exact .inl ⟨w.stops H q, hd H p⟩
end
end GL
namespace Nm
open PySem PySem.Spec PyProof.Rows L2 GL LamX NdefX StX
/-! ### rounds, core, serves, appends_left, choice -/
/-! sRounds -/
abbrev sCore : Stmt := topS 16
/-! sServes -/
/-! sLeft -/
/-! sChoice -/
abbrev nRounds : List Str := ["rule", "mirrors", "gone"]
abbrev nCore : List Str := ["rule", "mirrors", "removed", "gone", "mark"]
theorem scCore : FnScope nCore ["rule", "mirrors"] (defScope sCore) := ⟨rfl, rfl, rfl, by decide +kernel, rfl, by decide +kernel, by decide +kernel⟩
abbrev nServes : List Str := ["rule", "mirrors"]
abbrev nLeft : List Str := ["rule", "mirrors", "mark", "at", "gone"]
abbrev nChoice : List Str := ["rule", "mirrors", "mark", "lying"]
theorem DV.kvs {H : Hp} {T : List (List Int)} {mir : Nat} {left : List Int} {kvs : List (Key × V)} {ms : List Int} (h : DV H T mir left kvs ms) : (kvs.map fun kv => kV kv.1) = ms.map V.int := by
  have e := congrArg (List.map kV) h.keys
  rw [List.map_map, List.map_map] at e
  exact e
theorem DGs.at' {H : Hp} {T : List (List Int)} {mir : Nat} {gs : List Addr} {i : Nat} {g : Addr} (h : DGs H T mir gs (removedP T mir)) (e : gs[i]? = some g) : ∃ (left row : List Int) (od : Obj) (kvs : List (Key × V)), (removedP T mir)[i]? = some (left, row) ∧ (removedL T mir)[i]? = some row ∧ H g = some (.frz od (.dK kvs)) ∧ DV H T mir left kvs row := by
  obtain ⟨⟨left, row⟩, h1, od, kvs, h2, h3⟩ := paired_get h e
  refine ⟨left, row, od, kvs, h1, ?_, h2, h3⟩
  rw [← removedP_rows, List.getElem?_map, h1]
  rfl
theorem DGs.len {H : Hp} {T : List (List Int)} {mir : Nat} {gs : List Addr} (h : DGs H T mir gs (removedP T mir)) : gs.length = (removedL T mir).length := by
  rw [← removedP_rows, List.length_map]
  exact Paired.length h
section
variable {P : Program} {w : World} {K : PySem.W.Frag} {mg : Str → Option Value} {base : Heap}
def spRoundsX (TT : Tbs) : Sp := fun vs H Q _ => ∃ (a : Addr) (mir : Nat) (T : List (List Int)), vs = [.ref a, .int mir] ∧ Tbl H a T ∧ IsRule T ∧ mir ≤ 3 ∧ Tabs TT H ∧ ∀ (c : Addr) (H' : Hp), Ex TT H H' → Tbl H' c (removedL T mir) → Q (.ref c) H'
def spCoreX (TT : Tbs) : Sp := fun vs H Q _ => ∃ (a : Addr) (mir : Nat) (T : List (List Int)), vs = [.ref a, .int mir] ∧ Tbl H a T ∧ IsRule T ∧ mir ≤ 3 ∧ Tabs TT H ∧ ∀ (c : Addr) (H' : Hp), Ex TT H H' → H' c = some (.tup ((coreL T mir).map V.int)) → Q (.ref c) H'
def spServesX (TT : Tbs) : Sp := fun vs H Q _ => ∃ (a : Addr) (mir : Nat) (T : List (List Int)), vs = [.ref a, .int mir] ∧ Tbl H a T ∧ IsRule T ∧ mir ≤ 3 ∧ Tabs TT H ∧ ∀ (H' : Hp), Ex TT H H' → Q (.bl (!(coreL T mir).isEmpty)) H'
def spLeftX (TT : Tbs) : Sp := fun vs H Q _ => ∃ (a : Addr) (mir : Nat) (m : Int) (T : List (List Int)), vs = [.ref a, .int mir, .int m] ∧ Tbl H a T ∧ IsRule T ∧ mir ≤ 3 ∧ Tabs TT H ∧ ∀ (H' : Hp), Ex TT H H' → Q (optV (leftL (removedL T mir) m)) H'
/-- removals, by its promise -/
def HasRem (K : PySem.W.Frag) (mg : Str → Option Value) : Prop := ∃ (f : Addr) (d : FuncData), Fun K "removals" "removals" sRemovals f d ∧ Binds K d ["rule", "mirrors"] [] ∧ mg "removals" = some (.ref f)
set_option maxHeartbeats 4000000 in
theorem ok_core {TT : Tbs} {f : Addr} {fd : FuncData} {k : Nat} (F : Fun K "core" "core" sCore f fd) (D : Gam K mg base TT) (hR : HasRem K mg) : FnOk P w K mg base CX0 (k + 10) f fd ["rule", "mirrors"] (spCoreX TT) := by
  obtain ⟨fA, dA, FA, bA, gA⟩ := hR
  have GA : FnOk P w K mg base CX0 (k + 9) fA dA ["rule", "mirrors"] (spRemovals TT) := ok_removals FA D
  refine F.ok scCore (fun vs H Q E h => ?_) (fun cdv A outer s H vs Q E hr h => ?_)
  · obtain ⟨a, mir, T, rfl, _⟩ := h
    rfl
  · obtain ⟨a, mir, T, rfl, hT, rule, m3, tabs, q⟩ := h
    refine ⟨_, pss_cons (ps_set (i := 2) scCore.nd rfl (.inr rfl)
        (pe_lc2 (own := [("gone", 3), ("mark", 4)]) (vs1 := [4]) (g := gName 3) (g1 := gName 4) (by rfl) scCore.nd (piLstK (K := K) (pe_call GA hr (by rfl) gA FA.kp bA .nil pass0 (pa_cons (pv 0) (pa_cons (pv 1) pa_nil))))
          (blkOk_by (own := [("gone", 3), ("mark", 4)]) (N := nCore) (sc := defScope sCore) (by decide +kernel)) (by decide)
          (fun _ _ _ _ _ => pg_name (i := 3) scCore.nd rfl (Or.inl rfl)) (fun _ _ _ _ _ => pts_nil)
          (fun _ _ _ _ _ => pi_keys (pv 3)) (fun _ _ _ _ _ => pg_name (i := 4) scCore.nd rfl (Or.inl rfl)) (fun _ _ _ _ _ => pts_nil) (fun _ _ _ _ _ => pv 4)))
      (pss_one (ps_ret (pe_callTy (tupOfK (K := K)) (by rfl) D.tuple (by decide +kernel) (pa_cons
        (pe_lc (own := [("mark", 4)]) (g := gName 4) (by rfl) scCore.nd (pi_range1 (by rfl) D.range (pa_cons (pe_callB (lenK (K := K)) (by rfl) D.len PySem.boot_len (pa_cons (pv 0) pa_nil)) pa_nil))
          (blkOk_by (own := [("mark", 4)]) (N := nCore) (sc := defScope sCore) (by decide +kernel))
          (fun _ _ _ _ _ => pg_name (i := 4) scCore.nd rfl (Or.inl rfl))
          (fun _ _ _ _ _ => pts_one (pt_cmpR (notInK (K := K)) (pv 4) (pv 2) (by rfl)))
          (fun _ _ _ _ _ => pv 4)) pa_nil)))), ?_⟩
    have n16 := rule.2.1
    refine ⟨.ref a, rfl, .int mir, rfl, a, mir, T, rfl, m3, hT, rule, tabs, fun Fo gs H1 ex1 nF hF dg => ?_⟩
    refine ⟨Fo, rfl, ⟨_, SqL.of hF⟩, fun D nD => ?_⟩
    have sD := same_upd (o := .lst []) nD
    have lg := dg.len
    have fl := removed_flat (T := T) (mir := mir)
    refine lc2_it (walk_list (K := K) (a := Fo) (xs := gs.map V.ref)) (fun j H2 => H2 D = some (.lst (((removedL T mir).take j).flatten.map V.int)) ∧ Same H1 H2) ⟨upd_same, sD⟩ (fun j H2 _ h => SqL.of (h.2 _ _ hF)) ?_ ?_
    · rintro i x H2 H2' hi ⟨hD, s2⟩ ⟨rfl, hx⟩
      obtain ⟨g, hg, rfl⟩ := ref_at hx
      obtain ⟨left, row, od, kvs, _, hrow, hgz, dv⟩ := dg.at' hg
      have tk : (removedL T mir).take (i + 1) = (removedL T mir).take i ++ [row] := by
        rw [List.take_add_one, hrow]
        rfl
      have lk : kvs.length = row.length := dv.len
      refine ⟨rfl, yesI ⟨.ref g, rfl, g, od, rfl, .inl ⟨kvs, s2 _ _ hgz, ?_⟩⟩⟩
      refine lc2_in (walk_keys (d := g) (o := od) (kvs := kvs)) (fun j H3 => H3 D = some (.lst ((((removedL T mir).take i).flatten ++ row.take j).map V.int)) ∧ Same H1 H3) ⟨by rw [List.take_zero, List.append_nil]; exact hD, s2⟩ (fun j H3 _ h => h.2 _ _ hgz) ?_ ?_
      · rintro j x H3 H3' hj ⟨hD3, s3⟩ ⟨rfl, ky, v, hkv, rfl⟩
        obtain ⟨y, hy, e1, _⟩ := paired_get dv hkv
        have e1 : ky = .inl y := e1
        subst e1
        have tr : row.take (j + 1) = row.take j ++ [y] := by
          rw [List.take_add_one, hy]
          rfl
        refine ⟨rfl, yesI ⟨_, rfl, _, hD3, ?_, ?_, ?_⟩⟩
        · rw [List.length_map]
          have h1 : (((removedL T mir).take i).flatten ++ row.take j).length ≤ ((removedL T mir).take i).flatten.length + row.length := by
            rw [List.length_append, List.length_take]
            omega
          have h2 : ((removedL T mir).take (i + 1)).flatten.length ≤ (removedL T mir).flatten.length := by
            conv => rhs; rw [← List.take_append_drop (i + 1) (removedL T mir), List.flatten_append, List.length_append]
            omega
          rw [tk, List.flatten_append, List.length_append, List.flatten_cons, List.flatten_nil, List.append_nil] at h2
          exact lenLine (by omega)
        · rw [upd_same, tr, ← List.append_assoc, List.map_append (l₂ := [y])]
          rfl
        · intro b o hb
          rw [upd_ne (ne_of_none hb nD)]
          exact s3 _ _ hb
      · rintro H3 ⟨hD3, s3⟩
        rw [lk, List.take_length] at hD3
        refine ⟨?_, s3⟩
        rw [hD3, tk, List.flatten_append]
        simp
    · rintro H2 ⟨hD, s2⟩
      rw [List.length_map, lg, List.take_length] at hD
      have ex2 := ex1.trans (.of s2)
      have hT2 := hT.ex ex2
      obtain ⟨rs, hp, hR⟩ := hT2
      have lm : (rs.map V.ref).length = T.length := by rw [List.length_map]; exact Paired.length hR
      refine ⟨.ref a, rfl, a, _, rfl, .inr (SqT.of hp), ?_⟩
      rw [lm]
      refine ⟨(T.length : Int), rfl, by omega, by omega, fun D2 nD2 => ?_⟩
      rw [Int.toNat_natCast]
      have sD2 := same_upd (o := .lst []) nD2
      refine lc_range (lo := 0) (n := T.length) (fun j H3 => H3 D2 = some (.lst (((rangeI j).filter fun m => decide (m ∉ (removedL T mir).flatten)).map V.int)) ∧ Same H2 H3) ⟨upd_same, sD2⟩ ?_ ?_
      · rintro j H3 hj ⟨hD3, s3⟩
        have er : rangeI (j + 1) = rangeI j ++ [(j : Int)] := by
          unfold rangeI
          rw [List.range_succ, List.map_append]
          rfl
        refine ⟨rfl, .int (0 + j), rfl, .ref D, rfl, D, _, rfl, .inl (SqL.of (s3 _ _ hD)), rfl, flat_ints _, _, rfl, ?_⟩
        rw [Int.zero_add]
        show if (if true = true then !inV (.int (j : Int)) _ else inV (.int (j : Int)) _) = true then _ else _
        rw [if_pos rfl, inV_int]
        refine ite2 (fun e => ?_) (fun e => ?_)
        · have ne : (j : Int) ∉ (removedL T mir).flatten := by simpa using e
          refine ⟨_, rfl, _, hD3, ?_, ?_, ?_⟩
          · rw [List.length_map]
            exact lenLine (Nat.lt_of_le_of_lt (List.length_filter_le _ _) (by rw [rangeI_length]; omega))
          · rw [upd_same, er, List.filter_append, List.map_append, List.filter_cons_of_pos (by simpa using ne)]
            rfl
          · intro b o hb
            rw [upd_ne (ne_of_none hb nD2)]
            exact s3 _ _ hb
        · have ne : (j : Int) ∈ (removedL T mir).flatten := by simpa using e
          refine ⟨?_, s3⟩
          rw [hD3, er, List.filter_append, List.filter_cons_of_neg (by simpa using ne)]
          simp
      · rintro H3 ⟨hD3, s3⟩
        refine ⟨D2, _, rfl, .inl ⟨SqL.of hD3, fun t nt => ?_⟩⟩
        exact q t _ (ex2.trans (.of (s3.trans (same_upd nt)))) upd_same
def HasCore (K : PySem.W.Frag) (mg : Str → Option Value) : Prop := ∃ (f : Addr) (d : FuncData), Fun K "core" "core" sCore f d ∧ Binds K d ["rule", "mirrors"] [] ∧ mg "core" = some (.ref f)
end
end Nm

namespace Nm
open PySem PySem.Spec PyProof.Rows L2 GL LamX NdefX StX
/-! ### all but one list and the tables stays -/
structure KX (TT : Tbs) (p : Addr) (H H' : Hp) : Prop where
  at' : ∀ b o, b ≠ p → H b = some o → [NT o] → H' b = some o
  tb : Tabs TT H → Tabs TT H'
instance {TT : Tbs} {p : Addr} {H H' : Hp} : CoeFun (KX TT p H H') (fun _ => ∀ b o, b ≠ p → H b = some o → [NT o] → H' b = some o) := ⟨KX.at'⟩
section
variable {TT : Tbs} {p : Addr} {n : Nat} {H H1 H2 H' : Hp}
theorem KX.refl (p : Addr) (H : Hp) : KX TT p H H := ⟨fun _ _ _ h => h, fun t => t⟩
theorem KX.trans (a : KX TT p H H1) (b : KX TT p H1 H2) : KX TT p H H2 := ⟨fun c o n h => b c o n (a c o n h), fun t => b.tb (a.tb t)⟩
theorem KX.of (a : Ex TT H H') : KX TT p H H' := ⟨fun c o _ h => a c o h, a.tb⟩
theorem Kp.x (k : Kp p H H') (h : Pot H p n) : KX TT p H H' := by
  refine ⟨fun c o nc hc => k c o nc hc, fun t q hq => ?_⟩
  obtain ⟨g, s, c, e, _⟩ := h
  obtain ⟨ps, h1, h2, h3⟩ := t q hq
  refine ⟨ps, k _ _ (fun z => ?_) h1, h2, fun pos cv hc => ?_⟩
  · rw [z, e] at h1
    cases h1
  · obtain ⟨c', e1, e2⟩ := h3 pos cv hc
    refine ⟨c', e1, k _ _ (fun z => ?_) e2⟩
    rw [z, e] at e2
    unfold CodeO at e2
    cases e2
theorem KX.tup {a : Addr} {xs : List V} (k : KX TT p H H') (h : Pot H p n) (e : H a = some (.tup xs)) : H' a = some (.tup xs) := by
  obtain ⟨_, _, _, e2, _⟩ := h
  exact k _ _ (ne_of e e2 (by intro z; cases z)) e
theorem Rows.kx {rs : List Addr} {T : List (List Int)} (h : Rows H rs T) (k : KX TT p H H') (hp : Pot H p n) : Rows H' rs T := Paired.mapP h fun a b e => k.tup hp e
theorem Tbl.kx {a : Addr} {T : List (List Int)} (h : Tbl H a T) (k : KX TT p H H') (hp : Pot H p n) : Tbl H' a T := by
  obtain ⟨rs, e, r⟩ := h
  exact ⟨rs, k.tup hp e, r.kx k hp⟩
theorem KX.seq {K : PySem.W.Frag} {a : Addr} {xs : List V} (k : KX TT p H H') (n : a ≠ p) (h : SqL K H a xs) : SqL K H' a xs := by
  rcases h with (h | ⟨o, h⟩) | h
  · exact .inl (.inl (k _ _ n h))
  · exact .inl (.inr ⟨o, k _ _ n h⟩)
  · exact .inr h
theorem Pot.ex (h : Pot H p n) (s : Ex TT H H') : Pot H' p n := by
  obtain ⟨g, s', c, e, r⟩ := h
  exact ⟨g, s', c, s _ _ e, r⟩
theorem KX.new (k : KX TT p H1 H') (s : Ex TT H H1) (n : H p = none) : Ex TT H H' := ⟨fun b o h => k b o (ne_of_none h n) (s b o h), fun t => k.tb (s.tb t)⟩
theorem LRows.ex {l : Addr} {T : List (List Int)} (h : LRows H l T) (s : Ex TT H H') : LRows H' l T := by
  obtain ⟨rs, e, r⟩ := h
  exact ⟨rs, s _ _ e, r.ex s⟩
theorem Ex.seqT {K : PySem.W.Frag} {a : Addr} {xs : List V} (e : Ex TT H H') (h : SqT K H a xs) : SqT K H' a xs := by
  rcases h with (h | ⟨o, h⟩) | h
  · exact .inl (.inl (e _ _ h))
  · exact .inl (.inr ⟨o, e _ _ h⟩)
  · exact .inr h
end
theorem KX.put {TT : Tbs} {p D : Addr} {H H2 : Hp} {o1 o2 : HO} (k : KX TT p H H2) (n : H D = none) (e : H2 D = some o1) (n1 : ∀ ps, o1 ≠ .tbl ps := by intro _ z; cases z) (n2 : ∀ φ, o1 ≠ .ext φ := by intro _ z; cases z) : KX TT p H (upd H2 D o2) := by
  refine ⟨fun b o nb hb => ?_, fun t => tabs_put (k.tb t) e n1 n2⟩
  intro i
  rw [upd_ne (ne_of_none hb n)]
  exact k _ _ nb hb
/-! ### the table of barring's code object, at the end -/
/-- the tables of the program: that of barring -/
abbrev barTT (P : Addr) : Tbs := [(P, ("barring.<locals>." : Str) ++ "<lambda>")]
theorem barT_mk {K : PySem.W.Frag} {mg : Str → Option Value} {base h : Heap} {f c P0 : Addr} {oc kV doc pm cd ct : Value} {od an : Option Addr} {sl : Array (Option Value)} (X : K.In h) (G : h.Ns mainGlobals mg)
    (g : mg "barring" = some (.ref f)) (l : K.lookup f = some ⟨oc, od, .func (PySem.W.fnOf "barring" "barring" (defArgs sBarring) (defBody sBarring) (defScope sBarring) .none kV doc pm an cd ct), sl⟩)
    (c1 : PySem.W.codeIn K cd "barring" = true) (k1 : PySem.W.keepIn K (.ref f) = true) (b : Binds K (PySem.W.fnOf "barring" "barring" (defArgs sBarring) (defBody sBarring) (defScope sBarring) .none kV doc pm an cd ct) ["rule", "mirrors", "marks"] [])
    (ht : PySem.W.tabIn K "barring" = some (c, P0)) (TB : TabB base mg c P0) (ml : mg "len" = none) (mm : mg "min" = none) (mt : mg "tuple" = none) (ms : mg "sorted" = none) : ∃ (f : Addr) (fd : FuncData), BarT K mg base (barTT P0) f fd := by
  have e : cd = .ref c := PySem.W.law_code X G ht g (X _ _ l) rfl
  subst e
  exact ⟨f, _, ml, mm, mt, ms, ⟨c, P0, ⟨⟨oc, od, kV, doc, pm, an, ct, sl, rfl, l, c1⟩, k1⟩, TB, List.mem_singleton.mpr rfl, fun p hp _ => by rw [List.mem_singleton.mp hp]⟩, b, g⟩
/-- the place of a def's code object and its table, looked up -/
def tabOk (K : PySem.W.Frag) (x : Str) : Bool := match PySem.W.tabIn K x with
  | some p => (K.lookup p.2).isNone
  | none => false
theorem tab_mk {K : PySem.W.Frag} {x : Str} (h : tabOk K x = true) : ∃ c P0 : Addr, PySem.W.tabIn K x = some (c, P0) ∧ K.lookup P0 = none := by
  unfold tabOk at h
  cases e : PySem.W.tabIn K x with
  | none =>
    rw [e] at h
    cases h
  | some p =>
    rw [e] at h
    exact ⟨p.1, p.2, rfl, Option.isNone_iff_eq_none.mp h⟩
theorem barTabs {H : Hp} {P0 : Addr} (h : H P0 = some (.tbl #[])) : Tabs (barTT P0) H := fun p hp => by
  rw [List.mem_singleton.mp hp]
  exact TabS.nil h
end Nm

namespace Nm
open PySem PySem.Spec PyProof.Rows L2 GL
/-! ### what is asked of data of any kind -/
def isT : PyData → Bool | .tuple _ => true | _ => false
def isB : PyData → Bool | .bool _ => true | _ => false
def isI : PyData → Bool | .bool _ => true | .int _ => true | _ => false
def isS : PyData → Bool | .str _ => true | _ => false
theorem kitT (d : PyData) : kitB (tyN d) "tuple" = some (isT d) := by cases d <;> (simp only [tyN, isT]; decide +kernel)
theorem kitBo (d : PyData) : kitB (tyN d) "bool" = some (isB d) := by cases d <;> (simp only [tyN, isB]; decide +kernel)
theorem kitI (d : PyData) : kitB (tyN d) "int" = some (isI d) := by cases d <;> (simp only [tyN, isI]; decide +kernel)
theorem kitS (d : PyData) : kitB (tyN d) "str" = some (isS d) := by cases d <;> (simp only [tyN, isS]; decide +kernel)
def belowD (l : Int) : PyData → Bool | .int i => decide (0 ≤ i) && decide (i < l) | _ => false
def toI : PyData → Int | .int i => i | _ => 0
def ascD (l : Int) : PyData → Bool | .tuple ds => ds.all (belowD l) && decide ((ds.map toI).Pairwise (· < ·)) | _ => false
def ruleD : PyData → Bool | .tuple ds => (decide (1 ≤ ds.length) && decide (ds.length ≤ 16)) && ds.all (ascD ds.length) | _ => false
theorem below_int {l : Int} {d : PyData} (h : belowD l d = true) : d = .int (toI d) := by
  cases d <;> first | rfl | cases h
theorem dp_ints {K : PySem.W.Frag} {H : Hp} {l : Int} : ∀ {vs : List V} {ds : List PyData}, DpAll K H vs ds → ds.all (belowD l) = true → vs = (ds.map toI).map V.int
  | _, _, .nil, _ => rfl
  | _, _, .cons (d := d) h t, a => by
    rw [List.all_cons, Bool.and_eq_true] at a
    have e := below_int a.1
    have ih := dp_ints t a.2
    rw [e] at h
    cases h
    rw [List.map_cons, List.map_cons, ih]
theorem all_take {α : Type} (f : α → Bool) (l : List α) : ((l.take l.length).map f).all id = l.all f := by
  rw [List.take_length, List.all_map]
  rfl
theorem chain_all (ns : List Int) : ((List.range (ns.length - 1)).map fun (i : Nat) => decide (ns.getD i 0 < ns.getD (i + 1) 0)).all id = decide (ns.Pairwise (· < ·)) := by
  rw [Bool.eq_iff_iff, decide_eq_true_eq, List.all_map, List.all_eq_true]
  refine ⟨fun h => chain_pw ns fun i a b ha hb => ?_, fun h i hi => ?_⟩
  · have il := (List.getElem?_eq_some_iff.mp hb).1
    have z := h i (List.mem_range.mpr (by omega))
    have y := of_decide_eq_true (show decide (ns.getD i 0 < ns.getD (i + 1) 0) = true from z)
    rw [List.getD_eq_getElem?_getD, List.getD_eq_getElem?_getD, ha, hb] at y
    exact y
  · have il := List.mem_range.mp hi
    have h1 : i < ns.length := by omega
    have h2 : i + 1 < ns.length := by omega
    show decide (ns.getD i 0 < ns.getD (i + 1) 0) = true
    rw [List.getD_eq_getElem?_getD, List.getD_eq_getElem?_getD, List.getElem?_eq_getElem h1, List.getElem?_eq_getElem h2]
    exact decide_eq_true ((List.pairwise_iff_getElem.mp h) i (i + 1) h1 h2 (by omega))
section
variable {P : Program} {w : World} {K : PySem.W.Frag} {mg : Str → Option Value} {base : Heap}
def spBelowA (K : PySem.W.Frag) : Sp := fun vs H Q _ => ∃ (v : V) (d : PyData) (l : Int), vs = [v, .int l] ∧ Dp K H v d ∧ Q (.bl (belowD l d)) H
theorem ok_belowA {f : Addr} {fd : FuncData} {k : Nat} (F : Fun K "is_below" "is_below" sBelow f fd) (B : LibJ mg) : FnOk P w K mg base CX0 (k + 1) f fd ["value", "limit"] (spBelowA K) := by
  refine F.ok scBelow (fun vs H Q E h => ?_) (fun cdv A outer s H vs Q E hr h => ?_)
  · obtain ⟨v, d, l, rfl, _⟩ := h
    rfl
  · obtain ⟨v, d, l, rfl, hd, q⟩ := h
    refine ⟨_, pss_cons (ps_if (PW.pt (pw_or (pt_val (pe_callB (isiK (K := K)) (by rfl) B.isi (by decide +kernel) (pa_cons (pv 0) (pa_cons (pe_bltn (v := .ty "bool") (by rfl) B.bool (by decide +kernel) rfl) pa_nil))))
        (pw_or1 (pt_not (pt_val (pe_callB (isiK (K := K)) (by rfl) B.isi (by decide +kernel) (pa_cons (pv 0) (pa_cons (pe_bltn (v := .ty "int") (by rfl) B.int (by decide +kernel) rfl) pa_nil))))))))
        (pss_one (ps_ret pe_bl)) pss_nil)
      (pss_one (ps_ret (pe_chain op_le op_lt pe_int (pv 0) (pv 1)))), ?_⟩
    refine ⟨v, rfl, _, _, _, _, isB d, rfl, .ty "bool", tyD hd, kit_ty (kitBo d), _, rfl, ?_⟩
    cases d with
    | bool b => exact iteT q
    | int i =>
      refine iteF ⟨v, rfl, _, _, _, _, true, rfl, .ty "int", tyD hd, kit_ty (kitI _), _, rfl, iteF ?_⟩
      cases hd
      refine ⟨.int i, rfl, 0, i, rfl, rfl, _, rfl, ?_⟩
      by_cases h0 : 0 ≤ i
      · rw [decide_eq_true h0]
        refine iteT ⟨.int l, rfl, i, l, rfl, rfl, ?_⟩
        simp only [belowD, decide_eq_true h0, Bool.true_and] at q
        exact q
      · rw [decide_eq_false h0]
        refine iteF ?_
        simp only [belowD, decide_eq_false h0, Bool.false_and] at q
        exact q
    | none => exact iteF ⟨v, rfl, _, _, _, _, false, rfl, .ty "int", tyD hd, kit_ty (kitI _), _, rfl, iteT q⟩
    | str x => exact iteF ⟨v, rfl, _, _, _, _, false, rfl, .ty "int", tyD hd, kit_ty (kitI _), _, rfl, iteT q⟩
    | list x => exact iteF ⟨v, rfl, _, _, _, _, false, rfl, .ty "int", tyD hd, kit_ty (kitI _), _, rfl, iteT q⟩
    | tuple x => exact iteF ⟨v, rfl, _, _, _, _, false, rfl, .ty "int", tyD hd, kit_ty (kitI _), _, rfl, iteT q⟩
    | dict x => cases hd
def spAscA (K : PySem.W.Frag) : Sp := fun vs H Q _ => ∃ (v : V) (d : PyData) (n : Nat) (l : Int), vs = [v, .int l] ∧ Dp K H v d ∧ Fit n d ∧ ∀ H', Same H H' → Q (.bl (ascD l d)) H'
/-- a rule or not: data of any kind, or {} -/
def spRuleA (K : PySem.W.Frag) : Sp := fun vs H Q _ => ∃ v : V, vs = [v] ∧ ((∃ (d : PyData) (n : Nat), Dp K H v d ∧ Fit (n + 1) d ∧ ∀ H', Same H H' → Q (.bl (ruleD d)) H') ∨ ∃ a : Addr, v = .ref a ∧ H a = some (.dK []) ∧ Q (.bl false) H)
end
end Nm

namespace GL
open PySem PySem.Spec PyProof.Rows L2
/-! ### data of any kind where tables grow -/
mutual
theorem dpE {TT : Tbs} {K : PySem.W.Frag} {H H' : Hp} (s : Ex TT H H') : ∀ (d : PyData) (v : V), Dp K H v d → Dp K H' v d
  | .none, _, h => by cases h; exact .non
  | .bool _, _, h => by cases h; exact .bl _
  | .int _, _, h => by cases h; exact .int _
  | .str _, _, h => by cases h; exact .str _
  | .list ds, _, h => by
    cases h with
    | lst hs ha => exact .lst (s.seq hs) (dpEA s ds _ ha)
  | .tuple ds, _, h => by
    cases h with
    | tup hs ha => exact .tup (Nm.Ex.seqT s hs) (dpEA s ds _ ha)
  | .dict _, _, h => by cases h
theorem dpEA {TT : Tbs} {K : PySem.W.Frag} {H H' : Hp} (s : Ex TT H H') : ∀ (ds : List PyData) (vs : List V), DpAll K H vs ds → DpAll K H' vs ds
  | [], _, h => by cases h; exact .nil
  | d :: ds, _, h => by
    cases h with
    | cons h1 h2 => exact .cons (dpE s d _ h1) (dpEA s ds _ h2)
end
end GL
namespace Nm
open PySem PySem.Spec PyProof.Rows L2 GL LamX NdefX StX
/-! ### the program's certificates -/
/-! sCert -/
/-! sServing -/
/-! sIsRow -/
/-! sFailing -/
/-! sShowsC -/
abbrev nCert : List Str := ["rule", "mirrors", "marks", "gone", "mark"]
abbrev nServing : List Str := ["rule", "mirrors", "marks", "mark"]
abbrev nIsRow : List Str := ["rule", "mirrors", "value"]
abbrev nFailing : List Str := ["rule", "mirrors", "rows", "mark", "lying", "marks", "at", "row", "other"]
abbrev nShowsC : List Str := ["rule", "mirrors", "value", "word", "shown"]
/-! what they say, of data -/
def intsD : PyData → List Int | .tuple ds => ds.map toI | _ => []
def emptyD : PyData → Bool | .tuple ds => ds.isEmpty | _ => true
def servD (T : List (List Int)) (mir : Nat) (d : PyData) : Bool := (ascD T.length d && !emptyD d) && (intsD d).all fun m => !stopL T m (intsD d) (setsL mir T.length)
def isRowD (T : List (List Int)) (mir : Nat) : PyData → Bool | .tuple [a, b] => (belowD T.length a && ascD T.length b) && decide ((intsD b).length ≤ mir) | _ => false
def rowP : PyData → Int × List Int | .tuple [a, b] => (toI a, intsD b) | _ => (0, [])
def rowsP : PyData → List (Int × List Int) | .tuple ds => ds.map rowP | _ => []
/-- each row's fitting marks are those of earlier rows -/
def earlier (T : List (List Int)) (rows : List (Int × List Int)) : Nat → Bool := fun i => (fitL T (rows.getD i (0, [])).1 (rows.getD i (0, [])).2).all fun x => decide (x ∈ (rows.map (·.1)).take i)
def failD (T : List (List Int)) (mir : Nat) : PyData → Bool | .tuple ds => ds.all (isRowD T mir) && (decide (((ds.map rowP).map (·.1)).Perm (rangeI T.length)) && (List.range ds.length).all (earlier T (ds.map rowP))) | _ => false
def certD (T : List (List Int)) (mir : Nat) : PyData → Bool | .tuple [w, s] => if PyData.eqv w (.str "serves") = true then servD T mir s else if PyData.eqv w (.str "fails") = true then failD T mir s else false | _ => false
section
variable {P : Program} {w : World} {K : PySem.W.Frag} {mg : Str → Option Value} {base : Heap}
def spAttackT (K : PySem.W.Frag) (TT : Tbs) : Sp := fun vs H Q _ => ∃ (p l : Addr) (mir : Nat) (m : Int) (T : List (List Int)) (left : List Int), vs = [.ref p, .int mir, .int m, .ref l] ∧ mir ≤ 3 ∧ Tbl H p T ∧ IsRule T ∧ 0 ≤ m ∧ SqT K H l (left.map V.int) ∧ (∀ x ∈ left, 0 ≤ x ∧ x < (T.length : Int)) ∧ left.length ≤ 16 ∧ Tabs TT H ∧
  (∀ H', Ex TT H H' → NoBar T mir (aheadL T m left) → Q .non H') ∧ ∀ (c : Addr) (ys : List Int) (H' : Hp), Ex TT H H' → H' c = some (.tup (ys.map V.int)) → Bars T mir (aheadL T m left) ys → Q (.ref c) H'
theorem ok_attackT {TT : Tbs} {f : Addr} {fd : FuncData} {k : Nat} (F : Fun K "attack" "attack" sAttack f fd) (D : Gam K mg base TT) : FnOk P w K mg base CX0 (k + 7) f fd ["rule", "mirrors", "mark", "left"] (spAttackT K TT) := by
  obtain ⟨⟨fB, dB, DB⟩, ⟨fY, dY, FY, bY, gY⟩, _, _, ml, _, _, _⟩ := D
  have GB : FnOk P w K mg base CX0 (k + 6) fB dB ["rule", "mirrors", "marks"] (spBar TT 4) := ok_barring (k := k) DB 4
  have GY : FnOk P w K mg base CX0 (k + 6) fY dY ["rule", "mark", "other"] (spMay K) := ok_may FY ml
  obtain ⟨_, _, _, _, ⟨_, _, FC, _⟩, bB, gB⟩ := DB
  refine F.ok scAttack (fun vs H Q E h => ?_) (fun cdv A outer s H vs Q E hr h => ?_)
  · obtain ⟨p, l, mir, m, T, left, rfl, _⟩ := h
    rfl
  · obtain ⟨p, l, mir, m, T, left, rfl, m3, hT, rule, m0, hl, bd, nl, tabs, qN, qY⟩ := h
    refine ⟨_, pss_one (ps_ret (pe_call GB hr (by rfl) gB FC.kept bB .nil pass0 (pa_cons (pv 0) (pa_cons (pv 1) (pa_cons
        (pe_lc (own := [("other", 4)]) (g := gName 4) (by rfl) scAttack.nd (piTupK (K := K) (pv 3))
          (blkOk_by (own := [("other", 4)]) (N := nAttack) (sc := defScope sAttack) (by decide +kernel))
          (fun _ _ _ _ _ => pg_name (i := 4) scAttack.nd rfl (Or.inl rfl))
          (fun _ _ _ _ _ => pts_one (pt_val (pe_call GY hr (by rfl) gY FY.kp bY .nil pass0 (pa_cons (pv 0) (pa_cons (pv 2) (pa_cons (pv 4) pa_nil))))))
          (fun _ _ _ _ _ => pv 4)) pa_nil))))), ?_⟩
    refine ⟨.ref p, rfl, .int mir, rfl, .ref l, rfl, l, rfl, ⟨_, hl⟩, fun D nD => ?_⟩
    have sD := same_upd (o := .lst []) nD
    refine lc_tup (K := K) (a := l) (xs := left.map V.int) (fun j H4 => H4 D = some (.lst ((aheadL T m (left.take j)).map V.int)) ∧ Same H H4) ⟨upd_same, sD⟩ (fun j H4 _ h => Nm.Same.seqT h.2 hl) ?_ ?_
    · rintro j x H4 hx ⟨hD, s4⟩
      obtain ⟨y, hy, rfl⟩ := int_at hx
      have tz : left.take (j + 1) = left.take j ++ [y] := by
        rw [List.take_add_one, hy]
        rfl
      refine ⟨rfl, .ref p, rfl, .int m, rfl, .int y, rfl, p, T, m, y, rfl, hT.same s4, m0, _, rfl, ite2 (fun e => ?_) (fun e => ?_)⟩
      · have e' : y ∈ behL T m := of_decide_eq_true e
        refine ⟨_, rfl, _, hD, ?_, ?_, ?_⟩
        · rw [List.length_map]
          exact lenLine (Nat.lt_of_le_of_lt (List.length_filter_le _ _) (by rw [List.length_take]; omega))
        · rw [upd_same, tz]
          unfold aheadL
          rw [List.filter_append, List.map_append, List.filter_cons_of_pos (by simpa using e')]
          rfl
        · intro b o hb
          rw [upd_ne (ne_of_none hb nD)]
          exact s4 _ _ hb
      · have e' : ¬ y ∈ behL T m := fun z => e (decide_eq_true z)
        refine ⟨?_, s4⟩
        rw [hD, tz]
        unfold aheadL
        rw [List.filter_append, List.filter_cons_of_neg (by simpa using e')]
        simp
    · rintro H4 ⟨hD, s4⟩
      rw [List.length_map, List.take_length] at hD
      have ex4 : Ex TT H H4 := .of s4
      exact ⟨p, D, mir, T, aheadL T m left, rfl, by omega, m3, hT.ex ex4, rule, hD, fun x hx => bd x (ahead_mem.mp hx).1, Nat.le_trans (List.length_filter_le _ _) nl, ex4.tb tabs, fun H5 ex5 nb => qN H5 (ex4.trans ex5) nb, fun c ys H5 ex5 hc b => qY c ys H5 (ex4.trans ex5) hc b⟩
def spServing (K : PySem.W.Frag) (TT : Tbs) : Sp := fun vs H Q _ => ∃ (a : Addr) (mir : Nat) (T : List (List Int)) (v : V) (d : PyData) (n : Nat), vs = [.ref a, .int mir, v] ∧ Tbl H a T ∧ IsRule T ∧ mir ≤ 3 ∧ Dp K H v d ∧ Fit n d ∧ Tabs TT H ∧ ∀ H', Ex TT H H' → Q (.bl (servD T mir d)) H'
theorem asc_good {n : Nat} {ds : List PyData} (h : ascD n (.tuple ds) = true) : Good n (ds.map toI) := by
  unfold ascD at h
  rw [Bool.and_eq_true, decide_eq_true_eq, List.all_eq_true] at h
  refine ⟨h.2, fun x hx => ?_⟩
  obtain ⟨d, hd, rfl⟩ := List.mem_map.mp hx
  have z := h.1 d hd
  cases d with
  | int i =>
    unfold belowD at z
    rw [Bool.and_eq_true, decide_eq_true_eq, decide_eq_true_eq] at z
    exact z
  | _ => cases z
theorem asc_all {n : Nat} {ds : List PyData} (h : ascD n (.tuple ds) = true) : ds.all (belowD n) = true := by
  unfold ascD at h
  rw [Bool.and_eq_true] at h
  exact h.1
theorem asc_tup {n : Int} {d : PyData} (h : ascD n d = true) : ∃ ds, d = .tuple ds := by
  cases d with
  | tuple ds => exact ⟨ds, rfl⟩
  | _ => cases h
end
end Nm

namespace GL
open PySem PySem.Spec PyProof.Rows L2
theorem slLstK {X : Cx} {K : PySem.W.Frag} (hK : X.K = K := by rfl) : SlR X (rSlL K) := by
  subst hK
  exact sl_list
end GL
namespace Nm
open PySem PySem.Spec PyProof.Rows L2 GL LamX NdefX StX
theorem eqvL : ∀ a b : List Int, PyData.eqv (.list (a.map PyData.int)) (.list (b.map PyData.int)) = decide (a = b) := fun a b => by
  show PyData.eqvAll _ _ = _
  induction a generalizing b with
  | nil => cases b <;> simp [PyData.eqvAll]
  | cons x a ih =>
    cases b with
    | nil => simp [PyData.eqvAll]
    | cons y b =>
      simp only [List.map_cons, PyData.eqvAll, PyData.eqv, ih, List.cons.injEq, Bool.decide_and]
      rfl
theorem le_ext {l₁ l₂ : List Int} (p : l₁.Perm l₂) (h1 : l₁.Pairwise (· ≤ ·)) (h2 : l₂.Pairwise (· ≤ ·)) : l₁ = l₂ := p.eq_of_pairwise (fun a b _ _ h k => Int.le_antisymm h k) h1 h2
theorem fit_two {n : Nat} {ds : List PyData} (h : Fit n (.tuple ds)) : ds.length ≤ 40 ∧ ∃ m, n = m + 1 ∧ ∀ x ∈ ds, Fit m x := by
  cases n with
  | zero => unfold Fit at h; exact h.elim
  | succ n => unfold Fit at h; exact ⟨h.1, n, rfl, h.2⟩
section
variable {P : Program} {w : World} {K : PySem.W.Frag} {mg : Str → Option Value} {base : Heap}
def spIsRow (K : PySem.W.Frag) : Sp := fun vs H Q _ => ∃ (a : Addr) (mir : Nat) (T : List (List Int)) (v : V) (d : PyData) (n : Nat), vs = [.ref a, .int mir, v] ∧ Tbl H a T ∧ Dp K H v d ∧ Fit n d ∧ ∀ H', Same H H' → Q (.bl (isRowD T mir d)) H'
theorem row_at {T : List (List Int)} {mir : Nat} {H : Hp} {xs : List V} {ds : List PyData} {i : Nat} {x : V} (h : DpAll K H xs ds) (all : ds.all (isRowD T mir) = true) (e : xs[i]? = some x) :
    ∃ (r b : Addr) (d : PyData) (m : Int) (ys : List Int), x = .ref r ∧ ds[i]? = some d ∧ rowP d = (m, ys) ∧ SqT K H r [.int m, .ref b] ∧ SqT K H b (ys.map V.int) ∧ 0 ≤ m ∧ m < (T.length : Int) ∧ Good T.length ys ∧ ys.length ≤ mir := by
  obtain ⟨d, hd, dp⟩ := DpAll.at h e
  have ok := List.all_eq_true.mp all d (List.mem_of_getElem? hd)
  match d, ok, dp, hd with
  | .tuple [d0, d1], ok, dp, hd =>
    simp only [isRowD, Bool.and_eq_true, decide_eq_true_eq] at ok
    obtain ⟨⟨e1, e2⟩, e3⟩ := ok
    cases dp with
    | @tup r vs _ hs hall =>
    cases hall with
    | @cons v0 _ _ _ h0 hr0 =>
    cases hr0 with
    | @cons v1 _ _ _ h1 hr1 =>
    cases hr1
    obtain ⟨es, rfl⟩ := asc_tup e2
    cases d0 with
    | int m =>
      cases h0
      cases h1 with
      | @tup b zs _ hb hz =>
      have ex := dp_ints hz (asc_all e2)
      have gd := asc_good e2
      subst ex
      unfold belowD at e1
      rw [Bool.and_eq_true, decide_eq_true_eq, decide_eq_true_eq] at e1
      exact ⟨r, b, _, m, es.map toI, rfl, hd, rfl, hs, hb, e1.1, e1.2, gd, e3⟩
    | _ => cases e1
  | .tuple [], ok, _, _ => cases ok
  | .tuple [_], ok, _, _ => cases ok
  | .tuple (_ :: _ :: _ :: _), ok, _, _ => cases ok
  | .none, ok, _, _ => cases ok
  | .bool _, ok, _, _ => cases ok
  | .int _, ok, _, _ => cases ok
  | .str _, ok, _, _ => cases ok
  | .list _, ok, _, _ => cases ok
  | .dict _, ok, _, _ => cases ok
def spFailing (K : PySem.W.Frag) : Sp := fun vs H Q _ => ∃ (a : Addr) (mir : Nat) (T : List (List Int)) (v : V) (d : PyData) (n : Nat), vs = [.ref a, .int mir, v] ∧ Tbl H a T ∧ IsRule T ∧ mir ≤ 3 ∧ Dp K H v d ∧ Fit n d ∧ ∀ H', Same H H' → Q (.bl (failD T mir d)) H'
end
end Nm

namespace Nm
open PySem PySem.Spec PyProof.Rows L2 GL LamX NdefX StX
/-! ### certificate, shows_certificate -/
def rowE (p : Int × List Int) : PyData := .tuple [.int p.1, rowD p.2]
structure FailRows (T : List (List Int)) (mir : Nat) (rows : List (Int × List Int)) : Prop where
  perm : (rows.map (·.1)).Perm (rangeI T.length)
  good : ∀ p ∈ rows, Good T.length p.2 ∧ p.2.length ≤ mir
  ok : ∀ i p, rows[i]? = some p → ∀ x ∈ fitL T p.1 p.2, x ∈ (rows.map (·.1)).take i
theorem intsD_row (ns : List Int) : intsD (rowD ns) = ns := by
  show (ns.map PyData.int).map toI = ns
  rw [List.map_map]
  exact List.map_id _
theorem ascD_row {n : Nat} {ns : List Int} (g : Good n ns) : ascD n (rowD ns) = true := by
  show ((ns.map PyData.int).all (belowD n) && decide (((ns.map PyData.int).map toI).Pairwise (· < ·))) = true
  have e : (ns.map PyData.int).map toI = ns := intsD_row ns
  rw [e, decide_eq_true g.1, Bool.and_true, List.all_eq_true]
  intro d hd
  obtain ⟨x, hx, rfl⟩ := List.mem_map.mp hd
  have := g.2 x hx
  simp [belowD, this.1, this.2]
theorem rowP_E (p : Int × List Int) : rowP (rowE p) = p := by
  show (p.1, intsD (rowD p.2)) = p
  rw [intsD_row]
theorem rowsP_E (rows : List (Int × List Int)) : (rows.map rowE).map rowP = rows := by
  rw [List.map_map]
  conv => rhs; rw [← List.map_id rows]
  exact List.map_congr_left fun p _ => rowP_E p
theorem fail_true {T : List (List Int)} {mir : Nat} {rows : List (Int × List Int)} (h : FailRows T mir rows) : failD T mir (.tuple (rows.map rowE)) = true := by
  have mem : ∀ p ∈ rows, 0 ≤ p.1 ∧ p.1 < (T.length : Int) := fun p hp => mem_rangeI.mp (h.perm.mem_iff.mp (List.mem_map.mpr ⟨p, hp, rfl⟩))
  simp only [failD]
  rw [rowsP_E, Bool.and_eq_true, Bool.and_eq_true, decide_eq_true_eq]
  refine ⟨?_, h.perm, ?_⟩
  · rw [List.all_eq_true]
    intro d hd
    obtain ⟨p, hp, rfl⟩ := List.mem_map.mp hd
    obtain ⟨g, l⟩ := h.good p hp
    have m := mem p hp
    show ((belowD T.length (.int p.1) && ascD T.length (rowD p.2)) && decide ((intsD (rowD p.2)).length ≤ mir)) = true
    rw [ascD_row g, intsD_row, decide_eq_true l]
    simp [belowD, m.1, m.2]
  · rw [List.all_eq_true]
    intro i hi
    rw [List.mem_range, List.length_map] at hi
    unfold earlier
    rw [List.all_eq_true]
    intro x hx
    have e : rows[i]? = some (rows.getD i (0, [])) := by
      rw [List.getD_eq_getElem?_getD, List.getElem?_eq_getElem hi]
      rfl
    exact decide_eq_true (h.ok i _ e x hx)
theorem serv_true {T : List (List Int)} {mir : Nat} (r : IsRule T) (ne : coreL T mir ≠ []) : servD T mir (rowD (coreL T mir)) = true := by
  unfold servD
  rw [intsD_row, ascD_row core_good]
  have e : emptyD (rowD (coreL T mir)) = false := by
    cases h : coreL T mir with
    | nil => exact absurd h ne
    | cons a b => rfl
  rw [e]
  show (coreL T mir).all _ = true
  rw [List.all_eq_true]
  intro m hm
  have : stopL T m (coreL T mir) (setsL mir T.length) = false := by
    cases e : stopL T m (coreL T mir) (setsL mir T.length) with
    | false => rfl
    | true =>
      obtain ⟨ss, h1, h2⟩ := stop_iff.mp e
      obtain ⟨x, hx, hc⟩ := core_fits r hm (setsL_row mir T.length ss h1).1
      exact absurd hc (h2 x hx)
  rw [this]
  rfl
/-! what is left, what is gone -/
theorem left_flat (T every : List (List Int)) : ∀ (k : Nat) (left0 : List Int) (i : Nat) (left row : List Int), (roundsP T every k left0)[i]? = some (left, row) → ∀ x ∈ left0, x ∉ left → x ∈ ((roundsL T every k left0).take i).flatten
  | 0, left0, i, left, row, h, x, hx, nx => by simp [roundsP] at h
  | k + 1, left0, i, left, row, h, x, hx, nx => by
    unfold roundsP at h
    unfold roundsL
    by_cases e : goneL T every left0 = []
    · rw [if_pos e] at h
      simp at h
    · rw [if_neg e] at h ⊢
      cases i with
      | zero =>
        simp at h
        rw [h.1] at hx
        exact absurd hx nx
      | succ i =>
        rw [List.getElem?_cons_succ] at h
        rw [List.take_succ_cons, List.flatten_cons, List.mem_append]
        by_cases g : x ∈ goneL T every left0
        · exact .inl g
        · exact .inr (left_flat T every k _ i left row h x (stay_mem.mpr ⟨hx, g⟩) nx)
theorem rounds_perm (T every : List (List Int)) : ∀ (k : Nat) (left : List Int), ((roundsL T every k left).flatten ++ finalL T every k left).Perm left
  | 0, left => List.Perm.refl _
  | k + 1, left => by
    unfold roundsL finalL
    by_cases e : goneL T every left = []
    · rw [if_pos e, if_pos e]
      exact List.Perm.refl _
    · rw [if_neg e, if_neg e, List.flatten_cons, List.append_assoc]
      refine ((rounds_perm T every k _).append_left _).trans ?_
      rw [stay_gone]
      exact List.filter_append_perm _ _
theorem removed_perm {T : List (List Int)} {mir : Nat} (h : coreL T mir = []) : (removedL T mir).flatten.Perm (rangeI T.length) := by
  have p := rounds_perm T (setsL mir T.length) (T.length + 1) (rangeI T.length)
  have f : finalL T (setsL mir T.length) (T.length + 1) (rangeI T.length) = [] := by
    refine List.eq_nil_iff_forall_not_mem.mpr fun x hx => ?_
    have := core_mem.mpr hx
    rw [h] at this
    cases this
  rw [f, List.append_nil] at p
  exact p
theorem valV_at : ∀ {kvs : List (Key × V)} {j : Nat} {k : Key} {v : V}, (kvs.map (·.1)).Nodup → kvs[j]? = some (k, v) → valV kvs k = some v
  | [], j, k, v, _, h => by simp at h
  | (k0, v0) :: kvs, 0, k, v, nd, h => by
    simp at h
    obtain ⟨rfl, rfl⟩ := h
    simp [valV]
  | (k0, v0) :: kvs, j + 1, k, v, nd, h => by
    rw [List.getElem?_cons_succ] at h
    rw [List.map_cons, List.nodup_cons] at nd
    have ne : k0 ≠ k := fun z => nd.1 (by rw [z]; exact List.mem_map.mpr ⟨(k, v), List.mem_of_getElem? h, rfl⟩)
    have ih := valV_at nd.2 h
    unfold valV at ih ⊢
    rw [List.find?_cons_of_neg (by simpa using ne)]
    exact ih
section
variable {P : Program} {w : World} {K : PySem.W.Frag} {mg : Str → Option Value} {base : Heap}
def spShowsC (K : PySem.W.Frag) (TT : Tbs) : Sp := fun vs H Q _ => ∃ (a : Addr) (mir : Nat) (T : List (List Int)) (v : V) (d : PyData) (n : Nat), vs = [.ref a, .int mir, v] ∧ Tbl H a T ∧ IsRule T ∧ mir ≤ 3 ∧ Dp K H v d ∧ Fit n d ∧ (∀ w s, d = .tuple [w, s] → SeqAt.shaped w = true) ∧ Tabs TT H ∧ ∀ H', Ex TT H H' → Q (.bl (certD T mir d)) H'
def spCert (K : PySem.W.Frag) (TT : Tbs) : Sp := fun vs H Q _ => ∃ (a : Addr) (mir : Nat) (T : List (List Int)), vs = [.ref a, .int mir] ∧ Tbl H a T ∧ IsRule T ∧ mir ≤ 3 ∧ Tabs TT H ∧
  (coreL T mir ≠ [] → ∀ (c : Addr) (H' : Hp), Ex TT H H' → Dp K H' (.ref c) (.tuple [.str "serves", rowD (coreL T mir)]) → Q (.ref c) H') ∧
  (coreL T mir = [] → ∀ (c : Addr) (rows : List (Int × List Int)) (H' : Hp), Ex TT H H' → Dp K H' (.ref c) (.tuple [.str "fails", .tuple (rows.map rowE)]) → FailRows T mir rows → Q (.ref c) H')
/-- rows of a certificate, in the heap -/
def CRows (H : Hp) (rs : List Addr) (rows : List (Int × List Int)) : Prop := Paired (fun r p => ∃ b : Addr, H r = some (.tup [.int p.1, .ref b]) ∧ H b = some (.tup (p.2.map V.int))) rs rows
theorem CRows.dp {H : Hp} {rs : List Addr} {rows : List (Int × List Int)} (h : CRows H rs rows) : DpAll K H (rs.map V.ref) (rows.map rowE) := by
  unfold CRows at h
  induction h with
  | nil => exact .nil
  | cons a b ih =>
    obtain ⟨c, h1, h2⟩ := a
    exact .cons (.tup (SqT.of h1) (.cons (.int _) (.cons (dpRow h2) .nil))) ih
theorem CRows.mp {H H' : Hp} {rs : List Addr} {rows : List (Int × List Int)} (h : CRows H rs rows) (k : KT H H') : CRows H' rs rows := Paired.mapP h fun r p ⟨b, h1, h2⟩ => ⟨b, k _ _ h1, k _ _ h2⟩
end
end Nm

namespace Ga
open PySem PySem.Spec PyProof.Rows L2
/-! Comprehensions of any kind, one clause below another: a piece of the block is what is done below a clause's tests; a clause over a piece is a piece. -/
abbrev F0 : Value → Shared → Prop := fun _ _ => False
abbrev Pt := (Shared → Prop) → Shared → Prop
abbrev TB := L2.St → Hp → (Hp → Prop) → Prop
/-- from known slots and heap to known slots (but vs) and heap -/
structure Piece (Y : Cx) (B : Pt) (vs : List Nat) (t : TB) : Prop where
  does : ∀ (pins : List (Addr × Obj)) (s : Shared) (σ : L2.St) (H : Hp) (N : Hp → Prop), Inv Y pins σ H s → t σ H N → B (fun z => ∃ H', Inv Y pins (wipe σ vs) H' z ∧ N H') s
/-- one turn of the loop at depth d, B below its tests -/
def Steps (M : Model) (A : Around) (env : Env) (e : Expr) (d : Nat) (acc : Value) (tg : Expr) (ifs : List Expr) (B : Pt) : Prop :=
  ∀ (it : Value) (Q : Fin → Shared → Prop) (s : Shared),
    wpAny M A (pyNext it) (fun r a => match r with
      | none => Q (.done .next) a
      | some v => wpAny M A (letOwnedTupleGo tg it v) (fun _ b => wpAny M A (assign tg env v) (fun _ c =>
          wpAny M A (forIn ifs true fun q r => if r = true then do let ok ← isTrue q env (eval q env); pure (ForInStep.yield ok) else pure (ForInStep.yield r))
            (fun ok z => if ok = true then B (Q (.again (.compLoop e d it acc env))) z else Q (.again (.compLoop e d it acc env)) z) F0 c) F0 b) F0 a) F0 s →
    wpAny M A (compTurn e d it acc env) Q F0 s
theorem mono0 {α : Type} {M : Model} {A : Around} {t : Sem α} {Q Q' : α → Shared → Prop} {E : Value → Shared → Prop} {s : Shared} (h : wpAny M A t Q F0 s) (k : ∀ a z, Q a z → Q' a z) : wpAny M A t Q' E s :=
  wpAny_mono h k fun _ _ f => f.elim
/-- no frame of its own -/
structure Plain (M : Model) (A : Around) (env : Env) (e : Expr) (d : Nat) (acc : Value) : Prop where
  lu : ∀ it, A.under (.compLoop e d it acc env) = A
  ld : ∀ it, M.den (.compLoop e d it acc env) = (compTurn e d it acc env).onRaise fun x => do noteFrame x env; theTreesLotGoes x
  su : ∀ it, A.under (.compStart e d it acc env) = A
  sd : ∀ it, M.den (.compStart e d it acc env) = (compStart e d it acc env).onRaise fun x => do noteFrame x env; standAt theWindowsPlace
  lq : ∀ it, (Code.compLoop e d it acc env).quiet = true
  sq : ∀ it, (Code.compStart e d it acc env).quiet = true
/-- the loop of a clause, by an invariant that falls -/
theorem loop_of {prog : Program} {w : World} {A : Around} {env : Env} {e : Expr} {d : Nat} {it acc : Value} {tg : Expr} {ifs : List Expr} {B : Pt} (hm : ∀ (Q Q' : Shared → Prop) (s : Shared), (∀ z, Q z → Q' z) → B Q s → B Q' s) (pl : Plain (model prog w) A env e d acc)
    (T : Steps (model prog w) A env e d acc tg ifs B) {R : Result → Shared → Prop} (J : Nat → Shared → Prop)
    (turn : ∀ n s, J n s → wpAny (model prog w) A (pyNext it) (fun r a => match r with
      | none => R (.ok .next) a
      | some v => wpAny (model prog w) A (letOwnedTupleGo tg it v) (fun _ b => wpAny (model prog w) A (assign tg env v) (fun _ c =>
          wpAny (model prog w) A (forIn ifs true fun q r => if r = true then do let ok ← isTrue q env (eval q env); pure (ForInStep.yield ok) else pure (ForInStep.yield r))
            (fun ok z => if ok = true then B (fun y => ∃ m, m < n ∧ J m y) z else ∃ m, m < n ∧ J m z) F0 c) F0 b) F0 a) F0 s) {s : Shared} (n : Nat) (h : J n s) :
    codeAny (model prog w) A (.compLoop e d it acc env) R s := by
  refine codeAny_loop (pl.lq it) J (fun k z hz => ?_) n h
  rw [pl.lu, pl.ld]
  refine wpAny_noted (mono0 (T it _ z (wpAny_mono (turn k z hz) (fun r a ha => ?_) fun _ _ f => f)) fun _ _ q => q)
  cases r with
  | none => exact ha
  | some v =>
    refine wpAny_mono ha (fun _ b hb => wpAny_mono hb (fun _ c hc => wpAny_mono hc (fun ok y hy => ?_) fun _ _ f => f) fun _ _ f => f) fun _ _ f => f
    cases ok with
    | false => exact ⟨rfl, hy⟩
    | true => exact hm _ _ _ (fun y' q => ⟨rfl, q⟩) hy
/-- the turns of a clause, as they are read -/
def Turns (J : It) (g : TG) (tt : TT) (vs : List Nat) (tb : TB) (σ : L2.St) (N : Hp → Prop) (H1 : Hp) : Prop :=
  ∃ W : Nat → Nat → Hp → Prop, (∃ m, W 0 m H1) ∧ ∀ i m H, W i m H → (J.stop i H ∧ N H) ∨
    (J.go i H ∧ ∃ Nx : Hp → Prop, (∀ H', Nx H' → ∃ m', m' < m ∧ W (i + 1) m' H') ∧
      ∀ x H', J.yld i H x H' → g x (wipe σ vs) H' fun σ2 H2 => wipe σ2 vs = wipe σ vs ∧ tt σ2 H2 fun b H3 => if b = true then tb σ2 H3 Nx else Nx H3)
/-- by a walk -/
theorem Turns.walk {J : It} {n : Nat} {G : Hp → Prop} {Y : Nat → Hp → V → Hp → Prop} (w : Walk J n G Y) {g : TG} {tt : TT} {vs : List Nat} {tb : TB} {σ : L2.St} {N : Hp → Prop} {H1 : Hp} (Pv : Nat → Hp → Prop) (h0 : Pv 0 H1)
    (hG : ∀ i H, i ≤ n → Pv i H → G H)
    (hs : ∀ i x H H', i < n → Pv i H → Y i H x H' → g x (wipe σ vs) H' fun σ2 H2 => wipe σ2 vs = wipe σ vs ∧ tt σ2 H2 fun b H3 => if b = true then tb σ2 H3 (Pv (i + 1)) else Pv (i + 1) H3)
    (hd : ∀ H, Pv n H → N H) : Turns J g tt vs tb σ N H1 := by
  refine ⟨fun i m H => m + i = n ∧ Pv i H, ⟨n, by simp, h0⟩, fun i m H hW => ?_⟩
  obtain ⟨e, p⟩ := hW
  have gH := hG i H (by omega) p
  rcases Nat.lt_or_ge i n with lt | ge
  · exact .inr ⟨w.goes i H lt gH, Pv (i + 1), fun H' p' => ⟨m - 1, by omega, by omega, p'⟩, fun x H' y => hs i x H H' lt p (w.yields i H x H' lt gH y)⟩
  · have : i = n := by omega
    subst this
    exact .inl ⟨w.stops H gH, hd H p⟩
/-- the loop at an iterator that has come -/
theorem turns_run {Y : Cx} {e : Expr} {d : Nat} {acc : Value} {tg : Expr} {ifs : List Expr} {B : Pt} {J : It} {fp : List Addr} {it : Addr} {tn : Nat → Heap → Prop} {g : TG} {tt : TT} {tb : TB} {vs vb : List Nat} {pins : List (Addr × Obj)} {σ : L2.St} {N : Hp → Prop}
    (hm : ∀ (Q Q' : Shared → Prop) (s : Shared), (∀ z, Q z → Q' z) → B Q s → B Q' s) (pl : Plain (model Y.prog Y.w) Y.A Y.env e d acc)
    (S : Steps (model Y.prog Y.w) Y.A Y.env e d acc tg ifs B) (hc : Y.calm = true) (hx : Y.xe = F0) (hg : PG Y tg g) (ht : PTs Y ifs tt) (hb : Piece Y B vb tb) (hv : ∀ i ∈ vb, i ∈ vs)
    (T : Turn Y.prog Y.w Y.K tg J fp it tn) (free : ∀ H', (∀ b ∈ fp, H' b = none) → ∀ b ∈ fp, FpOk Y pins H' b) {R : Result → Shared → Prop}
    (fin : ∀ H' z, Inv Y pins (wipe σ vs) H' z → (∀ b ∈ fp, H' b = none) → N H' → R (.ok .next) z)
    {s : Shared} {H1 : Hp} (I : Inv Y pins (wipe σ vs) H1 s) (t0 : tn 0 s.heap) (f0 : ∀ b ∈ fp, H1 b = none) (h : Turns J g tt vs tb σ N H1) :
    codeAny (model Y.prog Y.w) Y.A (.compLoop e d (.ref it) acc Y.env) R s := by
  obtain ⟨W, ⟨m0, w0⟩, turn⟩ := h
  refine loop_of hm pl S (fun n z => ∃ i H', Inv Y pins (wipe σ vs) H' z ∧ tn i z.heap ∧ (∀ b ∈ fp, H' b = none) ∧ W i n H') ?_ m0 ⟨0, H1, I, t0, f0, w0⟩
  rintro n z ⟨i, H2, I2, t2, f2, w2⟩
  rcases turn i n H2 w2 with ⟨stop, hN⟩ | ⟨go, Nx, hNx, step⟩
  · refine wpAny_mono (T.done Y rfl rfl rfl hc i pins z _ H2 F0 I2 (free H2 f2) t2 stop) (fun r y hy => ?_) fun _ _ f => f
    rw [hy.1]
    exact fin H2 y hy.2 f2 hN
  · refine wpAny_mono (T.item Y rfl rfl rfl hc i pins z _ H2 F0 I2 (free H2 f2) t2 go) (fun r y hy => ?_) fun _ _ f => f
    obtain ⟨u, rfl, hu⟩ := hy
    refine wpAny_mono hu (fun _ y1 hy1 => ?_) fun _ _ f => f
    obtain ⟨x, H3, I3, rx, yx, t3, f3⟩ := hy1
    have I3p := I3.pinned (free H3 f3) (T.obj _ _ t3)
    have run1 := hg.run _ y1 _ H3 x u _ I3p rx (step x H3 yx)
    rw [hx] at run1
    refine wpAny_mono run1 (fun _ y2 hy2 => ?_) fun _ _ f => f
    obtain ⟨σ2, H4, I4, hw, q4⟩ := hy2
    have run2 := ht.run _ y2 σ2 H4 _ I4 q4
    rw [hx] at run2
    -- back to the loop's invariant from slots that know enough
    have back : ∀ {σ9 : L2.St} {y : Shared} {H' : Hp}, Inv Y (pins ++ pinsAt fp y1.heap) σ9 H' y → σ9.length = σ2.length → (∀ (j : Nat) v, (wipe σ vs)[j]? = some (some v) → σ9[j]? = some (some v)) → Nx H' →
        ∃ m, m < n ∧ ∃ i H', Inv Y pins (wipe σ vs) H' y ∧ tn i y.heap ∧ (∀ b ∈ fp, H' b = none) ∧ W i m H' := by
      intro σ9 y H' I9 hl hk nx
      obtain ⟨m', lt, w'⟩ := hNx H' nx
      have stay : ∀ b ∈ fp, ∀ o, y1.heap.get? b = some o → y.heap.get? b = some o ∧ H' b = none := by
        intro b hb o ho
        have := I9.pin (b, o) (List.mem_append_right _ (List.mem_append_right _ (mem_pinsAt hb ho)))
        exact ⟨this.1, this.2.1⟩
      refine ⟨m', lt, i + 1, H', I9.unpinned.weak ?_ hk, T.keep _ _ _ t3 fun b hb o ho => (stay b hb o ho).1, fun b hb => ?_, w'⟩
      · rw [hl, ← hw, wipe_length]
      · obtain ⟨o, ho, _⟩ := T.obj _ _ t3 b hb
        exact (stay b hb o ho).2
    have know : ∀ (j : Nat) v, (wipe σ vs)[j]? = some (some v) → σ2[j]? = some (some v) ∧ j ∉ vs := fun j v ev => by
      rw [← hw] at ev
      exact wipe_some ev
    refine wpAny_mono run2 (fun ok y3 hy3 => ?_) fun _ _ f => f
    obtain ⟨H5, I5, q5⟩ := hy3
    cases ok with
    | false => exact back I5 rfl (fun j v ev => (know j v ev).1) (by simpa using q5)
    | true =>
      refine hm _ _ _ (fun y4 hy4 => ?_) (hb.does _ y3 σ2 H5 Nx I5 (by simpa using q5))
      obtain ⟨H6, I6, nx⟩ := hy4
      refine back I6 (wipe_length σ2 vb) (fun j v ev => ?_) nx
      obtain ⟨k1, k2⟩ := know j v ev
      rw [wipe_out fun mem => k2 (hv j mem)]
      exact k1
/-- what is below a clause that has another clause below it -/
def Under (M : Model) (A : Around) (env : Env) (e : Expr) (d : Nat) (acc : Value) (i1 : Expr) : Pt := fun Q s =>
  wpAny M A (eval i1 env) (fun x a => wpAny M A (pyIter x) (fun v b => codeAny M A (.compStart e d v acc env) (fun r z => match r with | .ok _ => Q z | .error _ => False) b) F0 a) F0 s
theorem Under.mono {M : Model} {A : Around} {env : Env} {e : Expr} {d : Nat} {acc : Value} {i1 : Expr} {Q Q' : Shared → Prop} {s : Shared} (k : ∀ z, Q z → Q' z) (h : Under M A env e d acc i1 Q s) : Under M A env e d acc i1 Q' s := by
  refine wpAny_mono h (fun x a ha => wpAny_mono ha (fun v b hb => codeAny_mono hb fun r z hz => ?_) fun _ _ f => f) fun _ _ f => f
  cases r with
  | ok f => exact k z hz
  | error x => exact hz
/-- a clause over a piece is a piece -/
theorem piece_for {Y : Cx} {e : Expr} {d : Nat} {acc : Value} {tg i1 : Expr} {ifs : List Expr} {B : Pt} {wi : TI} {g : TG} {tt : TT} {tb : TB} {vs vb : List Nat}
    (hm : ∀ (Q Q' : Shared → Prop) (s : Shared), (∀ z, Q z → Q' z) → B Q s → B Q' s) (pl : Plain (model Y.prog Y.w) Y.A Y.env e d acc)
    (S : Steps (model Y.prog Y.w) Y.A Y.env e d acc tg ifs B)
    (st : ∀ {R : Result → Shared → Prop} {it : Value} {s : Shared}, codeAny (model Y.prog Y.w) Y.A (.compLoop e d it acc Y.env) R s →
      wpAny (model Y.prog Y.w) Y.A (pyIter it) (fun v z => codeAny (model Y.prog Y.w) Y.A (.compLoop e d v acc Y.env) R z) F0 s → codeAny (model Y.prog Y.w) Y.A (.compStart e d it acc Y.env) R s)
    (hc : Y.calm = true) (hx : Y.xe = F0) (hi : PI Y tg i1 wi) (hg : PG Y tg g) (ht : PTs Y ifs tt) (hb : Piece Y B vb tb) (hv : ∀ i ∈ vb, i ∈ vs) :
    Piece Y (Under (model Y.prog Y.w) Y.A Y.env e d acc i1) vs (fun σ H N => wi σ H fun J H1 => Turns J g tt vs tb σ N H1) := by
  refine ⟨fun pins s σ H N I h => ?_⟩
  have r1 := hi.run pins s σ H _ I h
  rw [hx] at r1
  refine wpAny_mono r1 (fun x a ha => wpAny_mono ha (fun v b hb' => ?_) fun _ _ f => f) fun _ _ f => f
  obtain ⟨it, fp, tn, J, H1, rfl, I1, T, t0, f0, tr⟩ := hb'
  have free : ∀ H', (∀ b ∈ fp, H' b = none) → ∀ b ∈ fp, FpOk Y pins H' b := fun H' hn b hb => ⟨hn b hb, (f0 b hb).2⟩
  have L : codeAny (model Y.prog Y.w) Y.A (.compLoop e d (.ref it) acc Y.env) (fun r z => match r with | .ok _ => ∃ H', Inv Y pins (wipe σ vs) H' z ∧ N H' | .error _ => False) b :=
    turns_run (N := N) hm pl S hc hx hg ht hb hv T free (fun H' z I' _ n => ⟨H', I', n⟩) (I1.weak (wipe_length σ vs) fun j v ev => (wipe_some ev).1) t0 (fun b hb => (f0 b hb).1) tr
  exact st L (T.self Y.A 0 b _ F0 t0 L)

/-! ### one turn's text -/
def lastTurn (e : Expr) (d : Nat) (tg i0 : Expr) (ifs : List Expr) (emit : Sem Unit) (it acc : Value) (env : Env) : Sem Fin := do
  standAt i0.pos
  match ← pyNext it with
  | none => pure (.done .next)
  | some u =>
    letOwnedTupleGo tg it u
    assign tg env u
    let mut good := true
    for q in ifs do if good then good ← isTrue q env (eval q env)
    if good then emit
    again (.compLoop e d it acc env)
def moreTurn (e : Expr) (d : Nat) (tg i0 i1 : Expr) (ifs : List Expr) (it acc : Value) (env : Env) : Sem Fin := do
  standAt i0.pos
  match ← pyNext it with
  | none => pure (.done .next)
  | some u =>
    letOwnedTupleGo tg it u
    assign tg env u
    let mut good := true
    for q in ifs do if good then good ← isTrue q env (eval q env)
    if good then
      let y ← eval i1 env
      standAt i1.pos
      let y ← foldedSetIterable i1 env y
      let _ ← runOwn (.compStart e (d + 1) (← holding [y] (pyIter y)) acc env) env
    again (.compLoop e d it acc env)
section
variable {M : Model} {A : Around} {env : Env} {e : Expr} {d : Nat} {acc : Value} {tg i0 i1 : Expr} {ifs : List Expr} {emit : Sem Unit}
theorem steps_last (h : ∀ it, compTurn e d it acc env = lastTurn e d tg i0 ifs emit it acc env) : Steps M A env e d acc tg ifs (fun Q s => wpAny M A emit (fun _ z => Q z) F0 s) := by
  intro it Q s hs
  rw [h]
  unfold lastTurn
  refine wpAny_bind (wpAny_standAt (wpAny_bind (wpAny_mono hs (fun r a ha => ?_) fun _ _ f => f)))
  cases r with
  | none => exact wpAny_pure ha
  | some u =>
    refine wpAny_bind (wpAny_mono ha (fun _ b hb => wpAny_bind (wpAny_mono hb (fun _ c hc => wpAny_bind (wpAny_mono hc (fun ok z hz => ?_) fun _ _ f => f)) fun _ _ f => f)) fun _ _ f => f)
    cases ok with
    | false => exact wpAny_pure (by simpa using hz)
    | true => exact wpAny_bind (wpAny_mono (show wpAny M A emit _ F0 z by simpa using hz) (fun _ y hy => wpAny_pure hy) fun _ _ f => f)
theorem steps_more (h : ∀ it, compTurn e d it acc env = moreTurn e d tg i0 i1 ifs it acc env) (hs1 : ∀ x, foldedSetIterable i1 env x = pure x) : Steps M A env e d acc tg ifs (Under M A env e (d + 1) acc i1) := by
  intro it Q s hs
  rw [h]
  unfold moreTurn
  refine wpAny_bind (wpAny_standAt (wpAny_bind (wpAny_mono hs (fun r a ha => ?_) fun _ _ f => f)))
  cases r with
  | none => exact wpAny_pure ha
  | some u =>
    refine wpAny_bind (wpAny_mono ha (fun _ b hb => wpAny_bind (wpAny_mono hb (fun _ c hc => wpAny_bind (wpAny_mono hc (fun ok z hz => ?_) fun _ _ f => f)) fun _ _ f => f)) fun _ _ f => f)
    cases ok with
    | false => exact wpAny_pure (by simpa using hz)
    | true =>
      have hU : Under M A env e (d + 1) acc i1 (Q (.again (.compLoop e d it acc env))) z := by simpa using hz
      refine wpAny_bind (wpAny_mono hU (fun y a2 ha2 => wpAny_bind (wpAny_standAt (wpAny_bind (wpAny_of_eq (hs1 y) (wpAny_bind (wpAny_holding (wpAny_mono ha2 (fun v b2 hb2 => ?_) fun _ _ f => f))))))) fun _ _ f => f)
      refine wpAny_bind (wpAny_runOwn ?_)
      rw [Around.mark_none]
      refine codeAny_mono hb2 fun r y2 hy2 => ?_
      cases r with
      | ok f => exact wpAny_pure hy2
      | error x => exact hy2.elim
/-- the start of a clause's loop: the iterator is asked for its iterator, or not -/
theorem start_of {prog : Program} {w : World} {R : Result → Shared → Prop} {it : Value} {s : Shared} {g : Comprehension} (pl : Plain (model prog w) A env e d acc) (hg : (clausesOf e)[d]? = some g) (ha : g.is_async = 0)
    (h0 : codeAny (model prog w) A (.compLoop e d it acc env) R s) (h : wpAny (model prog w) A (pyIter it) (fun v z => codeAny (model prog w) A (.compLoop e d v acc env) R z) F0 s) :
    codeAny (model prog w) A (.compStart e d it acc env) R s := by
  refine codeAny_of_tree ?_
  rw [pl.su, pl.sd]
  refine wpAny_notedAt ?_
  have h' : wpAny (model prog w) A (pyIter it) (fun v z => codeAny (model prog w) A (.compLoop e d v acc env) R z) (notedBy (model prog w) A env fun x z => R (.error x) z) s := mono0 h fun _ _ q => q
  unfold compStart
  have e1 : ((clausesOf e)[d]?).elim false (·.is_async != 0) = false := by rw [hg]; show (g.is_async != 0) = false; rw [ha]; rfl
  rw [e1, if_neg Bool.false_ne_true]
  refine wpAny_bind (wpAny_askSetting ?_)
  split
  · first
      | exact wpAny_pure ⟨rfl, h0⟩
      | exact wpAny_bind (wpAny_pure (wpAny_pure ⟨rfl, h0⟩))
  · rw [hg]
    refine wpAny_bind (wpAny_rule ?_)
    refine wpAny_bind (wpAny_standAt (wpAny_bind (wpAny_mono h' (fun v z hz => ?_) fun _ _ f => f)))
    exact wpAny_pure ⟨rfl, hz⟩
end

/-! ### the whole comprehension -/
abbrev Bk (X : Cx) (scope : Scope) (s : Shared) (H : Hp) (C : Addr) (cl : List (PySem.Str × Addr)) (fp : List Addr) : Cx := X.blk s H scope (compEnvC scope cl C X.env) fp
theorem comp_of {X : Cx} {e : Expr} {scope : Scope} {own : List (PySem.Str × Nat)} {pos' : Pos} {tg iter : Expr} {ifs : List Expr} {rest : List Comprehension} {o : Obj} {ho : Addr → HO} {newAcc : Sem Value} {wi : TI} {g : TG} {tt : TT} {vb : List Nat} {tb : Addr → TB} {B : Cx → Addr → Pt}
    (hcl : clausesOf e = ⟨tg, iter, ifs, 0⟩ :: rest)
    (hnew : ∀ (Q : Value → Shared → Prop) (E : Value → Shared → Prop) (s : Shared), Q (.ref s.heap.objs.size) { s with heap := s.heap.push o } → wpAny (model X.prog X.w) X.A newAcc Q E s)
    (hobj : ∀ (pins : List (Addr × Obj)) (σ : L2.St) (H : Hp) (s : Shared), Inv X pins σ H s → ObjOk X.prog X.w (upd H s.heap.objs.size (ho s.heap.objs.size)) (s.heap.push o) s.heap.objs.size (ho s.heap.objs.size))
    (hc : X.calm = true) (hN : X.N.Nodup) (hi : PI X tg iter wi) (ok : BlkOk X.N X.env.scope scope own) (hs : ∀ x, foldedSetIterable iter X.env x = pure x)
    (hm : ∀ (Y : Cx) (D : Addr) (Q Q' : Shared → Prop) (s : Shared), (∀ z, Q z → Q' z) → B Y D Q s → B Y D Q' s) (pl : ∀ (A : Around) (env : Env) (acc : Value), Plain (model X.prog X.w) A env e 0 acc)
    (S : ∀ (s : Shared) (H : Hp) (C : Addr) (cl : List (PySem.Str × Addr)) (fp : List Addr) (D : Addr), Steps (model X.prog X.w) X.A (compEnvC scope cl C X.env) e 0 (.ref D) tg ifs (B (Bk X scope s H C cl fp) D))
    (hg : ∀ (s : Shared) (H : Hp) (C : Addr) (cl : List (PySem.Str × Addr)) (fp : List Addr), PG (Bk X scope s H C cl fp) tg g) (ht : ∀ (s : Shared) (H : Hp) (C : Addr) (cl : List (PySem.Str × Addr)) (fp : List Addr), PTs (Bk X scope s H C cl fp) ifs tt)
    (hb : ∀ (s : Shared) (H : Hp) (C : Addr) (cl : List (PySem.Str × Addr)) (fp : List Addr) (D : Addr), Piece (Bk X scope s H C cl fp) (B (Bk X scope s H C cl fp) D) vb (tb D)) (hv : ∀ i ∈ vb, i ∈ own.map (·.2))
    {pins : List (Addr × Obj)} {s : Shared} {σ : L2.St} {H : Hp} {Q : VK} (I : Inv X pins σ H s)
    (h : wi σ H fun J H1 => ∀ D, H1 D = none → Turns J g tt (own.map (·.2)) (tb D) σ (fun H' => Q (.ref D) H') (upd H1 D (ho D))) :
    wpAny (model X.prog X.w) X.A (comprehension e scope X.env pos' newAcc false (eval iter X.env)) (EP X pins σ Q) X.xe s := by
  have has : ∀ y ∈ scope.names, y.2 = .free → ∃ c, X.env.cells.lookup y.1 = some c := fun y hy ey => (ok.free y hy ey).elim (fun k => I.ok.has _ (.inl k)) fun k => I.ok.has _ (.inr k)
  refine wpAny_comprehension_free (use := none) hcl hs (closure_ok has) ok.kind (fun y hy ey => by rw [ok.uniq y hy, ey]) ?_
  refine wpAny_mono (hi.run pins s σ H _ I h) (fun x a ha => wpAny_mono ha (fun v b hb' => ?_) fun _ _ q => q) fun _ _ q => q
  obtain ⟨it, fp, tn, J, H1, rfl, I1, T, t0, f0, tr⟩ := hb'
  refine hnew _ _ b (newEnv_comp ?_)
  have nD : H1 b.heap.objs.size = none := I1.hok.fresh (Nat.le_refl _)
  have tr1 := tr _ nD
  have I2 : Inv X pins σ (upd H1 b.heap.objs.size (ho b.heap.objs.size)) { b with heap := b.heap.push o } := I1.laid (t' := b.toks) (fun c u eu => Heap.get?_push_of_some _ eu) (Nat.le_refl _) (hobj pins σ H1 b I1)
  have young : ∀ c ∈ fp, c < b.heap.objs.size := fun c hc' => by
    obtain ⟨u, eu, _⟩ := T.obj _ _ t0 c hc'
    exact Heap.lt_size eu
  have f2 : ∀ c ∈ fp, FpOk X pins (upd H1 b.heap.objs.size (ho b.heap.objs.size)) c ∧ c < ({ b with heap := b.heap.push o } : Shared).heap.objs.size := fun c hc' => by
    have lt := young c hc'
    refine ⟨⟨?_, (f0 c hc').2⟩, ?_⟩
    · rw [upd_ne (Nat.ne_of_lt lt)]
      exact (f0 c hc').1
    · show c < (b.heap.push o).objs.size
      rw [Heap.size_push]
      exact Nat.lt_succ_of_lt lt
  have t2 : tn 0 ({ b with heap := b.heap.push o } : Shared).heap := T.keep _ _ _ t0 fun c _ u eu => Heap.get?_push_of_some _ eu
  have I3 := block_start I2 ok hN f2
  generalize b.heap.objs.size = D at *
  generalize ({ b with heap := b.heap.push o } : Shared) = b2 at *
  generalize upd H1 D (ho D) = H2 at *
  show codeAny _ _ (.compStart e 0 (.ref it) (.ref D) (compEnvC scope (cellsFrom (b2.heap.objs.size + 1) scope.names (cloFrom X.env.cells scope.names [])) b2.heap.objs.size X.env)) (compPost (model X.prog X.w) X.A X.xe none _ (.ref D) b2.heap.objs.size) { b2 with heap := pushCells (b2.heap.push { cls := .type "dict", data := .dict #[] }) scope.names }
  generalize cellsFrom (b2.heap.objs.size + 1) scope.names (cloFrom X.env.cells scope.names []) = cl at I3 ⊢
  have t4 : tn 0 ({ b2 with heap := pushCells (b2.heap.push { cls := .type "dict", data := .dict #[] }) scope.names } : Shared).heap := T.keep _ _ _ t2 fun c _ u eu => pushCells_keeps _ _ _ _ (Heap.get?_push_of_some _ eu)
  generalize ({ b2 with heap := pushCells (b2.heap.push { cls := .type "dict", data := .dict #[] }) scope.names } : Shared) = b4 at I3 t4 ⊢
  have free : ∀ H', (∀ c ∈ fp, H' c = none) → ∀ c ∈ fp, FpOk (Bk X scope b2 H2 b2.heap.objs.size cl fp) [] H' c := fun H' hn c hc' =>
    ⟨hn c hc', (I3.ok.exf c hc').1, I3.ok.exfs c hc', .inl hc', fun x a ea => (I3.ok.exf c hc').2 x a ea, fun p hp => nomatch (show p ∈ ([] : List (Addr × Obj)) from hp)⟩
  have L : codeAny (model X.prog X.w) X.A (.compLoop e 0 (.ref it) (.ref D) (compEnvC scope cl b2.heap.objs.size X.env)) (compPost (model X.prog X.w) X.A X.xe none (EP X pins σ Q) (.ref D) b2.heap.objs.size) b4 := by
    refine turns_run (Y := Bk X scope b2 H2 b2.heap.objs.size cl fp) (N := fun H' => Q (.ref D) H') (hm _ D) (pl _ _ _) (S b2 H2 b2.heap.objs.size cl fp D) hc rfl (hg b2 H2 _ cl fp) (ht b2 H2 _ cl fp) (hb b2 H2 _ cl fp D) hv T free (fun H' z I' hn q => ?_) I3 t4 (fun c hc' => (f2 c hc').1.1) tr1
    have I7 : Inv X pins σ H' z := I2.call' (ch := fp) I'.os I'.base I'.hok I'.bare fun c hc' => ⟨(f2 c hc').1.2.2.2.1, (f2 c hc').1.2.1, (f2 c hc').1.2.2.2.2.1, (f2 c hc').1.2.2.2.2.2⟩
    have nC : H' b2.heap.objs.size = none := I'.free
    obtain ⟨m, hm', _⟩ := I'.loc
    obtain ⟨c0, c1, c2, c3, c4, c5⟩ := I2.fpOk (H' := H') (Nat.le_refl _) nC
    exact ⟨m, hm', fun h'' sb => ⟨.ref D, H', I7.turned (t' := z.toks) (fun c u ne eu => (sb.2 c ne).trans eu) c0 c1 c3 c4 c5, rfl, q⟩⟩
  exact start_of (pl _ _ _) (by rw [hcl]; rfl) rfl L (T.self X.A 0 b4 _ F0 t4 L)
/-! ### sets of ints -/
def tEmitS (w : World) (te : TE) (D : Addr) : TB := fun σ H N => te σ H fun y H' => ∃ (k : Int) (S : Int → Bool) (n : Nat), y = .int k ∧ H' D = some (SetO w D S n) ∧ n + 1 < scanBound ∧
  N (upd H' D (SetO w D (fun j => S j || decide (j = k)) (if S k = true then n else n + 1)))
def emitS (elt : Expr) (env : Env) (acc : Value) : Sem Unit := do
  let u ← eval elt env
  standAt elt.pos
  let _ ← call (.builtin "set.add") [acc, u]
theorem piece_set {Y : Cx} {elt : Expr} {te : TE} {D : Addr} (hx : Y.xe = F0) (he : PE Y elt te) : Piece Y (fun Q s => wpAny (model Y.prog Y.w) Y.A (emitS elt Y.env (.ref D)) (fun _ z => Q z) F0 s) [] (tEmitS Y.w te D) := by
  refine ⟨fun pins s σ H N I h => ?_⟩
  have r1 := he.run pins s σ H _ I h
  rw [hx] at r1
  unfold emitS
  refine wpAny_bind (wpAny_mono r1 (fun u a ha => ?_) fun _ _ f => f)
  obtain ⟨y, H1, I1, ry, k, S, n, rfl, hD, room, q⟩ := ha
  have r2 := mt_sadd pins a σ H1 (.ref D) [.int k] (.ref D) [u] (fun _ H' => N H') I1 rfl (.cons ry .nil) ⟨D, k, S, n, rfl, rfl, hD, room, q⟩
  rw [hx] at r2
  refine wpAny_bind (wpAny_standAt (wpAny_bind (wpAny_mono r2 (fun v z hz => wpAny_pure ?_) fun _ _ f => f)))
  obtain ⟨x, H2, I2, _, q2⟩ := hz
  exact ⟨H2, I2, q2⟩
section
variable {X : Cx} {elt tg iter tg1 iter1 : Expr} {ifs ifs1 : List Expr} {scope : Scope} {own : List (PySem.Str × Nat)} {vs1 : List Nat} {pos : Pos} {wi wi1 : TI} {g g1 : TG} {tt tt1 : TT} {te : TE}
/-- {elt for tg in iter for tg1 in iter1}, elt an int -/
def tSet2 (w : World) (wi : TI) (g : TG) (tt : TT) (wi1 : TI) (g1 : TG) (tt1 : TT) (te : TE) (vs vs1 : List Nat) : TE := fun σ H Q => wi σ H fun J H1 => ∀ D, H1 D = none →
  Turns J g tt vs (fun σ H N => wi1 σ H fun J H1 => Turns J g1 tt1 vs1 (tEmitS w te D) σ N H1) σ (fun H' => Q (.ref D) H') (upd H1 D (SetO w D (fun _ => false) 0))
theorem pe_set2 {w : World} (hc : X.calm = true) (hN : X.N.Nodup) (hi : PI X tg iter wi) (ok : BlkOk X.N X.env.scope scope own) (hv : ∀ i ∈ vs1, i ∈ own.map (·.2))
    (hg : ∀ (s : Shared) (H : Hp) (C : Addr) (cl : List (PySem.Str × Addr)) (fp : List Addr), PG (Bk X scope s H C cl fp) tg g) (ht : ∀ (s : Shared) (H : Hp) (C : Addr) (cl : List (PySem.Str × Addr)) (fp : List Addr), PTs (Bk X scope s H C cl fp) ifs tt)
    (hi1 : ∀ (s : Shared) (H : Hp) (C : Addr) (cl : List (PySem.Str × Addr)) (fp : List Addr), PI (Bk X scope s H C cl fp) tg1 iter1 wi1)
    (hg1 : ∀ (s : Shared) (H : Hp) (C : Addr) (cl : List (PySem.Str × Addr)) (fp : List Addr), PG (Bk X scope s H C cl fp) tg1 g1) (ht1 : ∀ (s : Shared) (H : Hp) (C : Addr) (cl : List (PySem.Str × Addr)) (fp : List Addr), PTs (Bk X scope s H C cl fp) ifs1 tt1)
    (he : ∀ (s : Shared) (H : Hp) (C : Addr) (cl : List (PySem.Str × Addr)) (fp : List Addr), PE (Bk X scope s H C cl fp) elt te) (hw : X.w = w := by rfl)
    (hs : ∀ x, foldedSetIterable iter X.env x = pure x := by intro _; rfl) (hs1 : ∀ env x, foldedSetIterable iter1 env x = pure x := by intro _ _; rfl) :
    PE X (.SetComp elt [⟨tg, iter, ifs, 0⟩, ⟨tg1, iter1, ifs1, 0⟩] scope pos) (tSet2 w wi g tt wi1 g1 tt1 te (own.map (·.2)) vs1) := by
  subst hw
  refine ⟨fun pins s σ H Q I h => ?_⟩
  rw [PpSet.eval_SetComp]
  refine comp_of (e := .SetComp elt [⟨tg, iter, ifs, 0⟩, ⟨tg1, iter1, ifs1, 0⟩] scope pos) (ho := fun D => SetO X.w D (fun _ => false) 0) (vb := vs1) (tb := fun D => fun σ H N => wi1 σ H fun J H1 => Turns J g1 tt1 vs1 (tEmitS X.w te D) σ N H1)
    (B := fun Y D => Under (model Y.prog Y.w) Y.A Y.env (.SetComp elt [⟨tg, iter, ifs, 0⟩, ⟨tg1, iter1, ifs1, 0⟩] scope pos) 1 (.ref D) iter1) rfl (fun Q E s q => PpSet.newSet_ok q) (fun _ _ H z _ => setO_new (setR_fresh X.w)) hc hN hi ok hs (fun Y D Q Q' s k q => Under.mono k q) (fun A env acc => ⟨fun _ => Around.under_of_weight rfl, fun _ => rfl, fun _ => Around.under_of_weight rfl, fun _ => rfl, fun _ => rfl, fun _ => rfl⟩)
    (fun s H C cl fp D => steps_more (i0 := iter) (fun it => rfl) (hs1 _)) hg ht (fun s H C cl fp D => ?_) hv I h
  refine piece_for (B := fun Q z => wpAny (model X.prog X.w) X.A (emitS elt (compEnvC scope cl C X.env) (.ref D)) (fun _ y => Q y) F0 z) (vb := []) (fun _ _ _ k q => wpAny_mono q (fun _ z => k z) fun _ _ f => f) ⟨fun _ => Around.under_of_weight rfl, fun _ => rfl, fun _ => Around.under_of_weight rfl, fun _ => rfl, fun _ => rfl, fun _ => rfl⟩ (steps_last (i0 := iter1) (fun it => rfl)) (fun L h' => start_of ⟨fun _ => Around.under_of_weight rfl, fun _ => rfl, fun _ => Around.under_of_weight rfl, fun _ => rfl, fun _ => rfl, fun _ => rfl⟩ rfl rfl L h') hc rfl (hi1 s H C cl fp) (hg1 s H C cl fp) (ht1 s H C cl fp)
    (piece_set rfl (he s H C cl fp)) (fun i m => nomatch m)
/-- {elt for tg in iter}, elt an int -/
def tSet1 (w : World) (wi : TI) (g : TG) (tt : TT) (te : TE) (vs : List Nat) : TE := fun σ H Q => wi σ H fun J H1 => ∀ D, H1 D = none →
  Turns J g tt vs (tEmitS w te D) σ (fun H' => Q (.ref D) H') (upd H1 D (SetO w D (fun _ => false) 0))
theorem pe_set1 {w : World} (hc : X.calm = true) (hN : X.N.Nodup) (hi : PI X tg iter wi) (ok : BlkOk X.N X.env.scope scope own)
    (hg : ∀ (s : Shared) (H : Hp) (C : Addr) (cl : List (PySem.Str × Addr)) (fp : List Addr), PG (Bk X scope s H C cl fp) tg g) (ht : ∀ (s : Shared) (H : Hp) (C : Addr) (cl : List (PySem.Str × Addr)) (fp : List Addr), PTs (Bk X scope s H C cl fp) ifs tt)
    (he : ∀ (s : Shared) (H : Hp) (C : Addr) (cl : List (PySem.Str × Addr)) (fp : List Addr), PE (Bk X scope s H C cl fp) elt te) (hw : X.w = w := by rfl)
    (hs : ∀ x, foldedSetIterable iter X.env x = pure x := by intro _; rfl) :
    PE X (.SetComp elt [⟨tg, iter, ifs, 0⟩] scope pos) (tSet1 w wi g tt te (own.map (·.2))) := by
  subst hw
  refine ⟨fun pins s σ H Q I h => ?_⟩
  rw [PpSet.eval_SetComp]
  exact comp_of (e := .SetComp elt [⟨tg, iter, ifs, 0⟩] scope pos) (ho := fun D => SetO X.w D (fun _ => false) 0) (vb := []) (tb := tEmitS X.w te)
    (B := fun Y D => fun Q z => wpAny (model Y.prog Y.w) Y.A (emitS elt Y.env (.ref D)) (fun _ y => Q y) F0 z) rfl (fun Q E s q => PpSet.newSet_ok q) (fun _ _ H z _ => setO_new (setR_fresh X.w)) hc hN hi ok hs (fun Y D Q Q' s k q => wpAny_mono q (fun _ z => k z) fun _ _ f => f) (fun A env acc => ⟨fun _ => Around.under_of_weight rfl, fun _ => rfl, fun _ => Around.under_of_weight rfl, fun _ => rfl, fun _ => rfl, fun _ => rfl⟩)
    (fun s H C cl fp D => steps_last (i0 := iter) (fun it => rfl)) hg ht (fun s H C cl fp D => piece_set rfl (he s H C cl fp)) (fun i m => nomatch m) I h
end
/-! ### dicts -/
def tEmitD (tk tv : TE) (D : Addr) : TB := fun σ H N => tk σ H fun y H1 => tv σ H1 fun z H2 => ∃ (kvs : List (Key × V)) (k : Key), y = kV k ∧ H2 D = some (.dK kvs) ∧ kvs.length < sizeLine ∧ N (upd H2 D (.dK (putK kvs k z)))
def emitD (kx vx : Expr) (env : Env) (acc : Value) : Sem Unit := do
  let a ← eval kx env
  let b ← holding [a] (eval vx env)
  match acc with
  | .ref dd => do
    standAt { kx.pos with endLine := vx.pos.endLine, endCol := vx.pos.endCol }
    holding [a, b] (dictSet dd a b)
  | _ => unsupported "internal:dictcomp"
theorem piece_dict {Y : Cx} {kx vx : Expr} {tk tv : TE} {D : Addr} (hx : Y.xe = F0) (hk : PE Y kx tk) (hv : PE Y vx tv) : Piece Y (fun Q s => wpAny (model Y.prog Y.w) Y.A (emitD kx vx Y.env (.ref D)) (fun _ z => Q z) F0 s) [] (tEmitD tk tv D) := by
  refine ⟨fun pins s σ H N I h => ?_⟩
  have r1 := hk.run pins s σ H _ I h
  rw [hx] at r1
  unfold emitD
  refine wpAny_bind (wpAny_mono r1 (fun u a ha => ?_) fun _ _ f => f)
  obtain ⟨y, H1, I1, ry, q1⟩ := ha
  have r2 := hv.run pins a σ H1 _ I1 q1
  rw [hx] at r2
  refine wpAny_bind (wpAny_holding (wpAny_mono r2 (fun v b hb => ?_) fun _ _ f => f))
  obtain ⟨z, H2, I2, rz, kvs, k, rfl, hD, hl, q2⟩ := hb
  refine wpAny_bind (wpAny_standAt (wpAny_holding ?_))
  exact d_dictSet I2 hD hl ry rz fun s' I' => ⟨_, I', q2⟩
section
variable {X : Cx} {kx vx tg iter tg1 iter1 : Expr} {ifs ifs1 : List Expr} {scope : Scope} {own : List (PySem.Str × Nat)} {vs1 : List Nat} {pos : Pos} {wi wi1 : TI} {g g1 : TG} {tt tt1 : TT} {tk tv : TE}
/-- {k: v for tg in iter for tg1 in iter1} -/
def tDict2 (wi : TI) (g : TG) (tt : TT) (wi1 : TI) (g1 : TG) (tt1 : TT) (tk tv : TE) (vs vs1 : List Nat) : TE := fun σ H Q => wi σ H fun J H1 => ∀ D, H1 D = none →
  Turns J g tt vs (fun σ H N => wi1 σ H fun J H1 => Turns J g1 tt1 vs1 (tEmitD tk tv D) σ N H1) σ (fun H' => Q (.ref D) H') (upd H1 D (.dK []))
theorem pe_dict2 (hc : X.calm = true) (hN : X.N.Nodup) (hi : PI X tg iter wi) (ok : BlkOk X.N X.env.scope scope own) (hv : ∀ i ∈ vs1, i ∈ own.map (·.2))
    (hg : ∀ (s : Shared) (H : Hp) (C : Addr) (cl : List (PySem.Str × Addr)) (fp : List Addr), PG (Bk X scope s H C cl fp) tg g) (ht : ∀ (s : Shared) (H : Hp) (C : Addr) (cl : List (PySem.Str × Addr)) (fp : List Addr), PTs (Bk X scope s H C cl fp) ifs tt)
    (hi1 : ∀ (s : Shared) (H : Hp) (C : Addr) (cl : List (PySem.Str × Addr)) (fp : List Addr), PI (Bk X scope s H C cl fp) tg1 iter1 wi1)
    (hg1 : ∀ (s : Shared) (H : Hp) (C : Addr) (cl : List (PySem.Str × Addr)) (fp : List Addr), PG (Bk X scope s H C cl fp) tg1 g1) (ht1 : ∀ (s : Shared) (H : Hp) (C : Addr) (cl : List (PySem.Str × Addr)) (fp : List Addr), PTs (Bk X scope s H C cl fp) ifs1 tt1)
    (hk : ∀ (s : Shared) (H : Hp) (C : Addr) (cl : List (PySem.Str × Addr)) (fp : List Addr), PE (Bk X scope s H C cl fp) kx tk) (hw : ∀ (s : Shared) (H : Hp) (C : Addr) (cl : List (PySem.Str × Addr)) (fp : List Addr), PE (Bk X scope s H C cl fp) vx tv)
    (hs : ∀ x, foldedSetIterable iter X.env x = pure x := by intro _; rfl) (hs1 : ∀ env x, foldedSetIterable iter1 env x = pure x := by intro _ _; rfl) :
    PE X (.DictComp kx vx [⟨tg, iter, ifs, 0⟩, ⟨tg1, iter1, ifs1, 0⟩] scope pos) (tDict2 wi g tt wi1 g1 tt1 tk tv (own.map (·.2)) vs1) := by
  refine ⟨fun pins s σ H Q I h => ?_⟩
  rw [show eval (.DictComp kx vx [⟨tg, iter, ifs, 0⟩, ⟨tg1, iter1, ifs1, 0⟩] scope pos) X.env = comprehension (.DictComp kx vx [⟨tg, iter, ifs, 0⟩, ⟨tg1, iter1, ifs1, 0⟩] scope pos) scope X.env (firstIterPos [⟨tg, iter, ifs, 0⟩, ⟨tg1, iter1, ifs1, 0⟩] pos) newDict false (eval iter X.env) from rfl]
  refine comp_of (e := .DictComp kx vx [⟨tg, iter, ifs, 0⟩, ⟨tg1, iter1, ifs1, 0⟩] scope pos) (ho := fun D => .dK []) (vb := vs1) (tb := fun D => fun σ H N => wi1 σ H fun J H1 => Turns J g1 tt1 vs1 (tEmitD tk tv D) σ N H1)
    (B := fun Y D => Under (model Y.prog Y.w) Y.A Y.env (.DictComp kx vx [⟨tg, iter, ifs, 0⟩, ⟨tg1, iter1, ifs1, 0⟩] scope pos) 1 (.ref D) iter1) (o := { cls := .type "dict", data := .dict #[] }) rfl (fun Q E s q => wpAny_newObj_type q) (fun _ _ H z I' => dk_empty z.heap I'.big) hc hN hi ok hs (fun Y D Q Q' s k q => Under.mono k q) (fun A env acc => ⟨fun _ => Around.under_of_weight rfl, fun _ => rfl, fun _ => Around.under_of_weight rfl, fun _ => rfl, fun _ => rfl, fun _ => rfl⟩)
    (fun s H C cl fp D => steps_more (i0 := iter) (fun it => rfl) (hs1 _)) hg ht (fun s H C cl fp D => ?_) hv I h
  refine piece_for (B := fun Q z => wpAny (model X.prog X.w) X.A (emitD kx vx (compEnvC scope cl C X.env) (.ref D)) (fun _ y => Q y) F0 z) (vb := []) (fun _ _ _ k q => wpAny_mono q (fun _ z => k z) fun _ _ f => f) ⟨fun _ => Around.under_of_weight rfl, fun _ => rfl, fun _ => Around.under_of_weight rfl, fun _ => rfl, fun _ => rfl, fun _ => rfl⟩ (steps_last (i0 := iter1) (fun it => rfl)) (fun L h' => start_of ⟨fun _ => Around.under_of_weight rfl, fun _ => rfl, fun _ => Around.under_of_weight rfl, fun _ => rfl, fun _ => rfl, fun _ => rfl⟩ rfl rfl L h') hc rfl (hi1 s H C cl fp) (hg1 s H C cl fp) (ht1 s H C cl fp)
    (piece_dict rfl (hk s H C cl fp) (hw s H C cl fp)) (fun i m => nomatch m)
end
end Ga

namespace Nm
open PySem PySem.Spec PyProof.Rows L2 GL
/-! ### full sight: sets of marks, layer by layer -/
/-- the marks that fit behind some of these -/
def fbL (T : List (List Int)) (ms ss : List Int) : List Int := (rangeI T.length).filter fun x => ms.any fun m => decide (x ∈ fitL T m ss)
def layL (T : List (List Int)) (m : Int) (cs : List (List Int)) : List Int := cs.foldl (fbL T) [m]
theorem asc_rangeI (n : Nat) : (rangeI n).Pairwise (· < ·) := by
  unfold rangeI
  exact List.pairwise_map.mpr (List.pairwise_lt_range.imp fun h => by omega)
theorem mem_fit {T : List (List Int)} {m x : Int} {ss : List Int} : x ∈ fitL T m ss ↔ x ∈ behL T m ∧ hitL (behL T x) ss = false := by
  unfold fitL
  rw [List.mem_filter]
  simp
theorem mem_fb {T : List (List Int)} (r : IsRule T) {ms ss : List Int} {x : Int} : x ∈ fbL T ms ss ↔ ∃ m ∈ ms, x ∈ fitL T m ss := by
  unfold fbL
  rw [List.mem_filter, List.any_eq_true, mem_rangeI]
  constructor
  · rintro ⟨_, m, hm, h⟩
    exact ⟨m, hm, of_decide_eq_true h⟩
  · rintro ⟨m, hm, h⟩
    exact ⟨(behL_good r m).2 x (mem_fit.mp h).1, m, hm, decide_eq_true h⟩
theorem fb_good {T : List (List Int)} (ms ss : List Int) : Good T.length (fbL T ms ss) :=
  ⟨(asc_rangeI _).sublist List.filter_sublist, fun x hx => mem_rangeI.mp (List.mem_filter.mp hx).1⟩
theorem fb_asc {T : List (List Int)} (r : IsRule T) {ms ss ns : List Int} (a : ns.Pairwise (· < ·)) (h : ∀ x, x ∈ ns ↔ ∃ m ∈ ms, x ∈ fitL T m ss) : ns = fbL T ms ss :=
  asc_ext a (fb_good ms ss).1 fun x => (h x).trans (mem_fb r).symm
theorem fb_same {T : List (List Int)} {ms ss rr : List Int} (h : ∀ x, x ∈ ss ↔ x ∈ rr) : fbL T ms ss = fbL T ms rr := by
  unfold fbL
  congr 1
  funext x
  congr 1
  funext m
  congr 1
  rw [mem_fit, mem_fit]
  have : hitL (behL T x) ss = hitL (behL T x) rr := by
    unfold hitL
    congr 1
    funext y
    rw [decide_eq_decide]
    exact h y
  rw [this]
theorem lay_nil (T : List (List Int)) (m : Int) : layL T m [] = [m] := rfl
theorem lay_snoc (T : List (List Int)) (m : Int) (cs : List (List Int)) (ss : List Int) : layL T m (cs ++ [ss]) = fbL T (layL T m cs) ss := by
  unfold layL
  rw [List.foldl_append]
  rfl
theorem lay_take {T : List (List Int)} {m : Int} {cs : List (List Int)} {i : Nat} {ss : List Int} (h : cs[i]? = some ss) : layL T m (cs.take (i + 1)) = fbL T (layL T m (cs.take i)) ss := by
  rw [List.take_add_one, h]
  exact lay_snoc T m _ ss
theorem lay_good {T : List (List Int)} {m : Int} (h0 : 0 ≤ m) (h1 : m < (T.length : Int)) (cs : List (List Int)) : Good T.length (layL T m cs) := by
  rcases List.eq_nil_or_concat cs with rfl | ⟨ds, ss, rfl⟩
  · rw [lay_nil]
    exact ⟨List.pairwise_singleton _ _, fun x hx => by rw [List.mem_singleton.mp hx]; exact ⟨h0, h1⟩⟩
  · rw [List.concat_eq_append, lay_snoc]
    exact fb_good _ _
theorem lay_same {T : List (List Int)} {m : Int} : ∀ {cs ds : List (List Int)}, cs.length = ds.length → (∀ (i : Nat) (ss rr : List Int), cs[i]? = some ss → ds[i]? = some rr → ∀ x, x ∈ ss ↔ x ∈ rr) → layL T m cs = layL T m ds := by
  unfold layL
  suffices H : ∀ (cs ds : List (List Int)) (ms : List Int), cs.length = ds.length → (∀ (i : Nat) (ss rr : List Int), cs[i]? = some ss → ds[i]? = some rr → ∀ x, x ∈ ss ↔ x ∈ rr) → cs.foldl (fbL T) ms = ds.foldl (fbL T) ms from fun {cs ds} => H cs ds _
  intro cs
  induction cs with
  | nil =>
    intro ds ms l _
    cases ds with
    | nil => rfl
    | cons d ds => simp at l
  | cons c cs ih =>
    intro ds ms l h
    cases ds with
    | nil => simp at l
    | cons d ds =>
      rw [List.foldl_cons, List.foldl_cons, fb_same (h 0 c d rfl rfl)]
      exact ih ds _ (by simpa using l) fun i ss rr e1 e2 => h (i + 1) ss rr (by simpa using e1) (by simpa using e2)
/-- a row for the contents from a mark -/
def RowP (T : List (List Int)) : Int → List (List Int) → List Int → Prop
  | _, [], [] => True
  | m, ss :: cs, x :: xs => x ∈ fitL T m ss ∧ RowP T x cs xs
  | _, _, _ => False
theorem row_len {T : List (List Int)} : ∀ {m : Int} {cs : List (List Int)} {xs : List Int}, RowP T m cs xs → xs.length = cs.length
  | _, [], [], _ => rfl
  | m, ss :: cs, x :: xs, h => by rw [List.length_cons, List.length_cons, row_len h.2]
/-- one step back -/
theorem row_back {T : List (List Int)} {m x y : Int} {cs : List (List Int)} {ss xs : List Int} {i : Nat} (r : IsRule T) (hi : cs[i]? = some ss) (hx : x ∈ layL T m (cs.take (i + 1))) (h : RowP T x (cs.drop (i + 1)) xs) (hy : x ∈ behL T y) : RowP T y (cs.drop i) (x :: xs) := by
  have lt : i < cs.length := by
    rcases Nat.lt_or_ge i cs.length with z | z
    · exact z
    · rw [List.getElem?_eq_none z] at hi
      cases hi
  rw [lay_take hi] at hx
  obtain ⟨y0, _, h0⟩ := (mem_fb r).mp hx
  have e : cs.drop i = ss :: cs.drop (i + 1) := by
    rw [List.drop_eq_getElem_cons lt]
    rw [List.getElem?_eq_getElem lt] at hi
    rw [Option.some.inj hi]
  rw [e]
  exact ⟨mem_fit.mpr ⟨hy, (mem_fit.mp h0).2⟩, h⟩
theorem row_ahead {T : List (List Int)} {m x : Int} {cs : List (List Int)} {ss : List Int} {i : Nat} (r : IsRule T) (hi : cs[i]? = some ss) (hx : x ∈ layL T m (cs.take (i + 1))) : (layL T m (cs.take i)).filter (fun y => decide (x ∈ behL T y)) ≠ [] := by
  rw [lay_take hi] at hx
  obtain ⟨y0, hy, h0⟩ := (mem_fb r).mp hx
  intro z
  have : y0 ∈ (layL T m (cs.take i)).filter (fun y => decide (x ∈ behL T y)) := List.mem_filter.mpr ⟨hy, decide_eq_true (mem_fit.mp h0).1⟩
  rw [z] at this
  cases this
end Nm

namespace Nm
open PySem PySem.Spec PyProof.Rows L2 GL LamX NdefX StX
/-! ### attackers.py: the class Attacker -/
abbrev sAInit : Stmt := inClass (topS 18) 0
abbrev sAMark : Stmt := inClass (topS 18) 1
abbrev sALying : Stmt := inClass (topS 18) 2
abbrev sAWrote : Stmt := inClass (topS 18) 3
abbrev sAStop : Stmt := inClass (topS 18) 4
abbrev nAInit : List Str := ["self", "rule", "mirrors", "mark", "gone", "other"]
theorem scAInit : FnScope nAInit ["self", "rule", "mirrors", "mark"] (defScope sAInit) := ⟨rfl, rfl, rfl, by decide +kernel, rfl, by decide +kernel, by decide +kernel⟩
theorem scAMark : FnScope ["self"] ["self"] (defScope sAMark) := ⟨rfl, rfl, rfl, by decide +kernel, rfl, by decide +kernel, by decide +kernel⟩
theorem scALying : FnScope ["self"] ["self"] (defScope sALying) := ⟨rfl, rfl, rfl, by decide +kernel, rfl, by decide +kernel, by decide +kernel⟩
theorem scAWrote : FnScope ["self", "value"] ["self", "value"] (defScope sAWrote) := ⟨rfl, rfl, rfl, by decide +kernel, rfl, by decide +kernel, by decide +kernel⟩
theorem scAStop : FnScope ["self"] ["self"] (defScope sAStop) := ⟨rfl, rfl, rfl, by decide +kernel, rfl, by decide +kernel, by decide +kernel⟩
/-! fields -/
theorem neRL : ¬ (("rule" : Str) = "last") := by decide +kernel
theorem neRA : ¬ (("rule" : Str) = "attacks") := by decide +kernel
theorem neLA : ¬ (("last" : Str) = "attacks") := by decide +kernel
def aflds (a : Addr) (m : Int) (d : Addr) : List (Str × V) := putF "attacks" (.ref d) (putF "last" (.int m) (putF "rule" (.ref a) []))
theorem af_eq (a : Addr) (m : Int) (d : Addr) : aflds a m d = ([("rule", V.ref a), ("last", V.int m), ("attacks", V.ref d)] : List (Str × V)) := by
  have e1 : putF "last" (V.int m) [(("rule" : Str), V.ref a)] = ([("rule", V.ref a), ("last", V.int m)] : List (Str × V)) := by
    show (if ("rule" : Str) = "last" then _ else (("rule" : Str), V.ref a) :: putF "last" (V.int m) []) = _
    rw [if_neg neRL]
    rfl
  show putF "attacks" (.ref d) (putF "last" (.int m) [(("rule" : Str), V.ref a)]) = _
  rw [e1]
  show (if ("rule" : Str) = "attacks" then _ else (("rule" : Str), V.ref a) :: (if ("last" : Str) = "attacks" then _ else (("last" : Str), V.int m) :: putF "attacks" (V.ref d) [])) = _
  rw [if_neg neRA, if_neg neLA]
  rfl
theorem af_rule (a : Addr) (m : Int) (d : Addr) : (aflds a m d).lookup ("rule" : Str) = some (.ref a) := by
  unfold aflds
  rw [lookup_putF, if_neg neRA, lookup_putF, if_neg neRL, lookup_putF, if_pos rfl]
theorem af_last (a : Addr) (m : Int) (d : Addr) : (aflds a m d).lookup ("last" : Str) = some (.int m) := by
  unfold aflds
  rw [lookup_putF, if_neg neLA, lookup_putF, if_pos rfl]
theorem af_att (a : Addr) (m : Int) (d : Addr) : (aflds a m d).lookup ("attacks" : Str) = some (.ref d) := by
  unfold aflds
  rw [lookup_putF, if_pos rfl]
theorem af_no (a : Addr) (m : Int) (d : Addr) {n : Str} (h1 : ¬ n = "rule") (h2 : ¬ n = "last") (h3 : ¬ n = "attacks") : (aflds a m d).lookup n = none := by
  unfold aflds
  rw [lookup_putF, if_neg h3, lookup_putF, if_neg h2, lookup_putF, if_neg h1]
  rfl
theorem af_put (a : Addr) (m y : Int) (d : Addr) : putF "last" (.int y) (aflds a m d) = aflds a y d := by
  rw [af_eq, af_eq]
  show (if ("rule" : Str) = "last" then _ else (("rule" : Str), V.ref a) :: (if ("last" : Str) = "last" then (("last" : Str), V.int y) :: _ else _)) = _
  rw [if_neg neRL, if_pos rfl]
/-! rounds -/
theorem removed_nodup {T : List (List Int)} {mir : Nat} : (removedL T mir).flatten.Nodup := by
  have p := rounds_perm T (setsL mir T.length) (T.length + 1) (rangeI T.length)
  have nd := p.nodup_iff.mpr (nodup_rangeI T.length)
  exact (List.nodup_append.mp nd).1
theorem flat_unique : ∀ {R : List (List Int)} {i j : Nat} {r s : List Int} {y : Int}, R.flatten.Nodup → R[i]? = some r → R[j]? = some s → y ∈ r → y ∈ s → i = j
  | q :: R, 0, 0, _, _, _, _, _, _, _, _ => rfl
  | q :: R, i + 1, j + 1, r, s, y, nd, h1, h2, h3, h4 => by
    rw [List.flatten_cons] at nd
    exact congrArg (· + 1) (flat_unique (R := R) (List.nodup_append.mp nd).2.1 (by simpa using h1) (by simpa using h2) h3 h4)
  | q :: R, 0, j + 1, r, s, y, nd, h1, h2, h3, h4 => by
    cases Option.some.inj h1
    rw [List.flatten_cons] at nd
    exact absurd rfl ((List.nodup_append.mp nd).2.2 y h3 y (List.mem_flatten.mpr ⟨s, List.mem_of_getElem? (by simpa using h2), h4⟩))
  | q :: R, i + 1, 0, r, s, y, nd, h1, h2, h3, h4 => by
    cases Option.some.inj h2
    rw [List.flatten_cons] at nd
    exact absurd rfl ((List.nodup_append.mp nd).2.2 y h4 y (List.mem_flatten.mpr ⟨r, List.mem_of_getElem? (by simpa using h1), h3⟩))
/-- how a mark is attacked -/
def AtkE (H : Hp) (T : List (List Int)) (mir : Nat) (kvs : List (Key × V)) (i : Nat) (y : Int) : Prop := ∃ (c : Addr) (ys : List Int), valV kvs (.inl y) = some (.ref c) ∧ H c = some (.tup (ys.map V.int)) ∧ Good T.length ys ∧ ys.length ≤ mir ∧ ∀ x ∈ fitL T y ys, x ∈ ((removedL T mir).take i).flatten
def Atk (H : Hp) (T : List (List Int)) (mir : Nat) (kvs : List (Key × V)) : Prop := ∀ (i : Nat) (row : List Int) (y : Int), (removedL T mir)[i]? = some row → y ∈ row → AtkE H T mir kvs i y
theorem AtkE.kt {H H' : Hp} {T : List (List Int)} {mir : Nat} {kvs : List (Key × V)} {i : Nat} {y : Int} (h : AtkE H T mir kvs i y) (k : KT H H') : AtkE H' T mir kvs i y := by
  obtain ⟨c, ys, h1, h2, h3⟩ := h
  exact ⟨c, ys, h1, k _ _ h2, h3⟩
/-- an attacker stands at p, its dict at d, the rule at a, the mark written last m -/
structure AttAt (C : Addr) (H : Hp) (T : List (List Int)) (mir : Nat) (p a d : Addr) (m : Int) : Prop where
  ob : ∃ dx, H p = some (.ins C dx (aflds a m d))
  dc : ∃ kvs, H d = some (.dK kvs) ∧ Atk H T mir kvs
  tb : Tbl H a T
/-- what is asked of the class as the top has made it -/
structure AttT (K : PySem.W.Frag) (mg : Str → Option Value) (C : Addr) : Prop where
  cl : Cls K C
  nR : NoAttr K C "rule"
  nL : NoAttr K C "last"
  nA : NoAttr K C "attacks"
  mgC : mg "Attacker" = some (.ref C)
def HasM (K : PySem.W.Frag) (C : Addr) (m qual : Str) (st : Stmt) (ps : List Str) : Prop := ∃ (f : Addr) (fd : FuncData), Fun K m qual st f fd ∧ Binds K fd ps [] ∧ Meth K C m f
section
variable {P : Program} {w : World} {K : PySem.W.Frag} {mg : Str → Option Value} {base : Heap}
def spAInit (C : Addr) (TT : Tbs) : Sp := fun vs H Q _ => ∃ (p a dx : Addr) (mir : Nat) (m : Int) (T : List (List Int)), vs = [.ref p, .ref a, .int mir, .int m] ∧ H p = some (.ins C dx []) ∧ Tbl H a T ∧ IsRule T ∧ mir ≤ 3 ∧ m ∉ coreL T mir ∧ Tabs TT H ∧
  ∀ (d : Addr) (H' : Hp), KX TT p H H' → AttAt C H' T mir p a d m → Q .non H'
set_option maxHeartbeats 4000000 in
theorem ok_ainit {C : Addr} {TT : Tbs} {f : Addr} {fd : FuncData} {k : Nat} (F : Fun K "__init__" "Attacker.__init__" sAInit f fd) (D : Gam K mg base TT) (hR : HasRem K mg) (hC : HasCore K mg) (TA : AttT K mg C) :
    FnOk P w K mg base CX0 (k + 11) f fd ["self", "rule", "mirrors", "mark"] (spAInit C TT) := by
  obtain ⟨fA, dA, FA, bA, gA⟩ := hC
  have GA : FnOk P w K mg base CX0 (k + 10) fA dA ["rule", "mirrors"] (spCoreX TT) := ok_core FA D hR
  obtain ⟨fR, dR, FR, bR, gR⟩ := hR
  have GR : FnOk P w K mg base CX0 (k + 10) fR dR ["rule", "mirrors"] (spRemovals TT) := ok_removals FR D
  refine F.ok scAInit (fun vs H Q E h => ?_) (fun cdv A outer s H vs Q E hr h => ?_)
  · obtain ⟨p, a, dx, mir, m, T, rfl, _⟩ := h
    rfl
  · obtain ⟨p, a, dx, mir, m, T, rfl, hp, hT, rule, m3, nm, tabs, q⟩ := h
    refine ⟨_, pss_cons (ps_if (pt_cmpR (inK (K := K)) (pv 3) (pe_call GA hr (by rfl) gA FA.kp bA .nil pass0 (pa_cons (pv 1) (pa_cons (pv 2) pa_nil))) (by rfl)) (pss_one ps_never) pss_nil)
      (pss_cons (ps_fld (pv 0) (pv 1) rfl)
      (pss_cons (ps_fld (pv 0) (pv 3) rfl)
      (pss_one (ps_fld (pv 0) (Ga.pe_dict2 (own := [("gone", 4), ("other", 5)]) (vs1 := [5]) (g := gName 4) (g1 := gName 5) (by rfl) scAInit.nd (piLstK (K := K) (pe_call GR hr (by rfl) gR FR.kp bR .nil pass0 (pa_cons (pv 1) (pa_cons (pv 2) pa_nil))))
          (blkOk_by (own := [("gone", 4), ("other", 5)]) (N := nAInit) (sc := defScope sAInit) (by decide +kernel)) (by decide)
          (fun _ _ _ _ _ => pg_name (i := 4) scAInit.nd rfl (Or.inl rfl)) (fun _ _ _ _ _ => pts_nil)
          (fun _ _ _ _ _ => pi_keys (pv 4)) (fun _ _ _ _ _ => pg_name (i := 5) scAInit.nd rfl (Or.inl rfl)) (fun _ _ _ _ _ => pts_nil)
          (fun _ _ _ _ _ => pv 5) (fun _ _ _ _ _ => pe_dget (hu_of hr) (pv 4) (pv 5) (fun _ _ => rfl))) rfl)))), ?_⟩
    have n16 := rule.2.1
    refine ⟨.int m, rfl, .ref a, rfl, .int mir, rfl, a, mir, T, rfl, hT, rule, m3, tabs, fun c0 H1 ex1 hc0 => ⟨c0, _, rfl, .inr (SqT.of hc0), rfl, flat_ints _, _, rfl, ?_⟩⟩
    refine ite2 (fun e => ?_) (fun e => ?_)
    · rw [inV_int, decide_eq_false nm] at e
      simp at e
    have hp1 := ex1 _ _ hp
    refine ⟨.ref a, rfl, .ref p, rfl, p, C, dx, _, rfl, hp1, TA.cl, TA.nR, by show 0 < 1000; decide, ?_⟩
    have hpa : upd H1 p (.ins C dx (putF "rule" (.ref a) [])) p = some (.ins C dx (putF "rule" (.ref a) [])) := upd_same
    refine ⟨.int m, rfl, .ref p, rfl, p, C, dx, _, rfl, hpa, TA.cl, TA.nL, by show 1 < 1000; decide, ?_⟩
    have kx1 : KX TT p H (upd (upd H1 p (.ins C dx (putF "rule" (.ref a) []))) p (.ins C dx (putF "last" (.int m) (putF "rule" (.ref a) [])))) := by
      refine ⟨fun b o nb hb => ?_, fun t => tabs_put (tabs_put (ex1.tb t) hp1 (by intro _ z; cases z) (by intro _ z; cases z)) hpa (by intro _ z; cases z) (by intro _ z; cases z)⟩
      intro i
      rw [upd_ne nb, upd_ne nb]
      exact ex1 _ _ hb
    have hp2 : upd (upd H1 p (.ins C dx (putF "rule" (.ref a) []))) p (.ins C dx (putF "last" (.int m) (putF "rule" (.ref a) []))) p = some (.ins C dx (putF "last" (.int m) (putF "rule" (.ref a) []))) := upd_same
    generalize upd (upd H1 p (.ins C dx (putF "rule" (.ref a) []))) p (.ins C dx (putF "last" (.int m) (putF "rule" (.ref a) []))) = H2 at kx1 hp2 ⊢
    have ktx : ∀ {H3 : Hp}, KX TT p H H3 → KT H H3 := fun {H3} kx b xs hb => kx _ _ (ne_of hb hp (by intro z; cases z)) hb
    have tbx : ∀ {H3 : Hp}, KX TT p H H3 → Tbl H3 a T := fun {H3} kx => by
      obtain ⟨rs, h1, h2⟩ := id hT
      exact ⟨rs, ktx kx _ _ h1, Rows.kt h2 (ktx kx)⟩
    refine ⟨.ref a, rfl, .int mir, rfl, a, mir, T, rfl, m3, tbx kx1, rule, kx1.tb tabs, fun Fo gs H3 ex3 nF hF dg => ?_⟩
    refine ⟨Fo, rfl, ⟨_, SqL.of hF⟩, fun D nD => ?_⟩
    have sD := same_upd (o := .dK []) nD
    have lg := dg.len
    refine Ga.Turns.walk (walk_list (K := K) (a := Fo) (xs := gs.map V.ref)) (fun i H4 => ∃ kvs : List (Key × V), H4 D = some (.dK kvs) ∧ kvs.length ≤ ((removedL T mir).take i).flatten.length ∧ (∀ (i' : Nat) (row : List Int) (y : Int), i' < i → (removedL T mir)[i']? = some row → y ∈ row → AtkE H4 T mir kvs i' y) ∧ Same H3 H4)
      ⟨[], upd_same, Nat.zero_le _, fun i' _ _ h => absurd h (Nat.not_lt_zero _), sD⟩ (fun i H4 _ ⟨_, _, _, _, s4⟩ => SqL.of (s4 _ _ hF)) ?_ ?_
    · rintro i x H4 H4' hi ⟨kvs, hD, lk, hat, s4⟩ ⟨rfl, hx⟩
      obtain ⟨g, hg, rfl⟩ := ref_at hx
      obtain ⟨left, row, od, gvs, hP, hrow, hgz, dv⟩ := dg.at' hg
      have gr : Good T.length row ∧ row ≠ [] := removed_rows row (List.mem_of_getElem? hrow)
      have tk : (removedL T mir).take (i + 1) = (removedL T mir).take i ++ [row] := by
        rw [List.take_add_one, hrow]
        rfl
      have lgv : gvs.length = row.length := dv.len
      have ndk : (gvs.map (·.1)).Nodup := by
        rw [dv.keys]
        exact List.Pairwise.map Sum.inl (fun x y h e => h (Sum.inl.inj e)) gr.1.nodup
      have tl : ((removedL T mir).take (i + 1)).flatten.length ≤ 16 := by
        have h2 : ((removedL T mir).take (i + 1)).flatten.length ≤ (removedL T mir).flatten.length := by
          conv => rhs; rw [← List.take_append_drop (i + 1) (removedL T mir), List.flatten_append, List.length_append]
          omega
        have := removed_flat (T := T) (mir := mir)
        omega
      have tl2 : ((removedL T mir).take (i + 1)).flatten.length = ((removedL T mir).take i).flatten.length + row.length := by
        rw [tk, List.flatten_append, List.length_append, List.flatten_cons, List.flatten_nil, List.append_nil]
      refine ⟨rfl, yesI ⟨.ref g, rfl, g, od, rfl, .inl ⟨gvs, s4 _ _ hgz, ?_⟩⟩⟩
      refine Ga.Turns.walk (walk_keys (d := g) (o := od) (kvs := gvs)) (fun j H5 => ∃ kvs : List (Key × V), H5 D = some (.dK kvs) ∧ kvs.length ≤ ((removedL T mir).take i).flatten.length + j ∧ (∀ (i' : Nat) (row' : List Int) (y : Int), i' < i → (removedL T mir)[i']? = some row' → y ∈ row' → AtkE H5 T mir kvs i' y) ∧
          (∀ y ∈ row.take j, AtkE H5 T mir kvs i y) ∧ Same H3 H5)
        ⟨kvs, hD, lk, hat, fun y hy => by simp at hy, s4⟩ (fun j H5 _ ⟨_, _, _, _, _, s5⟩ => s5 _ _ hgz) ?_ ?_
      · rintro j x H6 H5 hj ⟨kvs5, hD5, lk5, hat5, hr5, s5⟩ ⟨rfl, ky, v, hkv, rfl⟩
        obtain ⟨y, hy, e1, c, ys, e2, hc, bb⟩ := paired_get dv hkv
        have e1 : ky = .inl y := e1
        have e2 : v = .ref c := e2
        subst e1
        subst e2
        have yrow : y ∈ row := List.mem_of_getElem? hy
        have hc5 := s5 _ _ hc
        have kt : KT H5 (upd H5 D (.dK (putK kvs5 (.inl y) (.ref c)))) := fun b xs hb => by
          rw [upd_ne (ne_of hb hD5 (by intro z; cases z))]
          exact hb
        have fitE : ∀ x ∈ fitL T y ys, x ∈ ((removedL T mir).take i).flatten := fun x hx => by
          obtain ⟨f1, f2⟩ := fit_mem.mp hx
          have xb := (behL_good rule y).2 x f1
          have nl : x ∉ left := fun z => by
            obtain ⟨u, hu, hb⟩ := bb.hits x (ahead_mem.mpr ⟨z, f1⟩)
            exact f2 u hb hu
          exact left_flat T _ _ _ _ _ _ hP x (mem_rangeI.mpr xb) nl
        have gys : Good T.length ys := ⟨bb.asc, fun u hu => by
          obtain ⟨m', _, h2⟩ := bb.from_ u hu
          exact (behL_good rule m').2 u h2⟩
        have newE : AtkE (upd H5 D (.dK (putK kvs5 (.inl y) (.ref c)))) T mir (putK kvs5 (.inl y) (.ref c)) i y :=
          ⟨c, ys, by rw [valV_put, if_pos rfl], kt _ _ hc5, gys, bb.few, fitE⟩
        have old : ∀ {i' : Nat} {y' : Int}, y' ≠ y → AtkE H5 T mir kvs5 i' y' → AtkE (upd H5 D (.dK (putK kvs5 (.inl y) (.ref c)))) T mir (putK kvs5 (.inl y) (.ref c)) i' y' := fun {i' y'} ne h => by
          obtain ⟨c', ys', h1, h2, h3⟩ := h.kt kt
          exact ⟨c', ys', by rw [valV_put, if_neg fun z => ne (Sum.inl.inj z)]; exact h1, h2, h3⟩
        refine ⟨rfl, yesI ⟨.int y, rfl, .ref g, rfl, .int y, rfl, g, _, rfl, .inl ⟨gvs, .inl y, .inr ⟨od, s5 _ _ hgz⟩, rfl, (valV_at ndk hkv).symm⟩, kvs5, .inl y, rfl, hD5, lenLine (by omega), _, upd_same, ?_, fun i' row' y' h1 h2 h3 => ?_, fun y' hy' => ?_, ?_⟩⟩
        · have := putK_length kvs5 (.inl y : Key) (.ref c)
          omega
        · refine old (fun z => ?_) (hat5 i' row' y' h1 h2 h3)
          rw [z] at h3
          have := flat_unique (removed_nodup (T := T) (mir := mir)) h2 hrow h3 yrow
          omega
        · by_cases ey : y' = y
          · rw [ey]
            exact newE
          · rw [List.take_add_one, hy] at hy'
            rcases List.mem_append.mp hy' with z | z
            · exact old ey (hr5 y' z)
            · exact absurd (by simpa using z) ey
        · intro b o hb
          rw [upd_ne (ne_of_none hb nD)]
          exact s5 _ _ hb
      · rintro H5 ⟨kvs5, hD5, lk5, hat5, hr5, s5⟩
        rw [lgv] at lk5 hr5
        rw [List.take_length] at hr5
        refine ⟨kvs5, hD5, by omega, fun i' row' y' h1 h2 h3 => ?_, s5⟩
        by_cases ei : i' < i
        · exact hat5 i' row' y' ei h2 h3
        · have : i' = i := by omega
          subst this
          rw [hrow] at h2
          rw [← Option.some.inj h2] at h3
          exact hr5 y' h3
    · rintro H4 ⟨kvs, hD, lk, hat, s4⟩
      rw [List.length_map, lg] at hat lk
      have hp4 := s4 _ _ (ex3 _ _ hp2)
      refine ⟨.ref p, rfl, p, C, dx, _, rfl, hp4, TA.cl, TA.nA, ?_, ?_⟩
      · have e2 : putF "last" (V.int m) (putF "rule" (V.ref a) []) = ([("rule", V.ref a), ("last", V.int m)] : List (Str × V)) := by
          show (if ("rule" : Str) = "last" then _ else (("rule" : Str), V.ref a) :: putF "last" (V.int m) []) = _
          rw [if_neg neRL]
          rfl
        rw [e2]
        show 2 < 1000
        decide
      have nDp : D ≠ p := fun z => by
        rw [z, ex3 _ _ hp2] at nD
        cases nD
      have kx4 : KX TT p H (upd H4 p (.ins C dx (aflds a m D))) := by
        refine ⟨fun b o nb hb => ?_, fun t => tabs_put ((ex3.trans (.of s4)).tb (kx1.tb t)) hp4 (by intro _ z; cases z) (by intro _ z; cases z)⟩
        intro i
        rw [upd_ne nb]
        exact s4 _ _ (ex3 _ _ (kx1 _ _ nb hb))
      refine q D _ kx4 ⟨⟨dx, upd_same⟩, ⟨kvs, ?_, fun i row y h1 h2 => (hat i row y ?_ h1 h2).kt fun b xs hb => ?_⟩, tbx kx4⟩
      · rw [upd_ne nDp]
        exact hD
      · exact (List.getElem?_eq_some_iff.mp h1).1
      · rw [upd_ne (ne_of hb hp4 (by intro z; cases z))]
        exact hb
end
end Nm

namespace Nm
open PySem PySem.Spec PyProof.Rows L2 GL LamX NdefX StX
/-! ### Attacker's methods -/
/-- what lies against a mark -/
def Lies (H : Hp) (d : Addr) (m : Int) (c : Addr) (ys : List Int) : Prop := ∃ kvs, H d = some (.dK kvs) ∧ valV kvs (.inl m) = some (.ref c) ∧ H c = some (.tup (ys.map V.int))
theorem AttAt.same {C : Addr} {H H' : Hp} {T : List (List Int)} {mir : Nat} {p a d : Addr} {m : Int} (h : AttAt C H T mir p a d m) (s : Same H H') : AttAt C H' T mir p a d m := by
  obtain ⟨⟨dx, h1⟩, ⟨kvs, h2, h3⟩, h4⟩ := h
  exact ⟨⟨dx, s _ _ h1⟩, ⟨kvs, s _ _ h2, fun i row y e1 e2 => (h3 i row y e1 e2).kt (.of s)⟩, h4.same s⟩
theorem Lies.same {H H' : Hp} {d : Addr} {m : Int} {c : Addr} {ys : List Int} (h : Lies H d m c ys) (s : Same H H') : Lies H' d m c ys := by
  obtain ⟨kvs, h1, h2, h3⟩ := h
  exact ⟨kvs, s _ _ h1, h2, s _ _ h3⟩
/-- all but another object stays: the attacker stays -/
theorem AttAt.but {C : Addr} {H H' : Hp} {T : List (List Int)} {mir : Nat} {p a d : Addr} {m : Int} (h : AttAt C H T mir p a d m) (k : ∀ b o, (∀ xs, o = .tup xs → True) → (o = .tup [] ∨ True) → H b = some o → (∃ xs, o = .tup xs) ∨ b = p ∨ b = d → H' b = some o) : AttAt C H' T mir p a d m := by
  obtain ⟨⟨dx, h1⟩, ⟨kvs, h2, h3⟩, rs, h4, h5⟩ := h
  have kt : KT H H' := fun b xs e => k b _ (fun _ _ => trivial) (.inr trivial) e (.inl ⟨xs, rfl⟩)
  exact ⟨⟨dx, k _ _ (fun _ _ => trivial) (.inr trivial) h1 (.inr (.inl rfl))⟩, ⟨kvs, k _ _ (fun _ _ => trivial) (.inr trivial) h2 (.inr (.inr rfl)), fun i row y e1 e2 => (h3 i row y e1 e2).kt kt⟩, rs, kt _ _ h4, Rows.kt h5 kt⟩
section
variable {P : Program} {w : World} {K : PySem.W.Frag} {mg : Str → Option Value} {base : Heap}
def spAMark (C : Addr) : Sp := fun vs H Q _ => ∃ (p a d : Addr) (mir : Nat) (m : Int) (T : List (List Int)), vs = [.ref p] ∧ AttAt C H T mir p a d m ∧ Q (.int m) H
theorem ok_amark {C f : Addr} {fd : FuncData} {k : Nat} (F : Fun K "mark" "Attacker.mark" sAMark f fd) (TA : AttT K mg C) : FnOk P w K mg base CX0 (k + 1) f fd ["self"] (spAMark C) := by
  refine F.ok scAMark (fun vs H Q E h => ?_) (fun cdv A outer s H vs Q E hr h => ?_)
  · obtain ⟨p, a, d, mir, m, T, rfl, _⟩ := h
    rfl
  · obtain ⟨p, a, d, mir, m, T, rfl, ⟨⟨dx, h1⟩, _, _⟩, q⟩ := h
    refine ⟨_, pss_one (ps_ret (pe_fld (pv 0) rfl)), ?_⟩
    exact ⟨.ref p, rfl, p, C, dx, _, _, rfl, h1, TA.cl, TA.nL, af_last _ _ _, q⟩
def spALying (C : Addr) : Sp := fun vs H Q _ => ∃ (p a d c : Addr) (mir : Nat) (m : Int) (T : List (List Int)) (ys : List Int), vs = [.ref p] ∧ AttAt C H T mir p a d m ∧ Lies H d m c ys ∧ ∀ H', Same H H' → Q (.ref c) H'
theorem ok_alying {C f : Addr} {fd : FuncData} {k : Nat} (F : Fun K "lying" "Attacker.lying" sALying f fd) (TA : AttT K mg C) : FnOk P w K mg base CX0 (k + 1) f fd ["self"] (spALying C) := by
  refine F.ok scALying (fun vs H Q E h => ?_) (fun cdv A outer s H vs Q E hr h => ?_)
  · obtain ⟨p, a, d, c, mir, m, T, ys, rfl, _⟩ := h
    rfl
  · obtain ⟨p, a, d, c, mir, m, T, ys, rfl, ⟨⟨dx, h1⟩, _, _⟩, ⟨kvs, h2, h3, h4⟩, q⟩ := h
    refine ⟨_, pss_one (ps_ret (pe_dget2 (hu_of hr) (pe_fld (pv 0) rfl) (pe_fld (pv 0) rfl) (pe_tup pa_nil) ⟨rfl, rfl, rfl, rfl⟩)), ?_⟩
    refine ⟨.ref p, rfl, p, C, dx, _, _, rfl, h1, TA.cl, TA.nA, af_att _ _ _, d, rfl, .inl ⟨kvs, Rd.of h2⟩, .ref p, rfl, p, C, dx, _, _, rfl, h1, TA.cl, TA.nL, af_last _ _ _, Nat.zero_le _, fun e ne => ?_⟩
    have se := same_upd (o := .tup []) ne
    refine ⟨some (.ref c), ?_, q _ se⟩
    have z := DGet.k (k := .inl m) (se _ _ h2)
    rwa [h3] at z
def spAStop (C : Addr) : Sp := fun vs H Q _ => ∃ (p a d c : Addr) (mir : Nat) (m : Int) (T : List (List Int)) (ys : List Int), vs = [.ref p] ∧ AttAt C H T mir p a d m ∧ IsRule T ∧ 0 ≤ m ∧ ys.length ≤ 1000 ∧ Lies H d m c ys ∧ ∀ H', Same H H' → Q (.bl (fitL T m ys).isEmpty) H'
theorem ok_astop {C f fG : Addr} {fd dG : FuncData} {k : Nat} (F : Fun K "is_stopped" "Attacker.is_stopped" sAStop f fd) (TA : AttT K mg C) (FG : Fun K "fitting" "fitting" sFitting fG dG) (bG : Binds K dG ["rule", "mark", "lying"] []) (gG : mg "fitting" = some (.ref fG))
    (GG : FnOk P w K mg base CX0 (k + 4) fG dG ["rule", "mark", "lying"] (spFittingT K)) (hL : HasM K C "lying" "Attacker.lying" sALying ["self"]) : FnOk P w K mg base CX0 (k + 5) f fd ["self"] (spAStop C) := by
  obtain ⟨fL, dL, FL, bL, mL⟩ := hL
  have GL' : FnOk P w K mg base CX0 (k + 4) fL dL ["self"] (spALying C) := ok_alying FL TA
  refine F.ok scAStop (fun vs H Q E h => ?_) (fun cdv A outer s H vs Q E hr h => ?_)
  · obtain ⟨p, a, d, c, mir, m, T, ys, rfl, _⟩ := h
    rfl
  · obtain ⟨p, a, d, c, mir, m, T, ys, rfl, hA, rule, m0, l1, hY, q⟩ := h
    obtain ⟨⟨dx, h1⟩, _, _⟩ := id hA
    refine ⟨_, pss_one (ps_ret (pe_cmpR (op_eqD hr.units) (pe_call GG hr (by rfl) gG FG.kp bG .nil pass0 (pa_cons (pe_fld (pv 0) rfl) (pa_cons (pe_fld (pv 0) rfl) (pa_cons (pe_meth0 (pv 0) TA.cl mL GL' hr bL .nil pass0) pa_nil)))) (pe_tup pa_nil) (nomark _))), ?_⟩
    refine ⟨.ref p, rfl, p, C, dx, _, _, rfl, h1, TA.cl, TA.nR, af_rule _ _ _, .ref p, rfl, p, C, dx, _, _, rfl, h1, TA.cl, TA.nL, af_last _ _ _,
      .ref p, rfl, p, dx, _, rfl, h1, af_no _ _ _ (by decide +kernel) (by decide +kernel) (by decide +kernel), p, a, d, c, mir, m, T, ys, rfl, hA, hY, fun H1 s1 => ?_⟩
    obtain ⟨kvs, g1, g2, g3⟩ := hY.same s1
    refine ⟨a, c, m, T, ys, rfl, hA.tb.same s1, rule, m0, SqT.of g3, l1, fun e H2 s2 he => ⟨Nat.zero_le _, fun t nt => ?_⟩⟩
    have st := same_upd (o := .tup []) nt
    refine ⟨rowD (fitL T m ys), .tuple [], dpRow (st _ _ he), .tup (SqT.of upd_same) .nil, shapedT _, shapedT [], ?_⟩
    have ee : PyData.eqv (rowD (fitL T m ys)) (.tuple []) = (fitL T m ys).isEmpty := eqv_nilT _
    rw [ee]
    exact q _ (s1.trans (s2.trans st))
def spAWrote (C : Addr) (TT : Tbs) : Sp := fun vs H Q _ => ∃ (p a d c : Addr) (mir : Nat) (m y : Int) (T : List (List Int)) (ys : List Int), vs = [.ref p, .int y] ∧ AttAt C H T mir p a d m ∧ IsRule T ∧ 0 ≤ m ∧ ys.length ≤ 1000 ∧ Lies H d m c ys ∧ y ∈ fitL T m ys ∧
  ∀ H', KX TT p H H' → AttAt C H' T mir p a d y → Q .non H'
set_option maxHeartbeats 2000000 in
theorem ok_awrote {C : Addr} {TT : Tbs} {f fG fB : Addr} {fd dG dB : FuncData} {k : Nat} (F : Fun K "wrote" "Attacker.wrote" sAWrote f fd) (TA : AttT K mg C) (FG : Fun K "fitting" "fitting" sFitting fG dG) (bG : Binds K dG ["rule", "mark", "lying"] []) (gG : mg "fitting" = some (.ref fG))
    (GG : FnOk P w K mg base CX0 (k + 4) fG dG ["rule", "mark", "lying"] (spFittingT K)) (hL : HasM K C "lying" "Attacker.lying" sALying ["self"]) (FB : Fun K "is_below" "is_below" sBelow fB dB) (bB : Binds K dB ["value", "limit"] []) (gB : mg "is_below" = some (.ref fB)) (B : LibJ mg) :
    FnOk P w K mg base CX0 (k + 5) f fd ["self", "value"] (spAWrote C TT) := by
  obtain ⟨fL, dL, FL, bL, mL⟩ := hL
  have GL' : FnOk P w K mg base CX0 (k + 4) fL dL ["self"] (spALying C) := ok_alying FL TA
  have GB : FnOk P w K mg base CX0 (k + 4) fB dB ["value", "limit"] (spBelow K) := ok_below FB B
  refine F.ok scAWrote (fun vs H Q E h => ?_) (fun cdv A outer s H vs Q E hr h => ?_)
  · obtain ⟨p, a, d, c, mir, m, y, T, ys, rfl, _⟩ := h
    rfl
  · obtain ⟨p, a, d, c, mir, m, y, T, ys, rfl, hA, rule, m0, l1, hY, hy, q⟩ := h
    obtain ⟨⟨dx, h1⟩, _, _⟩ := id hA
    refine ⟨_, pss_cons (ps_if (PW.pt (pw_or (pt_not (pt_val (pe_call GB hr (by rfl) gB FB.kp bB .nil pass0 (pa_cons (pv 1) (pa_cons (pe_callB (lenK (K := K)) (by rfl) B.len PySem.boot_len (pa_cons (pe_fld (pv 0) rfl) pa_nil)) pa_nil)))))
          (pw_or1 (pt_cmpR (notInK (K := K)) (pv 1) (pe_call GG hr (by rfl) gG FG.kp bG .nil pass0 (pa_cons (pe_fld (pv 0) rfl) (pa_cons (pe_fld (pv 0) rfl) (pa_cons (pe_meth0 (pv 0) TA.cl mL GL' hr bL .nil pass0) pa_nil)))) (by rfl)))))
        (pss_one ps_never) pss_nil)
      (pss_one (ps_fld (pv 0) (pv 1) rfl)), ?_⟩
    obtain ⟨rs, ha, hR⟩ := id hA.tb
    have lm : (rs.map V.ref).length = T.length := by rw [List.length_map]; exact Paired.length hR
    have gy := (fit_good rule m ys).2 y hy
    refine ⟨.int y, rfl, .ref p, rfl, p, C, dx, _, _, rfl, h1, TA.cl, TA.nR, af_rule _ _ _, a, _, rfl, .inr (SqT.of ha), y, _, rfl, ?_⟩
    rw [lm, decide_eq_true gy.1, decide_eq_true gy.2]
    refine ⟨_, rfl, iteF ?_⟩
    refine ⟨.int y, rfl, .ref p, rfl, p, C, dx, _, _, rfl, h1, TA.cl, TA.nR, af_rule _ _ _, .ref p, rfl, p, C, dx, _, _, rfl, h1, TA.cl, TA.nL, af_last _ _ _,
      .ref p, rfl, p, dx, _, rfl, h1, af_no _ _ _ (by decide +kernel) (by decide +kernel) (by decide +kernel), p, a, d, c, mir, m, T, ys, rfl, hA, hY, fun H1 s1 => ?_⟩
    obtain ⟨kvs, g1, g2, g3⟩ := hY.same s1
    refine ⟨a, c, m, T, ys, rfl, hA.tb.same s1, rule, m0, SqT.of g3, l1, fun e H2 s2 he => ⟨e, _, rfl, .inr (SqT.of he), rfl, flat_ints _, _, rfl, ?_⟩⟩
    refine ite2 (fun z => ?_) (fun z => ?_)
    · rw [inV_int, decide_eq_true hy] at z
      simp at z
    have s12 := s1.trans s2
    have h2 := s12 _ _ h1
    refine ⟨.int y, rfl, .ref p, rfl, p, C, dx, _, rfl, h2, TA.cl, TA.nL, by rw [af_eq]; show 3 < 1000; decide, ?_⟩
    rw [af_put]
    have kx : KX TT p H (upd H2 p (.ins C dx (aflds a y d))) := ⟨fun b o nb hb => by rw [upd_ne nb]; exact s12 _ _ hb, fun t => tabs_put (t.ext s12) h2 (by intro _ z; cases z) (by intro _ z; cases z)⟩
    have kt : KT H2 (upd H2 p (.ins C dx (aflds a y d))) := fun b xs hb => by
      rw [upd_ne (ne_of hb h2 (by intro z; cases z))]
      exact hb
    obtain ⟨_, ⟨kv2, h3, h4⟩, ⟨rs2, h5, h6⟩⟩ := hA.same s12
    refine q _ kx ⟨⟨dx, upd_same⟩, ⟨kv2, ?_, fun i row y' e1 e2 => (h4 i row y' e1 e2).kt kt⟩, rs2, kt _ _ h5, Rows.kt h6 kt⟩
    rw [upd_ne (ne_of h3 h2 (by intro z; cases z))]
    exact h3
end
end Nm

namespace Nm
open PySem PySem.Spec PyProof.Rows L2 GL
/-! sIsNum -/
/-! sLisRule -/
abbrev nLisRule : List Str := ["_law_thing", "_law_row", "_law_one"]
theorem eqvI : ∀ a b : List Int, PyData.eqvAll (a.map PyData.int) (b.map PyData.int) = decide (a = b)
  | [], [] => rfl
  | [], _ :: _ => rfl
  | _ :: _, [] => rfl
  | x :: a, y :: b => by
    show ((PyData.eqv (.int x) (.int y)) && PyData.eqvAll (a.map PyData.int) (b.map PyData.int)) = _
    rw [eqvI a b, PyData.eqv]
    by_cases e : x = y
    · by_cases e' : a = b
      · simp [e, e']
      · simp [e, e']
    · simp [e]
theorem same_asc {ns ms : List Int} (h : ms.Pairwise (· < ·)) (m : ∀ k : Int, k ∈ ms ↔ decide (k ∈ ns) = true) : decide (ns = ms) = decide (ns.Pairwise (· < ·)) := by
  refine decide_eq_decide.mpr ⟨fun e => by rw [e]; exact h, fun p => ?_⟩
  exact ((List.perm_ext_iff_of_nodup (p.imp fun h => Int.ne_of_lt h) (h.imp fun h => Int.ne_of_lt h)).mpr fun x => by rw [m x, decide_eq_true_eq]).eq_of_pairwise (fun x y _ _ a b => by omega) p h
theorem all_no {α : Type} {f : α → Bool} {l : List α} {i : Nat} {x : α} (h : l[i]? = some x) (e : f x = false) : l.all f = false := by
  rw [Bool.eq_false_iff]
  intro z
  rw [List.all_eq_true.mp z x (List.mem_of_getElem? h)] at e
  cases e
section
variable {P : Program} {w : World} {K : PySem.W.Frag} {mg : Str → Option Value} {base : Heap}
end
end Nm

namespace GL
open PySem PySem.Spec PyProof.Rows L2
/-! ### all(l), l a list of ints -/
section
variable {X : Cx}
theorem truth_ints {prog : Program} {w : World} {A : Around} {ns : List Int} {vs : List Value} (e : IntsAre vs ns) : TruthOf prog w A (fun j v => vs.toArray[j]? = some v) (fun j => (ns.map fun n => n != 0).getD j false) := by
  intro j v s Q E hv hq
  have hv' : vs[j]? = some v := by simpa using hv
  obtain ⟨n, t, h1, h2⟩ : ∃ (n : Int) (t : Tok), ns[j]? = some n ∧ v = .int n t := by
    clear hq hv
    induction e generalizing j with
    | nil => simp at hv'
    | cons n0 t0 tl ih =>
      cases j with
      | zero =>
        simp at hv'
        subst hv'
        exact ⟨_, _, rfl, rfl⟩
      | succ j => exact ih j (by simpa using hv')
  subst h2
  have hq' : Q ((ns.map fun n => n != 0).getD j false) s := hq
  rw [List.getD_eq_getElem?_getD, List.getElem?_map, h1] at hq'
  exact PySem.P.truthy_int hq'
def rAllI (K : PySem.W.Frag) : List V → Hp → VK → Prop := fun vs H Q => ∃ (l : Addr) (ns : List Int), vs = [V.ref l] ∧ SqL K H l (ns.map V.int) ∧ Q (.bl (ns.all fun n => n != 0)) H
theorem allIK {K : PySem.W.Frag} (calm : X.calm = true) (hK : X.K = K := by rfl) : CallR X (.builtin "all") (rAllI K) := by
  subst hK
  intro pins s σ H vs us Q I r h
  obtain ⟨l, ns, rfl, sq, q⟩ := h
  obtain ⟨its, rel, isl, _⟩ := I.list sq
  rw [Vals.ref1 r]
  have ii : IntsAre its ns := intsAre_of rel
  have len : its.length = ns.length := ii.length
  refine call_all_walk (iter_any isl.isList fun s2 e2 start apart => ?_)
  subst e2
  refine ⟨_, _, _, _, _, _, _, rfl, Walks.list (A := X.A.in1) (I.ok.hd calm) _ l apart its.toArray, start, truth_ints ii, fun h2 tk keep => ?_⟩
  refine ⟨.bl _, H, I.kept fun b o eb => keep b o (fun z => ?_) (Heap.get?_push_of_some _ eb), ?_, q⟩
  · rw [List.mem_singleton] at z
    rw [z] at eb
    exact absurd (Heap.lt_size eb) (Nat.lt_irrefl _)
  · have z := all_range (ns.map fun n => n != 0)
    rw [List.length_map, List.all_map] at z
    show Value.bool _ = Value.bool _
    rw [List.size_toArray, len, z]
    rfl
end
end GL
namespace Nm
open PySem PySem.Spec PyProof.Rows L2 GL LamX NdefX StX
/-! ### sums of powers of two -/
def sumN (r : List Int) : Nat := (r.map fun x => 2 ^ x.toNat).sum
theorem sumN_app (r : List Int) (x : Int) : sumN (r ++ [x]) = sumN r + 2 ^ x.toNat := by
  unfold sumN
  rw [List.map_append, List.sum_append]
  simp
/-- an ascending row below k: its sum, its bits -/
theorem sum_bits (r : List Int) : r.Pairwise (· < ·) → (∀ x ∈ r, 0 ≤ x) → ∀ k : Nat, (∀ x ∈ r, x < (k : Int)) → sumN r < 2 ^ k ∧ ∀ i : Nat, (sumN r).testBit i = decide ((i : Int) ∈ r) := by
  induction h : r.length generalizing r with
  | zero =>
    intro _ _ k _
    have : r = [] := List.length_eq_zero_iff.mp h
    subst this
    exact ⟨Nat.two_pow_pos k, fun i => by simp [sumN]⟩
  | succ n ih =>
    intro asc nn k bd
    rcases List.eq_nil_or_concat r with z | ⟨r0, x, z⟩
    · rw [z] at h
      cases h
    · rw [List.concat_eq_append] at z
      subst z
      obtain ⟨a1, a2, a3⟩ := List.pairwise_append.mp asc
      have xn := nn x (by simp)
      have xk := bd x (by simp)
      have l0 : r0.length = n := by simpa using h
      obtain ⟨b1, b2⟩ := ih r0 l0 a1 (fun y hy => nn y (List.mem_append_left _ hy)) x.toNat (fun y hy => by have := a3 y hy x (by simp); omega)
      rw [sumN_app, Nat.add_comm]
      have up : 2 ^ x.toNat + sumN r0 < 2 ^ (x.toNat + 1) := by
        rw [Nat.pow_succ]
        omega
      refine ⟨Nat.lt_of_lt_of_le up (Nat.pow_le_pow_right (by decide) (by omega)), fun i => ?_⟩
      rcases Nat.lt_trichotomy i x.toNat with c | c | c
      · rw [Nat.testBit_two_pow_add_gt c, b2]
        have : (i : Int) ≠ x := by omega
        simp [this]
      · subst c
        rw [Nat.testBit_two_pow_add_eq, Nat.testBit_lt_two_pow b1]
        have : ((x.toNat : Nat) : Int) = x := by omega
        simp [this]
      · rw [Nat.testBit_lt_two_pow (Nat.lt_of_lt_of_le up (Nat.pow_le_pow_right (by decide) (by omega)))]
        have e1 : (i : Int) ≠ x := by omega
        have e2 : (i : Int) ∉ r0 := fun z => by have := a3 _ z x (by simp); omega
        simp [e1, e2]
theorem bits_meet {n : Nat} {a b : List Int} (ga : Good n a) (gb : Good n b) : (Builtin.bitAnd (sumN a : Int) (sumN b : Int) != 0) = hitL a b := by
  obtain ⟨_, ta⟩ := sum_bits a ga.1 (fun x hx => (ga.2 x hx).1) n (fun x hx => (ga.2 x hx).2)
  obtain ⟨_, tb⟩ := sum_bits b gb.1 (fun x hx => (gb.2 x hx).1) n (fun x hx => (gb.2 x hx).2)
  rw [bitAnd_pp (by omega) (by omega), Int.toNat_natCast, Int.toNat_natCast, Bool.eq_iff_iff, hit_iff, bne_iff_ne]
  constructor
  · intro h
    have h' : sumN a &&& sumN b ≠ 0 := fun z => h (by rw [z]; rfl)
    obtain ⟨i, hi⟩ := Nat.exists_testBit_of_ne_zero h'
    rw [Nat.testBit_and, ta, tb, Bool.and_eq_true, decide_eq_true_eq, decide_eq_true_eq] at hi
    exact ⟨i, hi.1, hi.2⟩
  · rintro ⟨x, h1, h2⟩ z
    have xn := (ga.2 x h1).1
    have z' : sumN a &&& sumN b = 0 := by omega
    have t : (sumN a &&& sumN b).testBit x.toNat = true := by
      rw [Nat.testBit_and, ta, tb]
      have : ((x.toNat : Nat) : Int) = x := by omega
      simp [this, h1, h2]
    rw [z', Nat.zero_testBit] at t
    cases t
theorem setsL_good {mir n : Nat} : ∀ r ∈ setsL mir n, Good n r := fun r hr => ⟨(setsL_row mir n r hr).2.2.1, (setsL_row mir n r hr).2.2.2⟩
/-! ### sums by the law -/
abbrev sIsMarks : Stmt := topS 34
abbrev sSums : Stmt := topS 35
abbrev nIsMarks : List Str := ["_law_rule", "_law_value", "_law_mark"]
theorem scIsMarks : FnScope nIsMarks ["_law_rule", "_law_value"] (defScope sIsMarks) := ⟨rfl, rfl, rfl, by decide +kernel, rfl, by decide +kernel, by decide +kernel⟩
abbrev nSums : List Str := ["_law_size", "_law_most", "_law_found", "_law_power", "_law_mark", "_law_one", "_law_many"]
theorem scSums : FnScope nSums ["_law_size", "_law_most"] (defScope sSums) := ⟨rfl, rfl, rfl, by decide +kernel, rfl, by decide +kernel, by decide +kernel⟩
section
variable {P : Program} {w : World} {K : PySem.W.Frag} {mg : Str → Option Value} {base : Heap}
/-- a list of pairs of ints -/
def LPR (H : Hp) (l : Addr) (ps : List (Int × Int)) : Prop := ∃ ts : List Addr, H l = some (.lst (ts.map V.ref)) ∧ PR H ts ps
theorem LPR.same {H H' : Hp} {l : Addr} {ps : List (Int × Int)} (h : LPR H l ps) (s : Same H H') : LPR H' l ps := by
  obtain ⟨ts, h1, h2⟩ := h
  exact ⟨ts, s _ _ h1, h2.same s⟩
def sumsP (most k : Nat) : List (Int × Int) := (setsL most k).map fun r => ((sumN r : Int), (r.length : Int))
theorem sumsP_next (most k : Nat) : sumsP most (k + 1) = sumsP most k ++ ((sumsP most k).filter fun p => decide (p.2 < (most : Int))).map fun p => (p.1 + 2 ^ k, p.2 + 1) := by
  unfold sumsP
  show (setsL most k ++ _).map _ = _
  rw [List.map_append, List.filter_map, List.map_map, List.map_map]
  congr 1
  have e : (fun r : List Int => decide (r.length < most)) = (fun p : Int × Int => decide (p.2 < (most : Int))) ∘ fun r : List Int => ((sumN r : Int), (r.length : Int)) := by
    funext r
    simp
  rw [e]
  refine List.map_congr_left fun r _ => ?_
  simp only [Function.comp_apply]
  rw [sumN_app, List.length_append]
  simp
def spSums (K : PySem.W.Frag) : Sp := fun vs H Q _ => ∃ (n most : Nat), vs = [.int n, .int most] ∧ n ≤ 16 ∧ most ≤ 1000 ∧ ∀ (c : Addr) (H' : Hp), Same H H' → H' c = some (.lst (((setsL most n).map fun r => (sumN r : Int)).map V.int)) → Q (.ref c) H'
set_option maxHeartbeats 4000000 in
theorem ok_sums {f : Addr} {fd : FuncData} {k : Nat} (F : Fun K "_law_sums" "_law_sums" sSums f fd) (mr : mg "range" = none) : FnOk P w K mg base CX0 (k + 1) f fd ["_law_size", "_law_most"] (spSums K) := by
  refine F.ok scSums (fun vs H Q E h => ?_) (fun cdv A outer s H vs Q E hr h => ?_)
  · obtain ⟨n, most, rfl, _⟩ := h
    rfl
  · obtain ⟨n, most, rfl, n16, hm, q⟩ := h
    refine ⟨_, pss_cons (ps_asg (pe_tup (pa_cons (pe_lst (pa_cons (pe_tup (pa_cons pe_int (pa_cons pe_int pa_nil))) pa_nil)) (pa_cons pe_int pa_nil)))
          (pgTupK (K := K) rfl (pgs_cons (pg_name (i := 2) scSums.nd rfl (.inl rfl)) (pgs_cons (pg_name (i := 3) scSums.nd rfl (.inr rfl)) pgs_nil))))
      (pss_cons (ps_for PassesOwn.never rfl (pi_range1 (by rfl) mr (pa_cons (pv 0) pa_nil)) (pg_name (i := 4) scSums.nd rfl (.inl rfl))
        (pss_cons (ps_set (i := 2) scSums.nd rfl (.inl rfl) (pe_op op_cat (pv 2)
          (pe_lc (own := [("_law_one", 5), ("_law_many", 6)]) (g := gTup K 2 (gCons (gName 5) (gCons (gName 6) gNil))) (by rfl) scSums.nd (piLstK (K := K) (pv 2))
            (blkOk_by (own := [("_law_one", 5), ("_law_many", 6)]) (N := nSums) (sc := defScope sSums) (by decide +kernel))
            (fun _ _ _ _ _ => pgTupK rfl (pgs_cons (pg_name (i := 5) scSums.nd rfl (.inl rfl)) (pgs_cons (pg_name (i := 6) scSums.nd rfl (.inl rfl)) pgs_nil)))
            (fun _ _ _ _ _ => pts_one (pt_cmpR op_lt (pv 6) (pv 1) (nomark _)))
            (fun _ _ _ _ _ => pe_tup (pa_cons (pe_op op_add (pv 5) (pv 3)) (pa_cons (pe_op op_add (pv 6) pe_int) pa_nil))))))
        (pss_one (ps_set (i := 3) scSums.nd rfl (.inr rfl) (pe_op op_mul (pv 3) pe_int)))))
      (pss_one (ps_ret (pe_lc (own := [("_law_one", 5), ("_law_many", 6)]) (g := gTup K 2 (gCons (gName 5) (gCons (gName 6) gNil))) (by rfl) scSums.nd (piLstK (K := K) (pv 2))
            (blkOk_by (own := [("_law_one", 5), ("_law_many", 6)]) (N := nSums) (sc := defScope sSums) (by decide +kernel))
            (fun _ _ _ _ _ => pgTupK rfl (pgs_cons (pg_name (i := 5) scSums.nd rfl (.inl rfl)) (pgs_cons (pg_name (i := 6) scSums.nd rfl (.inl rfl)) pgs_nil)))
            (fun _ _ _ _ _ => pts_nil) (fun _ _ _ _ _ => pv 5))))), ?_⟩
    have slen : ∀ i ≤ n, (setsL most i).length ≤ 65536 := fun i hi => Nat.le_trans (setsL_length most i) (Nat.pow_le_pow_right (by decide) (show i ≤ 16 by omega))
    refine ⟨by show 2 ≤ sizeLine; decide, fun t0 nt0 => ⟨by show 1 ≤ sizeLine; decide, fun L0 nL0 => ⟨by show 2 ≤ sizeLine; decide, fun t1 nt1 => ?_⟩⟩⟩
    have s0 := same_upd (o := .tup [.int 0, .int 0]) nt0
    have s1 := same_upd (o := .lst [.ref t0]) nL0
    have s2 := same_upd (o := .tup [.ref L0, .int 1]) nt1
    refine ⟨t1, _, rfl, SqT.of upd_same, rfl, _, _, rfl, _, _, rfl, rfl, ?_⟩
    have hL : LPR (upd (upd (upd H t0 (.tup [.int 0, .int 0])) L0 (.lst [.ref t0])) t1 (.tup [.ref L0, .int 1])) L0 (sumsP most 0) := ⟨[t0], s2 _ _ upd_same, .cons (s2 _ _ (s1 _ _ upd_same)) .nil⟩
    have sA := s0.trans (s1.trans s2)
    generalize upd (upd (upd H t0 (.tup [.int 0, .int 0])) L0 (.lst [.ref t0])) t1 (.tup [.ref L0, .int 1]) = H1 at hL sA ⊢
    refine ⟨.int n, rfl, (n : Int), rfl, by omega, by omega, ?_⟩
    rw [Int.toNat_natCast]
    refine for_range (lo := 0) (n := n) (fun i σ H' => ∃ (L : Addr) (y4 y5 y6 : Option V), σ = [some (.int n), some (.int most), some (.ref L), some (.int (2 ^ i)), y4, y5, y6] ∧ LPR H' L (sumsP most i) ∧ Same H H')
      ⟨L0, none, none, none, rfl, hL, sA⟩ ?_ ?_
    · rintro i σ H2 hi ⟨L, y4, y5, y6, rfl, hL2, sm2⟩
      obtain ⟨ts, hLs, hPR⟩ := hL2
      have lts : ts.length = (sumsP most i).length := Paired.length hPR
      have lsm : (sumsP most i).length ≤ 65536 := by
        unfold sumsP
        rw [List.length_map]
        exact slen i (by omega)
      refine ⟨.ref L, rfl, .ref L, rfl, L, rfl, ⟨_, SqL.of hLs⟩, fun D nD => ?_⟩
      have sD := same_upd (o := .lst []) nD
      refine lc_list (K := K) (a := L) (xs := ts.map V.ref) (fun j H3 => LPR H3 D ((((sumsP most i).take j).filter fun p => decide (p.2 < (most : Int))).map fun p => (p.1 + 2 ^ i, p.2 + 1)) ∧ Same H2 H3) ⟨⟨[], upd_same, .nil⟩, sD⟩ (fun j H3 _ h => SqL.of (h.2 _ _ hLs)) ?_ ?_
      · rintro j x H3 hx ⟨⟨us, hD, hU⟩, s3⟩
        obtain ⟨a, ha, rfl⟩ := ref_at hx
        obtain ⟨pr, hp, hcell⟩ := paired_get hPR ha
        have tk : (sumsP most i).take (j + 1) = (sumsP most i).take j ++ [pr] := by
          rw [List.take_add_one, hp]
          rfl
        have lu : us.length = ((((sumsP most i).take j).filter fun p => decide (p.2 < (most : Int))).map fun p => (p.1 + 2 ^ i, p.2 + 1)).length := Paired.length hU
        refine ⟨a, _, rfl, SqT.of (s3 _ _ hcell), rfl, _, _, rfl, _, _, rfl, rfl, rfl, .int pr.2, rfl, .int most, rfl, _, _, rfl, rfl, _, rfl, ite2 (fun e => ?_) (fun e => ?_)⟩
        · refine ⟨.int pr.1, rfl, .int (2 ^ i), rfl, _, _, rfl, rfl, .int pr.2, rfl, _, 1, rfl, rfl, by show 2 ≤ sizeLine; decide, fun u nu => ?_⟩
          have su := same_upd (o := .tup [.int (pr.1 + 2 ^ i), .int (pr.2 + 1)]) nu
          have hD4 := su _ _ hD
          refine ⟨_, hD4, ?_, ⟨us ++ [u], ?_, ?_⟩, ?_⟩
          · rw [List.length_map, lu, List.length_map]
            refine lenLine (Nat.lt_of_le_of_lt (List.length_filter_le _ _) ?_)
            rw [List.length_take]
            omega
          · rw [upd_same, List.map_append]
            rfl
          · rw [tk, List.filter_append, List.map_append, List.filter_cons_of_pos (by simpa using e)]
            refine PR.kt (paired_append (hU.same su) (.cons upd_same .nil)) (KT.lst hD4)
          · intro b o hb
            rw [upd_ne (ne_of_none hb nD)]
            exact su _ _ (s3 _ _ hb)
        · refine ⟨⟨us, hD, ?_⟩, s3⟩
          rw [tk, List.filter_append, List.filter_cons_of_neg (by simpa using e), List.filter_nil, List.append_nil]
          exact hU
      · rintro H3 ⟨⟨us, hD, hU⟩, s3⟩
        rw [List.length_map, lts, List.take_length] at hU
        have lu : us.length = (((sumsP most i).filter fun p => decide (p.2 < (most : Int))).map fun p => (p.1 + 2 ^ i, p.2 + 1)).length := Paired.length hU
        have lu2 : us.length ≤ 65536 := by
          rw [lu, List.length_map]
          exact Nat.le_trans (List.length_filter_le _ _) lsm
        refine ⟨L, D, _, _, rfl, rfl, s3 _ _ hLs, hD, ?_, fun L2 nL2 => ?_⟩
        · rw [List.length_map, List.length_map]
          exact Nat.le_of_lt (lenLine (by omega))
        have sL2 := same_upd (o := .lst (ts.map V.ref ++ us.map V.ref)) nL2
        refine ⟨.int (2 ^ i), rfl, 2 ^ i, 2, rfl, rfl, .inr ⟨by decide, by decide⟩, L2, some (.int (0 + i)), y5, y6, ?_, ⟨ts ++ us, ?_, ?_⟩, sm2.trans (s3.trans sL2)⟩
        · rw [Int.pow_succ]
          rfl
        · rw [upd_same, List.map_append]
        · rw [sumsP_next]
          exact paired_append ((hPR.same s3).same sL2) (hU.same sL2)
    · rintro σ H2 ⟨L, y4, y5, y6, rfl, hL2, sm2⟩
      obtain ⟨ts, hLs, hPR⟩ := hL2
      have lts : ts.length = (sumsP most n).length := Paired.length hPR
      have lsm : (sumsP most n).length ≤ 65536 := by
        unfold sumsP
        rw [List.length_map]
        exact slen n (Nat.le_refl _)
      refine ⟨.ref L, rfl, L, rfl, ⟨_, SqL.of hLs⟩, fun D nD => ?_⟩
      have sD := same_upd (o := .lst []) nD
      refine lc_list (K := K) (a := L) (xs := ts.map V.ref) (fun j H3 => H3 D = some (.lst ((((sumsP most n).take j).map (·.1)).map V.int)) ∧ Same H2 H3) ⟨upd_same, sD⟩ (fun j H3 _ h => SqL.of (h.2 _ _ hLs)) ?_ ?_
      · rintro j x H3 hx ⟨hD, s3⟩
        obtain ⟨a, ha, rfl⟩ := ref_at hx
        obtain ⟨pr, hp, hcell⟩ := paired_get hPR ha
        refine ⟨a, _, rfl, SqT.of (s3 _ _ hcell), rfl, _, _, rfl, _, _, rfl, rfl, rfl, yesI ⟨_, rfl, _, hD, ?_, ?_, ?_⟩⟩
        · rw [List.length_map, List.length_map, List.length_take]
          exact lenLine (by omega)
        · rw [upd_same, List.take_add_one, hp, List.map_append, List.map_append]
          rfl
        · intro b o hb
          rw [upd_ne (ne_of_none hb nD)]
          exact s3 _ _ hb
      · rintro H3 ⟨hD, s3⟩
        rw [List.length_map, lts, List.take_length] at hD
        refine q D H3 (sm2.trans s3) ?_
        rw [hD]
        unfold sumsP
        rw [List.map_map, List.map_map, List.map_map]
        rfl
end
end Nm

namespace GL
open PySem PySem.Spec PyProof.Rows L2
theorem sumK {X : Cx} {K : PySem.W.Frag} (hc : X.calm = true) (hK : X.K = K := by rfl) : CallR X (.builtin "sum") (rSum K) := by
  subst hK
  exact cr_sum hc
/-- parts of statements -/
def asgVal : Stmt → Expr
  | .Assign _ v _ => v
  | _ => .Constant .none 0 ⟨0, 0, 0, 0⟩
def inBody : Stmt → List Stmt
  | .While _ b _ _ => b
  | .For _ _ b _ _ => b
  | .If _ b _ _ => b
  | _ => []
def ifTest : Stmt → Expr
  | .If c _ _ _ => c
  | _ => .Constant .none 0 ⟨0, 0, 0, 0⟩
def callArg : Expr → Expr
  | .Call _ (e :: _) _ _ => e
  | .UnaryOp _ (.Call _ (e :: _) _ _) _ => e
  | _ => .Constant .none 0 ⟨0, 0, 0, 0⟩
def stAt (l : List Stmt) (i : Nat) : Stmt := l.getD i (.Pass ⟨0, 0, 0, 0⟩)
end GL
namespace Nm
open PySem PySem.Spec PyProof.Rows L2 GL LamX NdefX StX
/-! ### rounds by sums -/
abbrev sRbs : Stmt := topS 36
abbrev nRbs : List Str := ["_law_rule", "_law_mirrors", "_law_every", "_law_left", "_law_found", "_law_powers", "_law_mark", "_law_some", "_law_sums_here", "_law_gone", "_law_one", "_law_lying"]
theorem scRbs : FnScope nRbs ["_law_rule", "_law_mirrors"] (defScope sRbs) := ⟨rfl, rfl, rfl, by decide +kernel, rfl, by decide +kernel, by decide +kernel⟩
theorem sums_stop {T : List (List Int)} (r : IsRule T) (mir : Nat) (m : Int) (left : List Int) :
    (((setsL mir T.length).map fun ss => (sumN ss : Int)).map fun z => (((behL T m).filter fun c => decide (c ∈ left)).map fun c => (sumN (behL T c) : Int)).all fun s => Builtin.bitAnd s z != 0).any id = stopL T m left (setsL mir T.length) := by
  rw [List.map_map, List.any_map]
  unfold stopL
  have key : ∀ ss ∈ setsL mir T.length, ((((behL T m).filter fun c => decide (c ∈ left)).map fun c => (sumN (behL T c) : Int)).all fun s => Builtin.bitAnd s (sumN ss : Int) != 0) = !hitL (fitL T m ss) left := fun ss hss => by
    have gs := setsL_good ss hss
    rw [List.all_map, Bool.eq_iff_iff, List.all_eq_true, Bool.not_eq_true', ← Bool.not_eq_true, hit_iff]
    constructor
    · rintro h ⟨x, hx, hl⟩
      obtain ⟨h1, h2⟩ := fit_mem.mp hx
      have z := h x (List.mem_filter.mpr ⟨h1, decide_eq_true hl⟩)
      simp only [Function.comp_apply] at z
      rw [bits_meet (behL_good r x) gs, hit_iff] at z
      obtain ⟨y, hy, hs⟩ := z
      exact h2 y hy hs
    · intro h x hx
      obtain ⟨h1, h2⟩ := List.mem_filter.mp hx
      simp only [Function.comp_apply]
      rw [bits_meet (behL_good r x) gs]
      cases e : hitL (behL T x) ss with
      | true => rfl
      | false =>
        exfalso
        refine h ⟨x, fit_mem.mpr ⟨h1, fun y hy hs => ?_⟩, of_decide_eq_true h2⟩
        have : hitL (behL T x) ss = true := hit_iff.mpr ⟨y, hy, hs⟩
        rw [e] at this
        cases this
  have gen : ∀ l : List (List Int), (∀ ss ∈ l, ss ∈ setsL mir T.length) → l.any (id ∘ (fun z => (((behL T m).filter fun c => decide (c ∈ left)).map fun c => (sumN (behL T c) : Int)).all fun s => Builtin.bitAnd s z != 0) ∘ fun ss => (sumN ss : Int)) = l.any fun ss => !hitL (fitL T m ss) left := fun l => by
    induction l with
    | nil => intro _; rfl
    | cons a l ih =>
      intro h
      rw [List.any_cons, List.any_cons, ih fun ss hs => h ss (List.mem_cons_of_mem _ hs)]
      congr 1
      exact key a (h a List.mem_cons_self)
  exact gen _ fun _ h => h
def powsI (n : Nat) : List Int := (List.range n).map fun i => (2 : Int) ^ i
theorem sum_pows {n : Nat} {r : List Int} (g : Good n r) : (r.map fun x => (2 : Int) ^ x.toNat).sum = (sumN r : Int) := by
  unfold sumN
  clear g
  induction r with
  | nil => rfl
  | cons a r ih =>
    rw [List.map_cons, List.sum_cons, ih, List.map_cons, List.sum_cons]
    simp
section
variable {P : Program} {w : World} {K : PySem.W.Frag} {mg : Str → Option Value} {base : Heap}
/-- what the rounds by sums lean on -/
structure Rbs (K : PySem.W.Frag) (mg : Str → Option Value) : Prop where
  len : mg "len" = none
  any : mg "any" = none
  all : mg "all" = none
  range : mg "range" = none
  list : mg "list" = none
  tuple : mg "tuple" = none
  sum : mg "sum" = none
  S : Has K mg "_law_sums" sSums ["_law_size", "_law_most"]
set_option maxHeartbeats 8000000 in
theorem ok_rbs {f : Addr} {fd : FuncData} {k : Nat} (F : Fun K "_law_rounds_by_sums" "_law_rounds_by_sums" sRbs f fd) (D : Rbs K mg) : FnOk P w K mg base CX0 (k + 2) f fd ["_law_rule", "_law_mirrors"] (spRemoved2 K) := by
  obtain ⟨ml, ma, mall, mr, mlist, mtup, msum, fS, dS, FS, bS, gS⟩ := D
  have GS : FnOk P w K mg base CX0 (k + 1) fS dS ["_law_size", "_law_most"] (spSums K) := ok_sums FS mr
  refine F.ok scRbs (fun vs H Q E h => ?_) (fun cdv A outer s H vs Q E hr h => ?_)
  · obtain ⟨p, mir, T, rfl, _⟩ := h
    rfl
  · obtain ⟨p, mir, T, rfl, hT, rule, hm, q⟩ := h
    refine ⟨_, pss_cons (ps_asg (pe_tup (pa_cons (pe_call GS hr (by rfl) gS FS.kp bS .nil pass0 (pa_cons (pe_callB (lenK (K := K)) (by rfl) ml PySem.boot_len (pa_cons (pv 0) pa_nil)) (pa_cons (pv 1) pa_nil)))
          (pa_cons (pe_listRg (by rfl) (by rfl) mlist (prg_1 (by rfl) mr (pe_callB (lenK (K := K)) (by rfl) ml PySem.boot_len (pa_cons (pv 0) pa_nil)))) (pa_cons (pe_lst pa_nil) pa_nil))))
          (pgTupK (K := K) rfl (pgs_cons (pg_name (i := 2) scRbs.nd rfl (.inl rfl)) (pgs_cons (pg_name (i := 3) scRbs.nd rfl (.inr rfl)) (pgs_cons (pg_name (i := 4) scRbs.nd rfl (.inl rfl)) pgs_nil)))))
      (pss_cons (ps_set (i := 5) scRbs.nd rfl (.inr rfl) (pe_lst (pa_cons pe_int pa_nil)))
      (pss_cons (ps_for PassesOwn.never rfl (piTupK (K := K) (pe_cut (pe_slice (slAK (K := K)) (pv 0) (po_some pe_int) po_none))) (pg_name (i := 6) scRbs.nd rfl (.inl rfl))
        (pss_one (ps_expr (pe_bm PySem.F.plainAttrs_list PySem.F.slot_list_append PySem.F.type_list_append mt_append (pv 5) (pa_cons (pe_op op_mul (pe_ix (ixLstK (K := K)) (pv 5) (pe_un un_neg pe_int) (fun _ _ => rfl)) pe_int) pa_nil)))))
      (pss_cons (ps_set (i := 8) scRbs.nd rfl (.inr rfl)
          (pe_lc (own := [("_law_some", 7)]) (g := gName 7) (by rfl) scRbs.nd (piTupK (K := K) (pv 0))
            (blkOk_by (own := [("_law_some", 7)]) (N := nRbs) (sc := defScope sRbs) (by decide +kernel))
            (fun _ _ _ _ _ => pg_name (i := 7) scRbs.nd rfl (Or.inl rfl)) (fun _ _ _ _ _ => pts_nil)
            (fun _ _ _ _ _ => pe_callB (sumK (K := K) rfl) (by rfl) msum (by decide +kernel) (pa_cons
              (pe_lc (own := [("_law_one", 10)]) (g := gName 10) (by rfl) scRbs.nd (piTupK (K := K) (pv 7))
                (blkOk_by (own := [("_law_one", 10)]) (N := nRbs) (sc := relS (lcSc (asgVal (stAt (defBody sRbs) 3))) (defScope sRbs)) (by decide +kernel))
                (fun _ _ _ _ _ => pg_name (i := 10) scRbs.nd rfl (Or.inl rfl)) (fun _ _ _ _ _ => pts_nil)
                (fun _ _ _ _ _ => pe_ix (ixLstK (K := K)) (pv 5) (pv 10) (fun _ _ => rfl))) pa_nil))))
      (pss_one (ps_while PassesOwn.never (pt_val pe_bl)
        (pss_cons (ps_set (i := 9) scRbs.nd rfl (.inr rfl) (pe_lst pa_nil))
        (pss_cons (ps_for PassesOwn.never rfl (piLstK (K := K) (pv 3)) (pg_name (i := 6) scRbs.nd rfl (.inl rfl))
          (pss_cons (ps_set (i := 7) scRbs.nd rfl (.inr rfl)
            (pe_lc (own := [("_law_one", 10)]) (g := gName 10) (by rfl) scRbs.nd (piTupK (K := K) (pe_ix (ixTupK (K := K)) (pv 0) (pv 6) (fun _ _ => rfl)))
              (blkOk_by (own := [("_law_one", 10)]) (N := nRbs) (sc := defScope sRbs) (by decide +kernel))
              (fun _ _ _ _ _ => pg_name (i := 10) scRbs.nd rfl (Or.inl rfl))
              (fun _ _ _ _ _ => pts_one (pt_cmpR (inK (K := K)) (pv 10) (pv 3) (by rfl)))
              (fun _ _ _ _ _ => pe_ix (ixLstK (K := K)) (pv 8) (pv 10) (fun _ _ => rfl))))
          (pss_one (ps_if (pt_val (pe_callB (any2K (K := K) rfl) (by rfl) ma (by decide +kernel) (pa_cons
              (pe_lc (own := [("_law_lying", 11)]) (g := gName 11) (by rfl) scRbs.nd (piLstK (K := K) (pv 2))
                (blkOk_by (own := [("_law_lying", 11)]) (N := nRbs) (sc := defScope sRbs) (by decide +kernel))
                (fun _ _ _ _ _ => pg_name (i := 11) scRbs.nd rfl (Or.inr rfl)) (fun _ _ _ _ _ => pts_nil)
                (fun _ _ _ _ _ => pe_callB (allIK (K := K) rfl) (by rfl) mall (by decide +kernel) (pa_cons
                  (pe_lc (own := [("_law_one", 10)]) (g := gName 10) (by rfl) scRbs.nd (piLstK (K := K) (pv 7))
                    (blkOk_by (own := [("_law_one", 10)]) (N := nRbs) (sc := relS (lcSc (callArg (ifTest (stAt (inBody (stAt (inBody (stAt (defBody sRbs) 4)) 1)) 1)))) (defScope sRbs)) (by decide +kernel))
                    (fun _ _ _ _ _ => pg_name (i := 10) scRbs.nd rfl (Or.inl rfl)) (fun _ _ _ _ _ => pts_nil)
                    (fun _ _ _ _ _ => pe_op op_and (pv 10) (pv 11))) pa_nil))) pa_nil)))
            (pss_one (ps_expr (pe_bm PySem.F.plainAttrs_list PySem.F.slot_list_append PySem.F.type_list_append mt_append (pv 9) (pa_cons (pv 6) pa_nil)))) pss_nil))))
        (pss_cons (ps_if (pt_cmpR (op_eqD hr.units) (pv 9) (pe_lst pa_nil) (nomark _)) (pss_one (ps_ret (pe_callTy (tupOfK (K := K)) (by rfl) mtup (by decide +kernel) (pa_cons (pv 4) pa_nil)))) pss_nil)
        (pss_cons (ps_expr (pe_bm PySem.F.plainAttrs_list PySem.F.slot_list_append PySem.F.type_list_append mt_append (pv 4) (pa_cons (pe_callTy (tupOfK (K := K)) (by rfl) mtup (by decide +kernel) (pa_cons (pv 9) pa_nil)) pa_nil)))
        (pss_one (ps_set (i := 3) scRbs.nd rfl (.inr rfl)
          (pe_lc (own := [("_law_mark", 6)]) (g := gName 6) (by rfl) scRbs.nd (piLstK (K := K) (pv 3))
            (blkOk_by (own := [("_law_mark", 6)]) (N := nRbs) (sc := defScope sRbs) (by decide +kernel))
            (fun _ _ _ _ _ => pg_name (i := 6) scRbs.nd rfl (Or.inl rfl))
            (fun _ _ _ _ _ => pts_one (pt_cmpR (notInK (K := K)) (pv 6) (pv 9) (by rfl)))
            (fun _ _ _ _ _ => pv 6))))))))))))), ?_⟩
    have hT0 := hT
    obtain ⟨rs, hp, hR⟩ := hT0
    have lr : rs.length = T.length := Paired.length hR
    have lm : (rs.map V.ref).length = T.length := by rw [List.length_map]; exact lr
    have n1 := rule.1
    have n16 := rule.2.1
    refine ⟨.ref p, rfl, p, _, rfl, .inr (SqT.of hp), .int mir, rfl, ?_⟩
    rw [lm]
    refine ⟨T.length, mir, rfl, n16, hm, fun ev H1 s1 hev => ?_⟩
    refine ⟨.ref p, rfl, p, _, rfl, .inr (SqT.of (s1 _ _ hp)), ?_⟩
    rw [lm]
    refine ⟨(T.length : Int), rfl, RgOk.of_le (by decide) (by omega) (by decide) (by omega), fun L0 nL0 => ⟨Nat.zero_le _, fun Fo nF => ⟨by show 3 ≤ sizeLine; decide, fun t0 nt0 => ?_⟩⟩⟩
    rw [rgV_range] at nF nt0 ⊢
    have sL0 := same_upd (o := .lst ((rangeI T.length).map V.int)) nL0
    have sF := same_upd (o := .lst []) nF
    have st0 := same_upd (o := .tup [.ref ev, .ref L0, .ref Fo]) nt0
    refine ⟨t0, _, rfl, SqT.of upd_same, rfl, _, _, rfl, _, _, rfl, _, _, rfl, rfl, ?_⟩
    have hL0 : upd H1 L0 (.lst ((rangeI T.length).map V.int)) L0 = some (.lst ((rangeI T.length).map V.int)) := upd_same
    have hF0 : upd (upd H1 L0 (.lst ((rangeI T.length).map V.int))) Fo (.lst []) Fo = some (.lst []) := upd_same
    have nFe : ev ≠ Fo := ne_of_none (sL0 _ _ hev) nF
    have nFL : L0 ≠ Fo := ne_of_none hL0 nF
    have nF1 : H Fo = none := s1.free (sL0.free nF)
    have hev2 := st0 _ _ (sF _ _ (sL0 _ _ hev))
    have hL2 := st0 _ _ (sF _ _ hL0)
    have hF2 := st0 _ _ hF0
    have s2 := s1.trans (sL0.trans (sF.trans st0))
    generalize upd (upd (upd H1 L0 (.lst ((rangeI T.length).map V.int))) Fo (.lst [])) t0 (.tup [.ref ev, .ref L0, .ref Fo]) = H2 at hev2 hL2 hF2 s2 ⊢
    refine ⟨by show 1 ≤ sizeLine; decide, fun Pw nP => ?_⟩
    have sP := same_upd (o := .lst [.int 1]) nP
    have hp3 := sP _ _ (s2 _ _ hp)
    have hP3 : upd H2 Pw (.lst [.int 1]) Pw = some (.lst ((powsI 1).map V.int)) := upd_same
    refine ⟨fun v H' => ∃ pp : Addr, v = .ref pp ∧ Same (upd H2 Pw (.lst [.int 1])) H' ∧ H' pp = some (.tup (cutV (rs.map V.ref) (some 1) none)), ⟨.ref p, rfl, 1, rfl, ?_⟩, ?_⟩
    · dsimp only [tNoPart]
      exact slA_of hp3 fun pp H4 s4 hpp => ⟨pp, rfl, s4, hpp⟩
    rintro _ H4 ⟨pp, rfl, s4, hpp⟩
    refine ⟨pp, rfl, ⟨_, SqT.of hpp⟩, ?_⟩
    have ecut : cutV (rs.map V.ref) (some 1) none = (rs.drop 1).map V.ref := by
      unfold cutV
      rw [show (some (1 : Int)) = some ((1 : Nat) : Int) from rfl, HT.sIx_nat, HT.sIx_none, List.length_map, Nat.min_eq_left (by omega : 1 ≤ rs.length), List.map_drop, List.take_of_length_le (by rw [List.length_drop, List.length_map]; exact Nat.le_refl _)]
    have hpp' : H4 pp = some (.tup ((rs.drop 1).map V.ref)) := by
      rw [← ecut]
      exact hpp
    have nPe : Pw ≠ ev := (ne_of_none hev2 nP).symm
    have nPL : Pw ≠ L0 := (ne_of_none hL2 nP).symm
    have nPF : Pw ≠ Fo := (ne_of_none hF2 nP).symm
    have npp : pp ≠ Pw := fun z => by
      rw [z, s4 _ _ hP3] at hpp'
      cases hpp'
    refine for_tup (K := K) (a := pp) (xs := (rs.drop 1).map V.ref) (fun i σ H' => ∃ (y6 : Option V), σ = [some (.ref p), some (.int mir), some (.ref ev), some (.ref L0), some (.ref Fo), some (.ref Pw), y6, none, none, none, none, none] ∧ H' Pw = some (.lst ((powsI (i + 1)).map V.int)) ∧ H' pp = some (.tup ((rs.drop 1).map V.ref)) ∧ Same H2 H')
      ⟨none, rfl, s4 _ _ hP3, hpp', sP.trans s4⟩ (fun i σ H' _ h => ?_) ?_ ?_
    · obtain ⟨_, _, _, h3, _⟩ := h
      exact SqT.of h3
    · rintro i x σ H5 hx ⟨y6, rfl, hP5, hpp5, s5⟩
      obtain ⟨_, _, rfl⟩ := ref_at hx
      have il : i < rs.length := by
        have z := (List.getElem?_eq_some_iff.mp hx).1
        rw [List.length_map, List.length_drop] at z
        omega
      have at1 : atI ((powsI (i + 1)).map V.int) (-1) = some (.int (2 ^ i)) := by
        unfold powsI
        rw [List.range_succ, List.map_append, List.map_append]
        exact atI_last _ _
      refine ⟨.ref Pw, rfl, .inl ⟨rfl, _, SqL.of hP5⟩, .ref Pw, rfl, 1, rfl, Pw, _, -1, _, rfl, rfl, SqL.of hP5, at1, 2 ^ i, 2, rfl, rfl, .inr ⟨by decide, by decide⟩, Pw, _, _, rfl, rfl, hP5, ?_, _, rfl, ?_, ?_, ?_⟩
      · unfold powsI
        rw [List.length_map, List.length_map, List.length_range]
        exact lenLine (by omega)
      · rw [upd_same]
        conv => rhs; unfold powsI; rw [List.range_succ, List.map_append, List.map_append]
        rfl
      · rw [upd_ne npp]
        exact hpp5
      · intro b o hb
        rw [upd_ne (ne_of_none hb nP)]
        exact s5 _ _ hb
    rintro σ H5 ⟨y6, rfl, hP5, _, s5⟩
    rw [List.length_map, List.length_drop, lr, show T.length - 1 + 1 = T.length by omega] at hP5
    have s25 := s2.trans s5
    have hp5 := s25 _ _ hp
    have hR5 := hR.same s25
    refine ⟨.ref p, rfl, p, rfl, ⟨_, SqT.of hp5⟩, fun S nS => ?_⟩
    have sS := same_upd (o := .lst []) nS
    refine lc_tup (K := K) (a := p) (xs := rs.map V.ref) (fun j H6 => H6 S = some (.lst (((T.take j).map fun r => (sumN r : Int)).map V.int)) ∧ Same H5 H6) ⟨upd_same, sS⟩ (fun j H6 _ h => SqT.of (h.2 _ _ hp5)) ?_ ?_
    · rintro j x H6 hx ⟨hS6, s6⟩
      obtain ⟨c, hc, rfl⟩ := ref_at hx
      obtain ⟨row, hrow, hcell⟩ := paired_get hR5 hc
      have gr := rule.2.2 row (List.mem_of_getElem? hrow)
      have jl := (List.getElem?_eq_some_iff.mp hrow).1
      have grl := gr.len
      refine ⟨rfl, yesI ⟨.ref c, rfl, c, rfl, ⟨_, SqT.of (s6 _ _ hcell)⟩, fun D nD => ?_⟩⟩
      have sD := same_upd (o := .lst []) nD
      refine lc_tup (K := K) (a := c) (xs := row.map V.int) (fun i H7 => H7 D = some (.lst (((row.take i).map fun x => (2 : Int) ^ x.toNat).map V.int)) ∧ Same H6 H7) ⟨upd_same, sD⟩ (fun i H7 _ h => SqT.of (h.2 _ _ (s6 _ _ hcell))) ?_ ?_
      · rintro i x H7 hx ⟨hD7, s7⟩
        obtain ⟨y, hy, rfl⟩ := int_at hx
        have yb := gr.2 y (List.mem_of_getElem? hy)
        have at1 : atI ((powsI T.length).map V.int) y = some (.int (2 ^ y.toNat)) := by
          have z := atI_nat (xs := (powsI T.length).map V.int) (j := y.toNat) (v := .int (2 ^ y.toNat)) (by unfold powsI; rw [List.getElem?_map, List.getElem?_map, List.getElem?_range (by omega)]; rfl)
          rw [show ((y.toNat : Nat) : Int) = y by omega] at z
          exact z
        refine ⟨rfl, yesI ⟨.ref Pw, rfl, .int y, rfl, Pw, _, y, _, rfl, rfl, SqL.of (s7 _ _ (s6 _ _ hP5)), at1, _, hD7, ?_, ?_, ?_⟩⟩
        · rw [List.length_map, List.length_map, List.length_take]
          exact lenLine (by omega)
        · rw [upd_same, List.take_add_one, hy, List.map_append, List.map_append]
          rfl
        · intro b o hb
          rw [upd_ne (ne_of_none hb nD)]
          exact s7 _ _ hb
      · rintro H7 ⟨hD7, s7⟩
        rw [List.length_map, List.take_length] at hD7
        refine ⟨D, _, rfl, SqL.of hD7, _, s7 _ _ hS6, ?_, ?_, ?_⟩
        · rw [List.length_map, List.length_map, List.length_take]
          exact lenLine (by omega)
        · rw [upd_same, List.take_add_one, hrow, List.map_append, List.map_append, sum_pows gr]
          rfl
        · intro b o hb
          rw [upd_ne (ne_of_none hb nS)]
          exact s7 _ _ (s6 _ _ hb)
    rintro H6 ⟨hS6, s6⟩
    rw [List.length_map, lr, List.take_length] at hS6
    have s26 := s25.trans s6
    have hev6 := s6 _ _ (s5 _ _ hev2)
    have hL6 := s6 _ _ (s5 _ _ hL2)
    have hF6 := s6 _ _ (s5 _ _ hF2)
    have nSF : S ≠ Fo := (ne_of_none (s5 _ _ hF2) nS).symm
    obtain ⟨every, ee⟩ : ∃ every, every = setsL mir T.length := ⟨_, rfl⟩
    have lev : every.length ≤ 65536 := by
      rw [ee]
      exact Nat.le_trans (setsL_length mir T.length) (Nat.pow_le_pow_right (by decide) n16)
    have hq : ∀ (c : Addr) (H' : Hp), Same H H' → Tbl H' c (roundsL T every (T.length + 1) (rangeI T.length)) → Q (.ref c) H' := by
      rw [ee]
      exact q
    rw [← ee] at hev6
    clear q
    generalize hRes : roundsL T every (T.length + 1) (rangeI T.length) = R at hq
    refine ⟨fun c σ H' => ∃ (L : Addr) (left : List Int) (acc : List (List Int)) (y6 y7 y9 y10 y11 : Option V), σ = [some (.ref p), some (.int mir), some (.ref ev), some (.ref L), some (.ref Fo), some (.ref Pw), y6, y7, some (.ref S), y9, y10, y11] ∧ c = left.length ∧ L ≠ Fo ∧ H' L = some (.lst (left.map V.int)) ∧
      LRows H' Fo acc ∧ H' ev = some (.lst ((every.map fun r => (sumN r : Int)).map V.int)) ∧ H' S = some (.lst ((T.map fun r => (sumN r : Int)).map V.int)) ∧ Same H H' ∧ acc ++ roundsL T every (left.length + 1) left = R ∧ acc.length + left.length ≤ 16 ∧ (∀ x ∈ left, 0 ≤ x ∧ x < (T.length : Int)),
      ⟨T.length, L0, rangeI T.length, [], y6, none, none, none, none, rfl, by rw [rangeI_length], nFL, hL6, ⟨[], hF6, .nil⟩, hev6, hS6, s26, ?_, ?_, fun x hx => mem_rangeI.mp hx⟩, fun c σ H7 hW => ?_⟩
    · rw [rangeI_length]
      exact hRes
    · rw [rangeI_length]
      simpa using n16
    obtain ⟨L, left, acc, z6, z7, z9, z10, z11, rfl, rfl, nLF7, hL7, hF7, hev7, hS7, sm7, hacc, lb, pos⟩ := hW
    refine ⟨_, rfl, iteT ⟨fun σ H' => ∃ (c' : Nat) (L : Addr) (left' : List Int) (acc : List (List Int)) (y6 y7 y9 y10 y11 : Option V), c' < left.length ∧ σ = [some (.ref p), some (.int mir), some (.ref ev), some (.ref L), some (.ref Fo), some (.ref Pw), y6, y7, some (.ref S), y9, y10, y11] ∧ c' = left'.length ∧ L ≠ Fo ∧ H' L = some (.lst (left'.map V.int)) ∧
      LRows H' Fo acc ∧ H' ev = some (.lst ((every.map fun r => (sumN r : Int)).map V.int)) ∧ H' S = some (.lst ((T.map fun r => (sumN r : Int)).map V.int)) ∧ Same H H' ∧ acc ++ roundsL T every (left'.length + 1) left' = R ∧ acc.length + left'.length ≤ 16 ∧ (∀ x ∈ left', 0 ≤ x ∧ x < (T.length : Int)), fun σ' H' hN => ?_, ?_⟩⟩
    · obtain ⟨c', L', left', acc', u6, u7, u9, u10, u11, hlt, rest⟩ := hN
      exact ⟨c', hlt, L', left', acc', u6, u7, u9, u10, u11, rest⟩
    refine ⟨Nat.zero_le _, fun G nG => ?_⟩
    have sG := same_upd (o := .lst []) nG
    refine ⟨.ref L, rfl, L, rfl, ⟨_, SqL.of (sG _ _ hL7)⟩, ?_⟩
    refine for_list (K := K) (a := L) (xs := left.map V.int) (fun i σ H' => ∃ (y6 y7 y10 y11 : Option V), σ = [some (.ref p), some (.int mir), some (.ref ev), some (.ref L), some (.ref Fo), some (.ref Pw), y6, y7, some (.ref S), some (.ref G), y10, y11] ∧
        H' G = some (.lst (((left.take i).filter fun m => stopL T m left every).map V.int)) ∧ Same H7 H')
      ⟨z6, z7, z10, z11, rfl, upd_same, sG⟩ (fun i σ H' _ h => ?_) ?_ ?_
    · obtain ⟨_, _, _, _, _, _, s8⟩ := h
      exact SqL.of (s8 _ _ hL7)
    · rintro i x σ H8 hx ⟨y6, y7, y10, y11, rfl, hG8, s8⟩
      obtain ⟨m, hmi, rfl⟩ := int_at hx
      have mb := pos m (List.mem_of_getElem? hmi)
      have sm8 := sm7.trans s8
      obtain ⟨rs8, c, hp8, at8, hc8⟩ := at_row (hT.same sm8) mb.1 mb.2
      have gb := behL_good rule m
      have gbl := gb.len
      refine ⟨.ref p, rfl, .int m, rfl, p, _, m, _, rfl, rfl, SqT.of hp8, at8, c, rfl, ⟨_, SqT.of hc8⟩, fun D nD => ?_⟩
      have sD := same_upd (o := .lst []) nD
      obtain ⟨xs, exs⟩ : ∃ xs, xs = ((behL T m).filter fun c => decide (c ∈ left)).map fun c => (sumN (behL T c) : Int) := ⟨_, rfl⟩
      have lxs : xs.length ≤ 16 := by
        rw [exs, List.length_map]
        exact Nat.le_trans (List.length_filter_le _ _) (by omega)
      refine lc_tup (K := K) (a := c) (xs := (behL T m).map V.int) (fun j H9 => H9 D = some (.lst (((((behL T m).take j).filter fun c => decide (c ∈ left)).map fun c => (sumN (behL T c) : Int)).map V.int)) ∧ Same H8 H9) ⟨upd_same, sD⟩ (fun j H9 _ h => SqT.of (h.2 _ _ hc8)) ?_ ?_
      · rintro j x H9 hx ⟨hD9, s9⟩
        obtain ⟨y, hy, rfl⟩ := int_at hx
        have yb := gb.2 y (List.mem_of_getElem? hy)
        have tk : (behL T m).take (j + 1) = (behL T m).take j ++ [y] := by
          rw [List.take_add_one, hy]
          rfl
        have at1 : atI ((T.map fun r => (sumN r : Int)).map V.int) y = some (.int (sumN (behL T y) : Int)) := by
          have yl : y.toNat < T.length := by omega
          have z := atI_nat (xs := (T.map fun r => (sumN r : Int)).map V.int) (j := y.toNat) (v := .int (sumN T[y.toNat] : Int)) (by rw [List.getElem?_map, List.getElem?_map, List.getElem?_eq_getElem yl]; rfl)
          rw [show ((y.toNat : Nat) : Int) = y by omega] at z
          have e : behL T y = T[y.toNat] := by
            unfold behL
            rw [List.getD_eq_getElem?_getD, List.getElem?_eq_getElem yl]
            rfl
          rw [e]
          exact z
        refine ⟨rfl, .int y, rfl, .ref L, rfl, L, _, rfl, .inl (SqL.of (s9 _ _ (s8 _ _ hL7))), rfl, flat_ints left, _, rfl, ?_⟩
        show if inV (.int y) (left.map V.int) = true then _ else _
        rw [inV_int]
        refine ite2 (fun e => ?_) (fun e => ?_)
        · refine ⟨.ref S, rfl, .int y, rfl, S, _, y, _, rfl, rfl, SqL.of (s9 _ _ (s8 _ _ hS7)), at1, _, hD9, ?_, ?_, ?_⟩
          · rw [List.length_map, List.length_map]
            exact lenLine (Nat.lt_of_le_of_lt (List.length_filter_le _ _) (by rw [List.length_take]; omega))
          · rw [upd_same, tk, List.filter_append, List.map_append, List.map_append, List.filter_cons_of_pos (by simpa using e)]
            rfl
          · intro b o hb
            rw [upd_ne (ne_of_none hb nD)]
            exact s9 _ _ hb
        · refine ⟨?_, s9⟩
          rw [hD9, tk, List.filter_append, List.filter_cons_of_neg (by simpa using e), List.filter_nil, List.append_nil]
      rintro H9 ⟨hD9, s9⟩
      rw [List.length_map, List.take_length, ← exs] at hD9
      have hev9 := s9 _ _ (s8 _ _ hev7)
      refine ⟨.ref ev, rfl, ev, rfl, ⟨_, SqL.of hev9⟩, fun D2 nD2 => ?_⟩
      have sD2 := same_upd (o := .lst []) nD2
      refine lc_list (K := K) (a := ev) (xs := (every.map fun r => (sumN r : Int)).map V.int) (fun j H10 => H10 D2 = some (.lst ((((every.map fun r => (sumN r : Int)).take j).map fun z => xs.all fun s => Builtin.bitAnd s z != 0).map V.bl)) ∧ Same H9 H10) ⟨upd_same, sD2⟩ (fun j H10 _ h => SqL.of (h.2 _ _ hev9)) ?_ ?_
      · rintro j x H10 hx ⟨hD10, s10⟩
        obtain ⟨z, hz, rfl⟩ := int_at hx
        have jl := (List.getElem?_eq_some_iff.mp hz).1
        rw [List.length_map] at jl
        have hDx := s10 _ _ hD9
        refine ⟨rfl, yesI ⟨.ref D, rfl, D, rfl, ⟨_, SqL.of hDx⟩, fun D3 nD3 => ?_⟩⟩
        have sD3 := same_upd (o := .lst []) nD3
        refine lc_list (K := K) (a := D) (xs := xs.map V.int) (fun l H11 => H11 D3 = some (.lst (((xs.take l).map fun s => Builtin.bitAnd s z).map V.int)) ∧ Same H10 H11) ⟨upd_same, sD3⟩ (fun l H11 _ h => SqL.of (h.2 _ _ hDx)) ?_ ?_
        · rintro l x H11 hx ⟨hD11, s11⟩
          obtain ⟨u, hu, rfl⟩ := int_at hx
          refine ⟨rfl, yesI ⟨.int u, rfl, .int z, rfl, u, z, rfl, rfl, _, hD11, ?_, ?_, ?_⟩⟩
          · rw [List.length_map, List.length_map, List.length_take]
            exact lenLine (by omega)
          · rw [upd_same, List.take_add_one, hu, List.map_append, List.map_append]
            rfl
          · intro b o hb
            rw [upd_ne (ne_of_none hb nD3)]
            exact s11 _ _ hb
        · rintro H11 ⟨hD11, s11⟩
          rw [List.length_map, List.take_length] at hD11
          refine ⟨D3, _, rfl, SqL.of hD11, _, s11 _ _ hD10, ?_, ?_, ?_⟩
          · rw [List.length_map, List.length_map, List.length_take, List.length_map]
            exact lenLine (by omega)
          · rw [upd_same, List.take_add_one, hz, List.map_append, List.map_append, List.all_map]
            rfl
          · intro b o hb
            rw [upd_ne (ne_of_none hb nD2)]
            exact s11 _ _ (s10 _ _ hb)
      rintro H10 ⟨hD10, s10⟩
      rw [List.length_map, List.take_length] at hD10
      refine ⟨D2, _, rfl, SqL.of hD10, _, rfl, ?_⟩
      have est : (((every.map fun r => (sumN r : Int)).map fun z => xs.all fun s => Builtin.bitAnd s z != 0).any id) = stopL T m left every := by
        rw [exs, ee]
        exact sums_stop rule mir m left
      rw [est]
      have s810 := s9.trans s10
      have tkl : left.take (i + 1) = left.take i ++ [m] := by
        rw [List.take_add_one, hmi]
        rfl
      have hG10 := s810 _ _ hG8
      refine ite2 (fun e => ?_) (fun e => ?_)
      · refine ⟨.ref G, rfl, .inl ⟨rfl, _, SqL.of hG10⟩, .int m, rfl, G, _, _, rfl, rfl, hG10, ?_, _, _, _, _, rfl, ?_, ?_⟩
        · rw [List.length_map]
          exact lenLine (Nat.lt_of_le_of_lt (List.length_filter_le _ _) (by rw [List.length_take]; omega))
        · rw [upd_same, tkl, List.filter_append, List.map_append, List.filter_cons_of_pos (by simpa using e)]
          rfl
        · intro b o hb
          rw [upd_ne (ne_of_none hb nG)]
          exact s810 _ _ (s8 _ _ hb)
      · refine ⟨_, _, _, _, rfl, ?_, s8.trans s810⟩
        rw [hG10, tkl, List.filter_append, List.filter_cons_of_neg (by simpa using e), List.filter_nil, List.append_nil]
    rintro σ H8 ⟨y6, y7, y10, y11, rfl, hG8, s8⟩
    rw [List.length_map, List.take_length] at hG8
    have hD5 : H8 G = some (.lst ((goneL T every left).map V.int)) := hG8
    clear hG8
    generalize eg : goneL T every left = g at hD5
    have gsub : g.Sublist left := by
      rw [← eg]
      exact gone_sub T every left
    have gl := gsub.length_le
    refine ⟨.ref G, rfl, Nat.zero_le _, fun e0 ne0 => ?_⟩
    have se := same_upd (o := .lst []) ne0
    refine ⟨.list (g.map PyData.int), .list [], .lst (SqL.of (se _ _ hD5)) (dpInts g), .lst (SqL.of upd_same) .nil, shapedL g, shapedL [], _, rfl, ?_⟩
    rw [eqv_nil]
    have hD6 := se _ _ hD5
    have sm6 := s8.trans se
    generalize upd H8 e0 (.lst []) = H9 at hD6 sm6 ⊢
    have hF9 := hF7.same sm6
    obtain ⟨fs, hFs, hFR⟩ := hF9
    have lfs : fs.length = acc.length := Paired.length hFR
    refine ite2 (fun e => ?_) (fun e => ?_)
    · have g0 : g = [] := List.isEmpty_iff.mp e
      refine ⟨.ref Fo, rfl, Fo, _, rfl, .inl ⟨SqL.of hFs, fun o no => ?_⟩⟩
      have so := same_upd (o := .tup (fs.map V.ref)) no
      refine hq o _ (sm7.trans (sm6.trans so)) ⟨fs, upd_same, ?_⟩
      have : roundsL T every (left.length + 1) left = [] := by
        unfold roundsL
        rw [eg, if_pos g0]
      rw [this, List.append_nil] at hacc
      rw [← hacc]
      exact hFR.same so
    · have g0 : g ≠ [] := fun z => e (List.isEmpty_iff.mpr z)
      refine ⟨.ref Fo, rfl, .inl ⟨rfl, _, SqL.of hFs⟩, .ref G, rfl, G, _, rfl, .inl ⟨SqL.of hD6, fun o no => ?_⟩⟩
      have so := same_upd (o := .tup (g.map V.int)) no
      have hFs7 := so _ _ hFs
      have hnew : upd H9 o (.tup (g.map V.int)) o = some (.tup (g.map V.int)) := upd_same
      refine ⟨Fo, _, .ref o, rfl, rfl, hFs7, by rw [List.length_map]; exact lenLine (by omega), ?_⟩
      have nGF : G ≠ Fo := fun z => by
        obtain ⟨_, y, _⟩ := hF7
        rw [z, y] at nG
        cases nG
      have kt : KT (upd H9 o (.tup (g.map V.int))) (upd (upd H9 o (.tup (g.map V.int))) Fo (.lst (fs.map V.ref ++ [.ref o]))) := KT.lst hFs7
      have hF8 : LRows (upd (upd H9 o (.tup (g.map V.int))) Fo (.lst (fs.map V.ref ++ [.ref o]))) Fo (acc ++ [g]) := by
        refine ⟨fs ++ [o], ?_, Rows.kt (paired_append (hFR.same so) (.cons hnew .nil)) kt⟩
        rw [upd_same, List.map_append]
        rfl
      have keep : ∀ (b : Addr) (ob : HO), b ≠ Fo → H7 b = some ob → upd (upd H9 o (.tup (g.map V.int))) Fo (.lst (fs.map V.ref ++ [.ref o])) b = some ob := fun b ob nb hb => by
        rw [upd_ne nb]
        exact so _ _ (sm6 _ _ hb)
      have hG8 : upd (upd H9 o (.tup (g.map V.int))) Fo (.lst (fs.map V.ref ++ [.ref o])) G = some (.lst (g.map V.int)) := by
        rw [upd_ne nGF]
        exact so _ _ hD6
      have hL8 := keep L _ nLF7 hL7
      have hev8 := keep ev _ nFe hev7
      have hS8 := keep S _ nSF hS7
      have sm8 : Same H (upd (upd H9 o (.tup (g.map V.int))) Fo (.lst (fs.map V.ref ++ [.ref o]))) := fun b ob hb => keep b ob (ne_of_none hb nF1) (sm7 _ _ hb)
      generalize upd (upd H9 o (.tup (g.map V.int))) Fo (.lst (fs.map V.ref ++ [.ref o])) = H10 at hF8 hG8 hL8 hev8 hS8 sm8 ⊢
      refine ⟨.ref L, rfl, L, rfl, ⟨_, SqL.of hL8⟩, fun D2 nD2 => ?_⟩
      have sD2 := same_upd (o := .lst []) nD2
      have nD2F : D2 ≠ Fo := fun z => by
        obtain ⟨_, y, _⟩ := hF8
        rw [z, y] at nD2
        cases nD2
      refine lc_list (K := K) (a := L) (xs := left.map V.int) (fun j H11 => H11 D2 = some (.lst ((stayL (left.take j) g).map V.int)) ∧ Same H10 H11) ⟨upd_same, sD2⟩ (fun j H11 _ h => SqL.of (h.2 _ _ hL8)) ?_ ?_
      · rintro j x H11 hx ⟨hD11, sm11⟩
        obtain ⟨y, hy, rfl⟩ := int_at hx
        have tk : left.take (j + 1) = left.take j ++ [y] := by
          rw [List.take_add_one, hy]
          rfl
        refine ⟨rfl, .int y, rfl, .ref G, rfl, G, _, rfl, .inl (SqL.of (sm11 _ _ hG8)), rfl, flat_ints g, _, rfl, ?_⟩
        show if (if true = true then !inV (.int y) (g.map V.int) else inV (.int y) (g.map V.int)) = true then _ else _
        rw [if_pos rfl, inV_int]
        refine ite2 (fun e => ?_) (fun e => ?_)
        · have ne : y ∉ g := by simpa using e
          refine ⟨_, rfl, _, hD11, ?_, ?_, ?_⟩
          · rw [List.length_map]
            exact lenLine (Nat.lt_of_le_of_lt (List.length_filter_le _ _) (by rw [List.length_take]; omega))
          · unfold stayL
            rw [upd_same, tk, List.filter_append, List.map_append]
            simp [ne]
          · intro b ob hb
            rw [upd_ne (ne_of_none hb nD2)]
            exact sm11 _ _ hb
        · have ne : y ∈ g := by simpa using e
          refine ⟨?_, sm11⟩
          unfold stayL at hD11 ⊢
          rw [hD11, tk, List.filter_append]
          simp [ne]
      · rintro H11 ⟨hD11, sm11⟩
        rw [List.length_map, List.take_length] at hD11
        have lt := stay_lt gsub g0
        refine ⟨_, D2, stayL left g, acc ++ [g], _, _, _, _, _, lt, rfl, rfl, nD2F, hD11, hF8.same sm11, sm11 _ _ hev8, sm11 _ _ hS8, sm8.trans sm11, ?_, ?_, fun x hx => pos x (List.mem_filter.mp hx).1⟩
        · rw [← hacc, List.append_assoc]
          have : roundsL T every (left.length + 1) left = g :: roundsL T every left.length (stayL left g) := by
            rw [roundsL, eg, if_neg g0]
          rw [this, rounds_fuel T every left.length _ lt]
          rfl
        · have := List.length_pos_iff.mpr g0
          rw [List.length_append]
          simp
          omega
end
end Nm

namespace Nm
open PySem PySem.Spec PyProof.Rows L2 GL LamX NdefX StX
/-! ### k13 -/
/-! sRowsR -/
/-! sRight13 -/
/-! sLaw13 -/
abbrev nRowsR : List Str := ["_law_rule", "_law_mirrors", "_law_rows", "_law_seen", "_law_mark", "_law_some", "_law_one"]
abbrev nRight13 : List Str := ["_law_rule", "_law_mirrors", "_law_gone", "_law_told", "_law_kept", "_law_left", "_law_mark"]
section
variable {P : Program} {w : World} {K : PySem.W.Frag} {mg : Str → Option Value} {base : Heap}
def spIsMarks (K : PySem.W.Frag) : Sp := fun vs H Q _ => ∃ (a : Addr) (T : List (List Int)) (v : V) (d : PyData) (n : Nat), vs = [.ref a, v] ∧ Tbl H a T ∧ Dp K H v d ∧ Fit n d ∧ ∀ H', Same H H' → Q (.bl (ascD T.length d)) H'
/-- what the law's look at marks leans on -/
structure Mks (mg : Str → Option Value) : Prop where
  J : LibJ mg
  list : mg "list" = none
  set : mg "set" = none
  sorted : mg "sorted" = none
set_option maxHeartbeats 4000000 in
theorem ok_ismarks {f : Addr} {fd : FuncData} {k : Nat} (F : Fun K "_law_is_marks" "_law_is_marks" sIsMarks f fd) (C : Mks mg) : FnOk P w K mg base CX0 (k + 1) f fd ["_law_rule", "_law_value"] (spIsMarks K) := by
  obtain ⟨B, mlist, mset, msort⟩ := C
  refine F.ok scIsMarks (fun vs H Q E h => ?_) (fun cdv A outer s H vs Q E hr h => ?_)
  · obtain ⟨a, T, v, d, n, rfl, _⟩ := h
    rfl
  · obtain ⟨a, T, v, d, n, rfl, hT, hd, fit, q⟩ := h
    refine ⟨_, pss_cons (ps_if (pt_not (pt_val (pe_callB (isiK (K := K)) (by rfl) B.isi (by decide +kernel) (pa_cons (pv 1) (pa_cons (pe_bltn (v := .ty "tuple") (by rfl) B.tuple (by decide +kernel) rfl) pa_nil))))) (pss_one (ps_ret pe_bl)) pss_nil)
      (pss_cons (ps_for PassesOwn.never rfl (piTupK (K := K) (pv 1)) (pg_name (i := 2) scIsMarks.nd rfl (.inl rfl))
        (pss_one (ps_if (PW.pt (pw_or (pt_not (pt_val (pe_callB (isiK (K := K)) (by rfl) B.isi (by decide +kernel) (pa_cons (pv 2) (pa_cons (pe_bltn (v := .ty "int") (by rfl) B.int (by decide +kernel) rfl) pa_nil)))))
            (pw_or (pt_val (pe_callB (isiK (K := K)) (by rfl) B.isi (by decide +kernel) (pa_cons (pv 2) (pa_cons (pe_bltn (v := .ty "bool") (by rfl) B.bool (by decide +kernel) rfl) pa_nil))))
            (pw_or1 (pt_not (pt_chain op_le op_lt pe_int (pv 2) (pe_callB (lenK (K := K)) (by rfl) B.len PySem.boot_len (pa_cons (pv 0) pa_nil))))))))
          (pss_one (ps_ret pe_bl)) pss_nil)))
      (pss_one (ps_ret (pe_cmpR (op_eqD hr.units) (pe_callTy (lstOfK (K := K)) (by rfl) mlist (by decide +kernel) (pa_cons (pv 1) pa_nil))
          (pe_callB (cr_sortedSet rfl) (by rfl) msort (by decide +kernel) (pa_cons (pe_callTy (setTI (K := K) rfl) (by rfl) mset (by decide +kernel) (pa_cons (pv 1) pa_nil)) pa_nil)) (nomark _))))), ?_⟩
    refine ⟨v, rfl, _, _, _, _, isT d, rfl, .ty "tuple", tyD hd, kit_ty (kitT d), _, rfl, ?_⟩
    cases d with
    | bool b => exact iteT (q H (Same.refl _))
    | int i => exact iteT (q H (Same.refl _))
    | none => exact iteT (q H (Same.refl _))
    | str x => exact iteT (q H (Same.refl _))
    | list x => exact iteT (q H (Same.refl _))
    | dict x => cases hd
    | tuple ds =>
    refine iteF ?_
    cases hd with
    | @tup b xs _ hs hall =>
    have lx := DpAll.len hall
    obtain ⟨fl, n', rfl, fits⟩ := fit_two fit
    have hT0 := hT
    obtain ⟨rs, ha, hR⟩ := hT0
    have lm : (rs.map V.ref).length = T.length := by rw [List.length_map]; exact Paired.length hR
    refine ⟨.ref b, rfl, b, rfl, ⟨_, hs⟩, for_it (walk_tup (K := K) (a := b) (xs := xs)) (fun i σ H' => ∃ (y2 : Option V), σ = [some (.ref a), some (.ref b), y2] ∧ H' = H ∧ (ds.take i).all (belowD T.length) = true) ⟨none, rfl, rfl, by simp⟩ (fun i σ H' _ h => ?_) ?_ ?_⟩
    · obtain ⟨_, _, rfl, _⟩ := h
      exact hs
    · rintro i x σ H1 H2 hi ⟨y2, rfl, rfl, al⟩ ⟨rfl, hx⟩
      obtain ⟨r, hri, dp⟩ := DpAll.at hall hx
      have no : belowD T.length r = false → Q (.bl false) H2 := fun e => by
        have z := q H2 (Same.refl _)
        have z2 : ascD T.length (.tuple ds) = false := by
          simp only [ascD, all_no hri e, Bool.false_and]
        rw [z2] at z
        exact z
      refine ⟨x, rfl, _, _, _, _, isI r, rfl, .ty "int", tyD dp, kit_ty (kitI r), _, rfl, ?_⟩
      cases r with
      | none => exact iteT (no rfl)
      | str x => exact iteT (no rfl)
      | list x => exact iteT (no rfl)
      | tuple x => exact iteT (no rfl)
      | dict x => cases dp
      | bool b => exact iteF ⟨x, rfl, _, _, _, _, true, rfl, .ty "bool", tyD dp, kit_ty (kitBo _), _, rfl, iteT (no rfl)⟩
      | int m =>
        refine iteF ⟨x, rfl, _, _, _, _, false, rfl, .ty "bool", tyD dp, kit_ty (kitBo _), _, rfl, iteF ?_⟩
        cases dp
        refine ⟨.int m, rfl, 0, m, rfl, rfl, _, rfl, ?_⟩
        by_cases h0 : 0 ≤ m
        · rw [decide_eq_true h0]
          refine iteT ⟨.ref a, rfl, a, _, rfl, .inr (SqT.of ha), m, _, rfl, rfl, _, rfl, ?_⟩
          rw [lm]
          by_cases h1 : m < (T.length : Int)
          · rw [decide_eq_true h1]
            refine iteF ⟨_, rfl, rfl, ?_⟩
            rw [List.take_add_one, hri, List.all_append, al]
            simp [belowD, h0, h1]
          · rw [decide_eq_false h1]
            exact iteT (no (by simp [belowD, h1]))
        · rw [decide_eq_false h0]
          exact iteF ⟨_, rfl, iteT (no (by simp [belowD, h0]))⟩
    · rintro σ H1 ⟨y2, rfl, rfl, al⟩
      rw [lx, List.take_length] at al
      have ex := dp_ints hall al
      obtain ⟨ns, ens⟩ : ∃ ns, ns = ds.map toI := ⟨_, rfl⟩
      rw [← ens] at ex
      have ln : ns.length = ds.length := by rw [ens, List.length_map]
      subst ex
      refine ⟨.ref b, rfl, b, _, rfl, .inr hs, fun L nL => ?_⟩
      have sL := same_upd (o := .lst (ns.map V.int)) nL
      refine ⟨.ref b, rfl, b, ns, rfl, Nm.Same.seqT sL hs, by omega, fun S k nS hk => ?_⟩
      have sS := same_upd (H := upd H1 L (.lst (ns.map V.int))) (o := SetO w S (fun j => decide (j ∈ ns)) k) nS
      refine ⟨S, _, k, rfl, upd_same, by omega, fun ms g srt mem _ ng => ?_⟩
      have sg := same_upd (H := upd (upd H1 L (.lst (ns.map V.int))) S (SetO w S (fun j => decide (j ∈ ns)) k)) (o := .lst (ms.map V.int)) ng
      have hL := sg _ _ (sS _ _ (upd_same (H := H1) (a := L) (o := .lst (ns.map V.int))))
      refine ⟨.list (ns.map PyData.int), .list (ms.map PyData.int), .lst (SqL.of hL) (dpInts ns), .lst (SqL.of upd_same) (dpInts ms), shapedL ns, shapedL ms, ?_⟩
      have z := q _ (sL.trans (sS.trans sg))
      have ea : ascD T.length (.tuple ds) = decide (ns.Pairwise (· < ·)) := by
        simp only [ascD, al, Bool.true_and, ens]
      rw [ea] at z
      rw [eqvL, same_asc srt mem]
      exact z
theorem rows_all {T : List (List Int)} {mir : Nat} {rows : List (Int × List Int)} (h : FailRows T mir rows) : (rows.map rowE).all (isRowD T mir) = true := by
  have z := fail_true h
  simp only [failD, Bool.and_eq_true] at z
  exact z.1
theorem fit_row {n : Nat} {ys : List Int} (g : Good n ys) (n16 : n ≤ 16) : ∀ k, Fit (k + 1) (rowD ys) := fun k => by
  have l := g.len
  show (ys.map PyData.int).length ≤ 40 ∧ ∀ x ∈ ys.map PyData.int, Fit k x
  refine ⟨by rw [List.length_map]; omega, fun x hx => ?_⟩
  obtain ⟨y, hy, rfl⟩ := List.mem_map.mp hx
  have := g.2 y hy
  cases k <;> exact ⟨by omega, by omega⟩
def spRowsR (K : PySem.W.Frag) : Sp := fun vs H Q _ => ∃ (a : Addr) (mir : Nat) (v : V) (T : List (List Int)) (rows : List (Int × List Int)), vs = [.ref a, .int mir, v] ∧ Tbl H a T ∧ IsRule T ∧ mir ≤ 3 ∧ Dp K H v (.tuple (rows.map rowE)) ∧ FailRows T mir rows ∧ ∀ H', Same H H' → Q (.bl true) H'
end
end Nm

namespace Nm
open PySem PySem.Spec PyProof.Rows L2 GL LamX NdefX StX
section
variable {P : Program} {w : World} {K : PySem.W.Frag} {mg : Str → Option Value} {base : Heap}
def spRight11 (TT : Tbs) : Sp := fun vs H Q _ => ∃ (a : Addr) (mir : Nat) (T : List (List Int)), vs = [.ref a, .int mir] ∧ Tbl H a T ∧ IsRule T ∧ 1 ≤ mir ∧ mir ≤ 3 ∧ Tabs TT H ∧ ∀ H', Ex TT H H' → Q (.bl true) H'
def spLaw11 (K : PySem.W.Frag) (TT : Tbs) : Sp := fun vs H Q _ => ∃ (a : Addr) (ns : List Int), vs = [.ref a] ∧ Tabs TT H ∧ SqL K H a (ns.map V.int) ∧ ns.length ≤ 63 ∧ ∀ H', Q (.bl true) H'
end
end Nm

namespace Nm
open PySem PySem.Spec PyProof.Rows L2 GL LamX NdefX StX
/-! ### k15: the round of a mark -/
abbrev sRnd15 : Stmt := topS 37
abbrev nRnd15 : List Str := ["_law_gone", "_law_mark", "_law_number", "_law_some"]
theorem scRnd15 : FnScope nRnd15 ["_law_gone", "_law_mark"] (defScope sRnd15) := ⟨rfl, rfl, rfl, by decide +kernel, rfl, by decide +kernel, by decide +kernel⟩
theorem nums_none {R : List (List Int)} {y : Int} : ∀ {j : Nat}, (∀ (i : Nat) (row : List Int), i < j → R[i]? = some row → y ∉ row) → numsL R y j = []
  | 0, _ => rfl
  | j + 1, h => by
    have ih := nums_none (j := j) fun i row hi => h i row (by omega)
    unfold numsL at ih ⊢
    rw [List.range_succ, List.filter_append, List.map_append, ih, List.nil_append, List.filter_cons_of_neg]
    · rfl
    · intro z
      have z := of_decide_eq_true z
      rw [List.getD_eq_getElem?_getD] at z
      cases e : R[j]? with
      | none =>
        rw [e] at z
        cases z
      | some row =>
        rw [e] at z
        exact h j row (by omega) e z
theorem left_at {R : List (List Int)} {i : Nat} {row : List Int} {y : Int} (nd : R.flatten.Nodup) (hi : R[i]? = some row) (hy : y ∈ row) : leftL R y = some (i : Int) := by
  have ilt : i < R.length := (List.getElem?_eq_some_iff.mp hi).1
  have h1 : numsL R y i = [] := nums_none fun i' row' lt h hy' => by
    have := flat_unique nd h hi hy' hy
    omega
  unfold leftL
  have ext : ∀ k, numsL R y (i + 1 + k) = [(i : Int)] ++ ((((List.range' (i + 1) k).filter fun j => decide (y ∈ R.getD j []))).map fun (j : Nat) => (j : Int)) := by
    intro k
    unfold numsL at h1 ⊢
    rw [List.range_eq_range', ← List.range'_append_1, Nat.zero_add, List.filter_append, List.map_append]
    congr 1
    rw [← List.range_eq_range', List.range_succ, List.filter_append, List.map_append, h1, List.nil_append, List.filter_cons_of_pos]
    · rfl
    · rw [List.getD_eq_getElem?_getD, hi]
      exact decide_eq_true hy
  obtain ⟨k, ek⟩ : ∃ k, R.length = i + 1 + k := ⟨R.length - (i + 1), by omega⟩
  rw [ek, ext k]
  rfl
section
variable {P : Program} {w : World} {K : PySem.W.Frag} {mg : Str → Option Value} {base : Heap}
def spRnd15 (K : PySem.W.Frag) : Sp := fun vs H Q _ => ∃ (g : Addr) (R : List (List Int)) (y : Int) (i : Nat) (row : List Int), vs = [.ref g, .int y] ∧ Tbl H g R ∧ R.length ≤ 16 ∧ R.flatten.Nodup ∧ R[i]? = some row ∧ y ∈ row ∧ ∀ H', Same H H' → Q (.int i) H'
set_option maxHeartbeats 2000000 in
theorem ok_rnd15 {f : Addr} {fd : FuncData} {k : Nat} (F : Fun K "_law_round" "_law_round" sRnd15 f fd) (menum : mg "enumerate" = none) : FnOk P w K mg base CX0 (k + 1) f fd ["_law_gone", "_law_mark"] (spRnd15 K) := by
  refine F.ok scRnd15 (fun vs H Q E h => ?_) (fun cdv A outer s H vs Q E hr h => ?_)
  · obtain ⟨g, R, y, i, row, rfl, _⟩ := h
    rfl
  · obtain ⟨g, R, y, i, row0, rfl, hG, l16, nd, hi, hy, q⟩ := h
    refine ⟨_, pss_one (ps_ret (pe_ix (ixLstK (K := K))
      (pe_lc (own := [("_law_number", 2), ("_law_some", 3)]) (g := gTup K 2 (gCons (gName 2) (gCons (gName 3) gNil))) (by rfl) scRnd15.nd (pi_enumT (K := K) (by rfl) menum (pa_cons (pv 0) pa_nil))
        (blkOk_by (own := [("_law_number", 2), ("_law_some", 3)]) (N := nRnd15) (sc := defScope sRnd15) (by decide +kernel))
        (fun _ _ _ _ _ => pgTupK rfl (pgs_cons (pg_name (i := 2) scRnd15.nd rfl (.inl rfl)) (pgs_cons (pg_name (i := 3) scRnd15.nd rfl (.inl rfl)) pgs_nil)))
        (fun _ _ _ _ _ => pts_one (pt_cmpR (inK (K := K)) (pv 1) (pv 3) (by rfl)))
        (fun _ _ _ _ _ => pv 2)) pe_int (fun _ _ => rfl))), ?_⟩
    obtain ⟨rs, hg, hR⟩ := id hG
    have lrs : rs.length = R.length := Paired.length hR
    refine ⟨.ref g, rfl, g, _, rfl, SqT.of hg, fun D nD => ?_⟩
    have sD := same_upd (o := .lst []) nD
    refine lc_it (walkET (K := K) (a := g) (xs := rs.map V.ref)) (fun j H1 => H1 D = some (.lst ((numsL R y j).map V.int)) ∧ Same H H1) ⟨upd_same, sD⟩ (fun j H1 _ h => SqT.of (h.2 _ _ hg)) ?_ ?_
    · rintro j x H1 H2 hj ⟨hD, s1⟩ ⟨Tp, u, v, rfl, nTp, rfl, eu, ev⟩
      obtain rfl : V.int (j : Nat) = u := Option.some.inj eu
      obtain ⟨c, hc, rfl⟩ := ref_at ev
      obtain ⟨row, hrow, hcell⟩ := paired_get hR hc
      have sT := same_upd (o := .tup [.int (j : Nat), .ref c]) nTp
      have jlt : j < R.length := (List.getElem?_eq_some_iff.mp hrow).1
      have gj : R.getD j [] = row := by
        rw [List.getD_eq_getElem?_getD, hrow]
        rfl
      have nx : numsL R y (j + 1) = numsL R y j ++ (if decide (y ∈ row) = true then [(j : Int)] else []) := by
        unfold numsL
        rw [List.range_succ, List.filter_append, List.map_append]
        congr 1
        by_cases z : y ∈ row
        · rw [if_pos (decide_eq_true z), List.filter_cons_of_pos (by rw [gj]; exact decide_eq_true z)]
          rfl
        · rw [if_neg (by rw [decide_eq_false z]; decide), List.filter_cons_of_neg (by rw [gj]; exact fun y => z (of_decide_eq_true y))]
          rfl
      have hD2 := sT _ _ hD
      refine ⟨Tp, _, rfl, SqT.of upd_same, rfl, _, _, rfl, _, _, rfl, rfl, rfl, ?_⟩
      refine ⟨.int y, rfl, .ref c, rfl, c, _, rfl, .inr (SqT.of (sT _ _ (s1 _ _ hcell))), rfl, flat_ints row, _, rfl, ?_⟩
      show if inV (.int y) (row.map V.int) = true then _ else _
      rw [inV_int]
      refine ite2 (fun z => ?_) (fun z => ?_)
      · refine ⟨_, rfl, _, hD2, ?_, ?_, ?_⟩
        · rw [List.length_map]
          exact lenLine (Nat.lt_of_le_of_lt numsL_bd.1 (by omega))
        · rw [upd_same, nx, if_pos z, List.map_append]
          rfl
        · intro b o hb
          rw [upd_ne (ne_of_none hb nD)]
          exact sT _ _ (s1 _ _ hb)
      · refine ⟨?_, s1.trans sT⟩
        rw [hD2, nx, if_neg z, List.append_nil]
    · rintro H1 ⟨hD, s1⟩
      rw [List.length_map, lrs] at hD
      have hl := left_at nd hi hy
      unfold leftL at hl
      refine ⟨D, _, 0, .int i, rfl, rfl, SqL.of hD, ?_, q H1 s1⟩
      cases e : numsL R y R.length with
      | nil =>
        rw [e] at hl
        cases hl
      | cons x r =>
        rw [e] at hl
        cases Option.some.inj hl
        exact atI_nat (j := 0) rfl
end
end Nm

namespace Nm
open PySem PySem.Spec PyProof.Rows L2 GL LamX NdefX StX
/-! ### k15: one step of an attacker -/
abbrev sStep15 : Stmt := topS 38
abbrev nStep15 : List Str := ["_law_pot_here", "_law_rule", "_law_mirrors", "_law_gone", "_law_attacker", "_law_mark", "_law_some", "_law_free", "_law_earlier", "_law_one"]
theorem scStep15 : FnScope nStep15 ["_law_pot_here", "_law_rule", "_law_mirrors", "_law_gone", "_law_attacker"] (defScope sStep15) := ⟨rfl, rfl, rfl, by decide +kernel, rfl, by decide +kernel, by decide +kernel⟩
theorem cutV_to (xs : List V) (k : Nat) : cutV xs none (some (k : Int)) = xs.take k := by
  unfold cutV
  rw [HT.sIx_none, HT.sIx_nat, List.drop_zero, Nat.sub_zero]
  by_cases h : k ≤ xs.length
  · rw [Nat.min_eq_left h]
  · rw [Nat.min_eq_right (by omega), List.take_of_length_le (Nat.le_refl _), List.take_of_length_le (by omega)]
/-- all but two objects stays -/
structure K2 (TT : Tbs) (p q : Addr) (H H' : Hp) : Prop where
  at' : ∀ b o, b ≠ p → b ≠ q → H b = some o → [NT o] → H' b = some o
  tb : Tabs TT H → Tabs TT H'
section
variable {TT : Tbs} {p q : Addr} {H H1 H2 : Hp}
theorem K2.of (s : Ex TT H H1) : K2 TT p q H H1 := ⟨fun b o _ _ h => s b o h, s.tb⟩
theorem K2.left (s : KX TT p H H1) : K2 TT p q H H1 := ⟨fun b o n _ h => s b o n h, s.tb⟩
theorem K2.right (s : KX TT q H H1) : K2 TT p q H H1 := ⟨fun b o _ n h => s b o n h, s.tb⟩
theorem K2.trans (s : K2 TT p q H H1) (t : K2 TT p q H1 H2) : K2 TT p q H H2 := ⟨fun b o n1 n2 h => t.at' b o n1 n2 (s.at' b o n1 n2 h), fun z => t.tb (s.tb z)⟩
end
/-- an attacker's own things, and their rule, untouched -/
theorem AttAt.kx {TT : Tbs} {C : Addr} {H H' : Hp} {T : List (List Int)} {mir n : Nat} {p q a d : Addr} {m : Int} (h : AttAt C H T mir q a d m) (k : KX TT p H H') (hp : Pot H p n) : AttAt C H' T mir q a d m := by
  obtain ⟨xs, hl⟩ := pot_lst hp
  obtain ⟨⟨dx, h1⟩, ⟨kvs, h2, h3⟩, rs, h4, h5⟩ := h
  have kt : KT H H' := fun b ys e => k _ _ (ne_of e hl (by intro z; cases z)) e
  exact ⟨⟨dx, k _ _ (ne_of h1 hl (by intro z; cases z)) h1⟩, ⟨kvs, k _ _ (ne_of h2 hl (by intro z; cases z)) h2, fun i row y e1 e2 => (h3 i row y e1 e2).kt kt⟩, rs, kt _ _ h4, Rows.kt h5 kt⟩
theorem Lies.kx {TT : Tbs} {H H' : Hp} {n : Nat} {p d c : Addr} {m : Int} {ys : List Int} (h : Lies H d m c ys) (k : KX TT p H H') (hp : Pot H p n) : Lies H' d m c ys := by
  obtain ⟨xs, hl⟩ := pot_lst hp
  obtain ⟨kvs, h1, h2, h3⟩ := h
  exact ⟨kvs, k _ _ (ne_of h1 hl (by intro z; cases z)) h1, h2, k _ _ (ne_of h3 hl (by intro z; cases z)) h3⟩
section
variable {P : Program} {w : World} {K : PySem.W.Frag} {mg : Str → Option Value} {base : Heap}
/-! fit, its list a new one -/
def spFit2N (K : PySem.W.Frag) : Sp := fun vs H Q _ => ∃ (p l : Addr) (m : Int) (T : List (List Int)) (ss : List Int), vs = [.ref p, .int m, .ref l] ∧ 0 ≤ m ∧ Tbl H p T ∧ IsRule T ∧ Sq K H l (ss.map V.int) ∧
  ∀ (c : Addr) (H' : Hp), H c = none → Same H H' → H' c = some (.lst ((fitL T m ss).map V.int)) → Q (.ref c) H'
set_option maxHeartbeats 2000000 in
theorem ok_fit2N {f fB : Addr} {fd dB : FuncData} {k : Nat} (F : Fun K "_law_fit" "_law_fit" sFit2 f fd) (FB : Fun K "_law_behind" "_law_behind" sBehind2 fB dB) (bB : Binds K dB ["_law_rule", "_law_mark"] []) (gB : mg "_law_behind" = some (.ref fB)) (ml : mg "len" = none) (ma : mg "any" = none) :
    FnOk P w K mg base CX0 (k + 2) f fd ["_law_rule", "_law_mark", "_law_some"] (spFit2N K) := by
  have GB : FnOk P w K mg base CX0 (k + 1) fB dB ["_law_rule", "_law_mark"] (spBehind2 K) := ok_behind2 FB ml
  refine F.ok scFit2 (fun vs H Q E h => ?_) (fun cdv A outer s H vs Q E hr h => ?_)
  · obtain ⟨p, l, m, T, ss, rfl, _⟩ := h
    rfl
  · obtain ⟨p, l, m, T, ss, rfl, m0, hT, rule, hS, q⟩ := h
    refine ⟨_, pss_cons (ps_set (i := 3) scFit2.nd rfl (.inl rfl) (pe_lst pa_nil))
      (pss_cons (ps_for PassesOwn.never rfl (piTupK (K := K) (pe_call GB hr (by rfl) gB FB.kp bB .nil pass0 (pa_cons (pv 0) (pa_cons (pv 1) pa_nil)))) (pg_name (i := 4) scFit2.nd rfl (.inl rfl))
        (pss_one (ps_if (pt_not (pt_val (pe_callB (any2K (K := K) rfl) (by rfl) ma (by decide +kernel) (pa_cons
            (pe_lc (own := [("_law_other", 5)]) (g := gName 5) (by rfl) scFit2.nd (piTupK (K := K) (pe_call GB hr (by rfl) gB FB.kp bB .nil pass0 (pa_cons (pv 0) (pa_cons (pv 4) pa_nil))))
              (blkOk_by (own := [("_law_other", 5)]) (N := nFit2) (sc := defScope sFit2) (by decide +kernel))
              (fun _ _ _ _ _ => pg_name (i := 5) scFit2.nd rfl (Or.inl rfl)) (fun _ _ _ _ _ => pts_nil)
              (fun _ _ _ _ _ => pe_cmpR (inK (K := K)) (pv 5) (pv 2) (by rfl))) pa_nil))))
          (pss_one (ps_expr (pe_bm PySem.F.plainAttrs_list PySem.F.slot_list_append PySem.F.type_list_append mt_append (pv 3) (pa_cons (pv 4) pa_nil)))) pss_nil)))
      (pss_one (ps_ret (pv 3)))), ?_⟩
    refine ⟨Nat.zero_le _, fun L nL => ?_⟩
    have sL := same_upd (o := .lst []) nL
    refine ⟨.ref p, rfl, .int m, rfl, p, m, T, rfl, m0, hT.same sL, fun c H1 s1 hc => ⟨c, rfl, ⟨_, SqT.of hc⟩, ?_⟩⟩
    have gd := behL_good rule m
    have gl := gd.len
    have n16 := rule.2.1
    refine for_tup (K := K) (a := c) (xs := (behL T m).map V.int) (fun i σ H' => ∃ (y4 y5 : Option V), σ = [some (.ref p), some (.int m), some (.ref l), some (.ref L), y4, y5] ∧
        H' L = some (.lst ((((behL T m).take i).filter fun x => !hitL (behL T x) ss).map V.int)) ∧ H' c = some (.tup ((behL T m).map V.int)) ∧ Same H H')
      ⟨none, none, rfl, s1 _ _ upd_same, hc, sL.trans s1⟩ (fun i σ H' _ h => ?_) ?_ ?_
    · obtain ⟨_, _, _, _, hc', _⟩ := h
      exact SqT.of hc'
    · rintro i x σ H2 hx ⟨y4, y5, rfl, hL2, hc2, sm2⟩
      obtain ⟨y, hy, rfl⟩ := int_at hx
      have yb := gd.2 y (List.mem_of_getElem? hy)
      have tk : (behL T m).take (i + 1) = (behL T m).take i ++ [y] := by
        rw [List.take_add_one, hy]
        rfl
      refine ⟨.ref p, rfl, .int y, rfl, p, y, T, rfl, yb.1, hT.same sm2, fun c2 H3 s3 hc3 => ⟨c2, rfl, ⟨_, SqT.of hc3⟩, fun D nD => ?_⟩⟩
      have gy := (behL_good rule y).len
      have sD := same_upd (o := .lst []) nD
      have nLD : L ≠ D := fun z => by
        rw [← z, s3 _ _ hL2] at nD
        cases nD
      refine lc_tup (K := K) (a := c2) (xs := (behL T y).map V.int) (fun j H4 => H4 D = some (.lst ((((behL T y).take j).map fun x => decide (x ∈ ss)).map V.bl)) ∧ Same H3 H4) ⟨upd_same, sD⟩ (fun j H4 _ h => SqT.of (h.2 _ _ hc3)) ?_ ?_
      · rintro j x H4 hx ⟨hD, sm4⟩
        obtain ⟨z, hz, rfl⟩ := int_at hx
        have tz : (behL T y).take (j + 1) = (behL T y).take j ++ [z] := by
          rw [List.take_add_one, hz]
          rfl
        refine ⟨rfl, yesI ⟨.int z, rfl, .ref l, rfl, l, _, rfl, hS.same (sm2.trans (s3.trans sm4)), rfl, flat_ints ss, _, hD, ?_, ?_, ?_⟩⟩
        · rw [List.length_map, List.length_map, List.length_take]
          exact lenLine (by omega)
        · rw [upd_same, tz, List.map_append, List.map_append, if_neg (by decide), inV_int]
          rfl
        · intro b o hb
          rw [upd_ne (ne_of_none hb nD)]
          exact sm4 _ _ hb
      · rintro H4 ⟨hD, sm4⟩
        rw [List.length_map, List.take_length] at hD
        refine ⟨D, _, rfl, SqL.of hD, _, rfl, ?_⟩
        rw [hit_any]
        have s24 := s3.trans sm4
        refine ite2 (fun e => ?_) (fun e => ?_)
        · refine ⟨.ref L, rfl, .inl ⟨rfl, _, SqL.of (s24 _ _ hL2)⟩, .int y, rfl, L, _, _, rfl, rfl, s24 _ _ hL2, ?_, _, _, rfl, ?_, ?_, ?_⟩
          · rw [List.length_map]
            exact lenLine (Nat.lt_of_le_of_lt (List.length_filter_le _ _) (by rw [List.length_take]; omega))
          · rw [upd_same, tk, List.filter_append, List.map_append]
            simp [e]
          · rw [upd_ne (fun z => by
              rw [z, hL2] at hc2
              cases hc2)]
            exact s24 _ _ hc2
          · intro b o hb
            rw [upd_ne (ne_of_none hb nL)]
            exact (sm2.trans s24) _ _ hb
        · refine ⟨_, _, rfl, ?_, s24 _ _ hc2, sm2.trans s24⟩
          rw [s24 _ _ hL2, tk, List.filter_append]
          simp at e
          simp [e]
    · rintro σ H2 ⟨y4, y5, rfl, hL2, hc2, sm2⟩
      rw [List.length_map, List.take_length] at hL2
      exact ⟨.ref L, rfl, q L H2 nL sm2 hL2⟩
/-- what the steps lean on -/
structure Stp (P : Program) (w : World) (K : PySem.W.Frag) (mg : Str → Option Value) (base : Heap) (C : Addr) (TT : Tbs) (k : Nat) : Prop where
  A : AttT K mg C
  J : LibJ mg
  repr : mg "repr" = none
  mark : ∃ (f : Addr) (fd : FuncData), Binds K fd ["self"] [] ∧ Meth K C "mark" f ∧ FnOk P w K mg base CX0 (k + 5) f fd ["self"] (spAMark C)
  lying : ∃ (f : Addr) (fd : FuncData), Binds K fd ["self"] [] ∧ Meth K C "lying" f ∧ FnOk P w K mg base CX0 (k + 5) f fd ["self"] (spALying C)
  stop : ∃ (f : Addr) (fd : FuncData), Binds K fd ["self"] [] ∧ Meth K C "is_stopped" f ∧ FnOk P w K mg base CX0 (k + 5) f fd ["self"] (spAStop C)
  wrote : ∃ (f : Addr) (fd : FuncData), Binds K fd ["self", "value"] [] ∧ Meth K C "wrote" f ∧ FnOk P w K mg base CX0 (k + 5) f fd ["self", "value"] (spAWrote C TT)
  marks : ∃ (f : Addr) (fd : FuncData), Fun K "_law_is_marks" "_law_is_marks" sIsMarks f fd ∧ Binds K fd ["_law_rule", "_law_value"] [] ∧ mg "_law_is_marks" = some (.ref f) ∧ FnOk P w K mg base CX0 (k + 5) f fd ["_law_rule", "_law_value"] (spIsMarks K)
  fit : ∃ (f : Addr) (fd : FuncData), Fun K "_law_fit" "_law_fit" sFit2 f fd ∧ Binds K fd ["_law_rule", "_law_mark", "_law_some"] [] ∧ mg "_law_fit" = some (.ref f) ∧ FnOk P w K mg base CX0 (k + 5) f fd ["_law_rule", "_law_mark", "_law_some"] (spFit2N K)
  flat : ∃ (f : Addr) (fd : FuncData), Fun K "_law_flat" "_law_flat" sFlat2 f fd ∧ Binds K fd ["_law_some"] [] ∧ mg "_law_flat" = some (.ref f) ∧ FnOk P w K mg base CX0 (k + 5) f fd ["_law_some"] (spFlat2 K)
  rnd : ∃ (f : Addr) (fd : FuncData), Fun K "_law_round" "_law_round" sRnd15 f fd ∧ Binds K fd ["_law_gone", "_law_mark"] [] ∧ mg "_law_round" = some (.ref f) ∧ FnOk P w K mg base CX0 (k + 5) f fd ["_law_gone", "_law_mark"] (spRnd15 K)
  of_ : ∃ (f : Addr) (fd : FuncData), Fun K "_law_of" "_law_of" sOf2 f fd ∧ Binds K fd ["_law_pot_here", "_law_some"] [] ∧ mg "_law_of" = some (.ref f) ∧ FnOk P w K mg base CX0 (k + 5) f fd ["_law_pot_here", "_law_some"] (spOf2 K)
def spStep15 (C : Addr) (TT : Tbs) : Sp := fun vs H Q _ => ∃ (p a g q d : Addr) (n mir r : Nat) (m : Int) (T : List (List Int)) (row : List Int), vs = [.ref p, .ref a, .int mir, .ref g, .ref q] ∧ Pot H p n ∧ n < 999990 ∧ IsRule T ∧ mir ≤ 3 ∧ Tbl H g (removedL T mir) ∧ AttAt C H T mir q a d m ∧ (removedL T mir)[r]? = some row ∧ m ∈ row ∧
  (∀ t H', Same H H' → H' t = some (.tup [.bl true, .bl false]) → Q (.ref t) H') ∧
  (∀ t y r' row' H', r' < r → (removedL T mir)[r']? = some row' → y ∈ row' → Pot H' p (n + 1) → K2 TT p q H H' → AttAt C H' T mir q a d y → H' t = some (.tup [.bl true, .bl true]) → Q (.ref t) H')
set_option maxHeartbeats 8000000 in
theorem ok_step15 {C : Addr} {TT : Tbs} {f : Addr} {fd : FuncData} {k : Nat} (F : Fun K "_law_step_right" "_law_step_right" sStep15 f fd) (S : Stp P w K mg base C TT k) :
    FnG P w K mg base (k + 6) f fd ["_law_pot_here", "_law_rule", "_law_mirrors", "_law_gone", "_law_attacker"] (spStep15 C TT) := by
  obtain ⟨TA, B, mrepr, ⟨fM, dM, bM, mM, GM⟩, ⟨fL, dL, bL, mL, GL'⟩, ⟨fS, dS, bS, mS, GS⟩, ⟨fW, dW, bW, mW, GW⟩, ⟨fI, dI, FI, bI, gI, GI⟩, ⟨fF, dF, FF, bF, gF, GF⟩, ⟨fX, dX, FX, bX, gX, GX⟩, ⟨fR, dR, FR, bR, gR, GR⟩, ⟨fO, dO, FO, bO, gO, GO⟩⟩ := S
  refine funG F scStep15 (fun vs H Q E h => ?_) (fun cdv A outer s H vs Q E gu hr h => ?_)
  · obtain ⟨p, a, g, q, d, n, mir, r, m, T, row, rfl, _⟩ := h
    rfl
  · obtain ⟨p, a, g, q, d, n, mir, r, m, T, row, rfl, hp, hn, rule, m3, hG, hA, hr0, hm, qs, qg⟩ := h
    refine ⟨_, pss_cons (ps_par (i := 5) (j := 6) (by rfl) scStep15.nd rfl rfl (by decide) rfl rfl (pa_cons (pe_meth0 (pv 4) TA.cl mM GM hr bM .nil pass0) (pa_cons (pe_meth0 (pv 4) TA.cl mL GL' hr bL .nil pass0) pa_nil)) (by rfl))
      (pss_cons (ps_if (PW.pt (pw_or (pt_not (pt_val (pe_call GI hr (by rfl) gI FI.kp bI .nil pass0 (pa_cons (pv 1) (pa_cons (pv 6) pa_nil)))))
          (pw_or (pt_cmpR op_gt (pe_callB (lenK (K := K)) (by rfl) B.len PySem.boot_len (pa_cons (pv 6) pa_nil)) (pv 2) (nomark _))
            (pw_or1 (pt_cmpR op_ne (pe_callB (reprA (K := K) gu hr.units) (by rfl) mrepr (by decide +kernel) (pa_cons (pe_meth0 (pv 4) TA.cl mL GL' hr bL .nil pass0) pa_nil)) (pe_callB (reprA (K := K) gu hr.units) (by rfl) mrepr (by decide +kernel) (pa_cons (pv 6) pa_nil)) (nomark _))))))
          (pss_one (ps_ret (pe_tup (pa_cons pe_bl (pa_cons pe_bl pa_nil))))) pss_nil)
      (pss_cons (ps_set (i := 7) scStep15.nd rfl (.inl rfl) (pe_call GF hr (by rfl) gF FF.kp bF .nil pass0 (pa_cons (pv 1) (pa_cons (pv 5) (pa_cons (pv 6) pa_nil)))))
      (pss_cons (ps_if (pt_cmpR op_ne (pe_callB (reprA (K := K) gu hr.units) (by rfl) mrepr (by decide +kernel) (pa_cons (pe_meth0 (pv 4) TA.cl mS GS hr bS .nil pass0) pa_nil)) (pe_callB (reprA (K := K) gu hr.units) (by rfl) mrepr (by decide +kernel) (pa_cons (pe_cmpR (op_eqD hr.units) (pv 7) (pe_lst pa_nil) (nomark _)) pa_nil)) (nomark _))
          (pss_one (ps_ret (pe_tup (pa_cons pe_bl (pa_cons pe_bl pa_nil))))) pss_nil)
      (pss_cons (ps_set (i := 8) scStep15.nd rfl (.inr rfl) (pe_call GX hr (by rfl) gX FX.kp bX .nil pass0 (pa_cons (pe_slice (slAK (K := K)) (pv 3) po_none (po_some (pe_call GR hr (by rfl) gR FR.kp bR .nil pass0 (pa_cons (pv 3) (pa_cons (pv 5) pa_nil))))) pa_nil)))
      (pss_cons (ps_if (pt_not (pt_val (pe_callB (all3K (K := K) rfl) (by rfl) B.all (by decide +kernel) (pa_cons
            (pe_lc (own := [("_law_one", 9)]) (g := gName 9) (by rfl) scStep15.nd (piLstK (K := K) (pv 7))
              (blkOk_by (own := [("_law_one", 9)]) (N := nStep15) (sc := defScope sStep15) (by decide +kernel))
              (fun _ _ _ _ _ => pg_name (i := 9) scStep15.nd rfl (Or.inl rfl)) (fun _ _ _ _ _ => pts_nil)
              (fun _ _ _ _ _ => pe_cmpR (inK (K := K)) (pv 9) (pv 8) (by rfl))) pa_nil))))
          (pss_one (ps_ret (pe_tup (pa_cons pe_bl (pa_cons pe_bl pa_nil))))) pss_nil)
      (pss_cons (ps_if (pt_cmpR (op_eqD hr.units) (pv 7) (pe_lst pa_nil) (nomark _)) (pss_one (ps_ret (pe_tup (pa_cons pe_bl (pa_cons pe_bl pa_nil))))) pss_nil)
      (pss_cons (ps_set (i := 9) scStep15.nd rfl (.inl rfl) (pe_call GO hr (by rfl) gO FO.kp bO .nil pass0 (pa_cons (pv 0) (pa_cons (pv 7) pa_nil))))
      (pss_one (ps_ret (pe_tup (pa_cons (pe_and (pe_cmpR op_isN (pe_meth (pv 4) TA.cl mW GW hr bW .nil pass0 (pa_cons (pv 9) pa_nil)) pe_non (nomark _))
          (pe_one (pe_cmpR op_eq (pe_callB (reprA (K := K) gu hr.units) (by rfl) mrepr (by decide +kernel) (pa_cons (pe_meth0 (pv 4) TA.cl mM GM hr bM .nil pass0) pa_nil)) (pe_callB (reprA (K := K) gu hr.units) (by rfl) mrepr (by decide +kernel) (pa_cons (pv 9) pa_nil)) (nomark _)))) (pa_cons pe_bl pa_nil)))))))))))), ?_⟩
    have n16 := rule.2.1
    obtain ⟨⟨dx, h1⟩, ⟨kvs, h2, h3⟩, hT⟩ := id hA
    obtain ⟨c, ys, e1, e2, gy, few, fitE⟩ := h3 r row m hr0 hm
    have gm := (removed_rows row (List.mem_of_getElem? hr0)).1.2 m hm
    have hY : Lies H d m c ys := ⟨kvs, h2, e1, e2⟩
    have afn : ∀ {n : Str} {m' : Int}, ¬ n = "rule" → ¬ n = "last" → ¬ n = "attacks" → (aflds a m' d).lookup n = none := fun a1 a2 a3 => af_no _ _ _ a1 a2 a3
    have shY := shA (fit_row gy n16 2)
    have shB : ShA (.bool (fitL T m ys).isEmpty) := shA (d := .bool _) trivial
    refine ⟨.ref q, rfl, q, dx, _, rfl, h1, afn (by decide +kernel) (by decide +kernel) (by decide +kernel), q, a, d, mir, m, T, rfl, hA, ?_⟩
    refine ⟨.ref q, rfl, q, dx, _, rfl, h1, afn (by decide +kernel) (by decide +kernel) (by decide +kernel), q, a, d, c, mir, m, T, ys, rfl, hA, hY, fun H1 s1 => ⟨_, _, rfl, ?_⟩⟩
    -- is it marks of the rule, few, the same again
    have hc1 := s1 _ _ e2
    refine ⟨.ref a, rfl, .ref c, rfl, a, T, .ref c, rowD ys, 3, rfl, hT.same s1, dpRow hc1, fit_row gy n16 2, fun H2 s2 => ?_⟩
    rw [ascD_row gy]
    refine ⟨_, rfl, iteF ?_⟩
    have s12 := s1.trans s2
    refine ⟨.ref c, rfl, c, _, rfl, .inr (SqT.of (s12 _ _ e2)), .int mir, rfl, _, _, rfl, rfl, _, rfl, ite2 (fun z => ?_) (fun z => ?_)⟩
    · rw [List.length_map] at z
      have := of_decide_eq_true z
      omega
    refine ⟨.ref q, rfl, q, dx, _, rfl, s12 _ _ h1, afn (by decide +kernel) (by decide +kernel) (by decide +kernel), q, a, d, c, mir, m, T, ys, rfl, hA.same s12, hY.same s12, fun H3 s3 => ?_⟩
    have s13 := s12.trans s3
    refine ⟨_, rowD ys, rfl, dpRow (s13 _ _ e2), shY.a, shY.b, shY.c, shY.d, .ref c, rfl, _, rowD ys, rfl, dpRow (s13 _ _ e2), shY.a, shY.b, shY.c, shY.d, rfl, _, rfl, iteNS rfl ?_⟩
    -- free
    refine ⟨.ref a, rfl, .int m, rfl, .ref c, rfl, a, c, m, T, ys, rfl, gm.1, hT.same s13, rule, .inr (SqT.of (s13 _ _ e2)), fun e H4 ne4 s4 he => ?_⟩
    have s14 := s13.trans s4
    have gf := fit_good rule m ys
    -- is_stopped
    refine ⟨.ref q, rfl, q, dx, _, rfl, s14 _ _ h1, afn (by decide +kernel) (by decide +kernel) (by decide +kernel), q, a, d, c, mir, m, T, ys, rfl, hA.same s14, rule, gm.1, by omega, hY.same s14, fun H5 s5 => ?_⟩
    have s15 := s14.trans s5
    have he5 := s5 _ _ he
    refine ⟨_, .bool (fitL T m ys).isEmpty, rfl, .bl _, shB.a, shB.b, shB.c, shB.d, .ref e, rfl, Nat.zero_le _, fun l nl => ?_⟩
    have sl := same_upd (o := .lst []) nl
    refine ⟨.list ((fitL T m ys).map PyData.int), .list [], .lst (SqL.of (sl _ _ he5)) (dpInts _), .lst (SqL.of upd_same) .nil, shapedL _, shapedL [], ?_⟩
    rw [eqv_nil]
    refine ⟨_, .bool (fitL T m ys).isEmpty, rfl, .bl _, shB.a, shB.b, shB.c, shB.d, rfl, _, rfl, iteNS rfl ?_⟩
    have s16 := s15.trans sl
    have he6 := sl _ _ he5
    generalize upd H5 l (.lst []) = H6 at sl s16 he6 ⊢
    -- earlier
    have hG6 := hG.same s16
    have lR : (removedL T mir).length ≤ 16 := by
      have := removed_count (T := T) (mir := mir)
      omega
    refine ⟨.ref g, rfl, .ref g, rfl, .int m, rfl, g, _, m, r, row, rfl, hG6, lR, removed_nodup, hr0, hm, fun H7 s7 => ⟨_, rfl, ?_⟩⟩
    obtain ⟨rs, hg, hR⟩ := hG6.same s7
    refine slA_of hg fun t H8 s8 ht => ?_
    rw [cutV_to] at ht
    have hTt : Tbl H8 t ((removedL T mir).take r) := ⟨rs.take r, by rw [ht, List.map_take], paired_take r (Rows.same hR s8)⟩
    have lf : ((removedL T mir).take r).flatten.length ≤ 10000 := by
      have h2 : ((removedL T mir).take r).flatten.length ≤ (removedL T mir).flatten.length := by
        conv => rhs; rw [← List.take_append_drop r (removedL T mir), List.flatten_append, List.length_append]
        omega
      have := removed_flat (T := T) (mir := mir)
      omega
    refine ⟨t, _, rfl, hTt, lf, fun ea H9 s9 hea => ?_⟩
    have s69 := s7.trans (s8.trans s9)
    have s19 := s16.trans s69
    have he9 := s69 _ _ he6
    -- all of free are earlier
    refine ⟨.ref e, rfl, e, rfl, ⟨_, SqL.of he9⟩, fun D nD => ?_⟩
    have sD := same_upd (o := .lst []) nD
    refine lc_list (K := K) (a := e) (xs := (fitL T m ys).map V.int) (fun j H10 => H10 D = some (.lst ((List.replicate j true).map V.bl)) ∧ Same H9 H10) ⟨upd_same, sD⟩ (fun j H10 _ h => SqL.of (h.2 _ _ he9)) ?_ ?_
    · rintro j x H10 hx ⟨hD, s10⟩
      obtain ⟨z, ez, rfl⟩ := int_at hx
      have jlt : j < (fitL T m ys).length := (List.getElem?_eq_some_iff.mp ez).1
      have lfit := gf.len
      refine ⟨rfl, yesI ⟨.int z, rfl, .ref ea, rfl, ea, _, rfl, .inl (SqL.of (s10 _ _ hea)), rfl, flat_ints _, _, hD, ?_, ?_, ?_⟩⟩
      · rw [List.length_map, List.length_replicate]
        exact lenLine (by omega)
      · rw [upd_same, if_neg (by decide), inV_int, decide_eq_true (fitE z (List.mem_of_getElem? ez)), List.replicate_succ', List.map_append]
        rfl
      · intro b o hb
        rw [upd_ne (ne_of_none hb nD)]
        exact s10 _ _ hb
    · rintro H10 ⟨hD, s10⟩
      refine ⟨D, _, rfl, SqL.of hD, _, rfl, ?_⟩
      have ea1 : (List.replicate ((fitL T m ys).map V.int).length true).all id = true := by simp
      rw [ea1]
      refine iteF ?_
      have s110 := s19.trans s10
      have he10 := s10 _ _ he9
      -- stopped?
      refine ⟨.ref e, rfl, Nat.zero_le _, fun l2 nl2 => ?_⟩
      have sl2 := same_upd (o := .lst []) nl2
      refine ⟨.list ((fitL T m ys).map PyData.int), .list [], .lst (SqL.of (sl2 _ _ he10)) (dpInts _), .lst (SqL.of upd_same) .nil, shapedL _, shapedL [], _, rfl, ?_⟩
      rw [eqv_nil]
      have s111 := s110.trans sl2
      have he11 := sl2 _ _ he10
      generalize upd H10 l2 (.lst []) = H11 at sl2 s111 he11 ⊢
      refine ite2 (fun z => ?_) (fun z => ?_)
      · refine ⟨by show 2 ≤ sizeLine; decide, fun t2 nt2 => ?_⟩
        exact qs t2 _ (s111.trans (same_upd nt2)) upd_same
      have hne : fitL T m ys ≠ [] := fun y => z (by rw [y]; rfl)
      have nep : e ≠ p := fun y => by
        obtain ⟨xs, hl⟩ := pot_lst hp
        rw [y, s13 _ _ hl] at ne4
        cases ne4
      have hp11 := hp.same s111
      refine ⟨.ref p, rfl, .ref e, rfl, p, e, n, _, rfl, hp11, by omega, .inl (SqL.of he11), sq_list he11 nep, by simpa using hne, by rw [List.length_map]; have := gf.len; omega, fun i v H12 hv hp12 kp12 => ?_⟩
      obtain ⟨y, ey, rfl⟩ := int_at hv
      have hy : y ∈ fitL T m ys := List.mem_of_getElem? ey
      have gyy := gf.2 y hy
      have kx12 : KX TT p H11 H12 := kp12.x hp11
      have hA12 := (hA.same s111).kx kx12 hp11
      have hY12 := (hY.same s111).kx kx12 hp11
      obtain ⟨⟨dx2, g1⟩, _, _⟩ := id hA12
      refine ⟨.ref q, rfl, q, dx2, _, rfl, g1, afn (by decide +kernel) (by decide +kernel) (by decide +kernel), .int y, rfl, q, a, d, c, mir, m, y, T, ys, rfl, hA12, rule, gm.1, by omega, hY12, hy, fun H13 kx13 hA13 => ?_⟩
      refine ⟨rfl, _, rfl, iteT ?_⟩
      obtain ⟨⟨dx3, g3⟩, _, _⟩ := id hA13
      have shI : ShA (.int y) := shA (d := .int y) ⟨by omega, by omega⟩
      refine ⟨.ref q, rfl, q, dx3, _, rfl, g3, afn (by decide +kernel) (by decide +kernel) (by decide +kernel), q, a, d, mir, y, T, rfl, hA13, ?_⟩
      refine ⟨_, .int y, rfl, .int y, shI.a, shI.b, shI.c, shI.d, .int y, rfl, _, .int y, rfl, .int y, shI.a, shI.b, shI.c, shI.d, rfl, ?_⟩
      rw [decide_eq_true rfl]
      refine ⟨by show 2 ≤ sizeLine; decide, fun t2 nt2 => ?_⟩
      have st2 := same_upd (o := .tup [.bl true, .bl true]) nt2
      obtain ⟨row', hrow', hy'⟩ := List.mem_flatten.mp (fitE y hy)
      obtain ⟨r', hr'⟩ := List.getElem?_of_mem hrow'
      have rl : r' < r := by
        have := (List.getElem?_eq_some_iff.mp hr').1
        rw [List.length_take] at this
        omega
      rw [List.getElem?_take_of_lt rl] at hr'
      have npq : p ≠ q := fun z => by
        obtain ⟨xs, hl⟩ := pot_lst hp12
        rw [z, g1] at hl
        cases hl
      have hp13 : Pot H13 p (n + 1) := by
        obtain ⟨g', t', c', e', r1⟩ := hp12
        exact ⟨g', t', c', kx13 _ _ npq e', r1⟩
      exact qg t2 y r' row' _ rl hr' hy' (hp13.same st2) ((K2.of (.of s111)).trans ((K2.left kx12).trans ((K2.right kx13).trans (K2.of (.of st2))))) (hA13.same st2) upd_same
end
end Nm

namespace Nm
open PySem PySem.Spec PyProof.Rows L2 GL LamX NdefX StX
/-! ### k15: two attackers of a mark, side by side -/
abbrev sMarkR15 : Stmt := topS 39
abbrev nMarkR15 : List Str := ["_law_pot_here", "_law_rule", "_law_mirrors", "_law_gone", "_law_mark", "_law_pair", "_law_waiting", "_law_turn", "_law_which", "_law_is_right", "_law_goes_on"]
theorem scMarkR15 : FnScope nMarkR15 ["_law_pot_here", "_law_rule", "_law_mirrors", "_law_gone", "_law_mark"] (defScope sMarkR15) := ⟨rfl, rfl, rfl, by decide +kernel, rfl, by decide +kernel, by decide +kernel⟩
def wI (b : Bool) : Int := if b = true then 1 else 0
def usB (alive : Bool → Bool) : List Bool := [false, true].filter alive
def usL (alive : Bool → Bool) : List Int := (usB alive).map wI
theorem rem_w {alive : Bool → Bool} {w : Bool} (h : alive w = true) : ∃ j : Nat, (usL alive)[j]? = some (wI w) ∧ (∀ i : Nat, i < j → (usL alive)[i]? ≠ some (wI w)) ∧ (usL alive).eraseIdx j = usL (fun b => alive b && (b != w)) := by
  cases w with
  | false =>
    refine ⟨0, ?_, fun i hi => absurd hi (Nat.not_lt_zero _), ?_⟩
    · unfold usL usB
      rw [List.filter_cons_of_pos h]
      rfl
    · unfold usL usB
      rw [List.filter_cons_of_pos h]
      cases ht : alive true <;> simp [ht, wI]
  | true =>
    cases hf : alive false with
    | false =>
      refine ⟨0, ?_, fun i hi => absurd hi (Nat.not_lt_zero _), ?_⟩
      · simp [usL, usB, hf, h, wI]
      · simp [usL, usB, hf, h, wI]
    | true =>
      refine ⟨1, ?_, fun i hi => ?_, ?_⟩
      · simp [usL, usB, hf, h, wI]
      · obtain rfl : i = 0 := by omega
        simp [usL, usB, hf, h, wI]
      · simp [usL, usB, hf, h, wI]
theorem mem_us {alive : Bool → Bool} {b : Bool} : b ∈ usB alive ↔ alive b = true := by
  unfold usB
  rw [List.mem_filter]
  cases b <;> simp
theorem us_nodup (alive : Bool → Bool) : (usB alive).Nodup := by
  unfold usB
  exact (show [false, true].Nodup by decide).sublist List.filter_sublist
theorem K2.kt {TT : Tbs} {p q C dx : Addr} {n : Nat} {fs : List (Str × V)} {H H' : Hp} (k : K2 TT p q H H') (hp : Pot H p n) (hq : H q = some (.ins C dx fs)) : KT H H' := fun b xs e => by
  obtain ⟨ys, hl⟩ := pot_lst hp
  exact k.at' _ _ (ne_of e hl (by intro z; cases z)) (ne_of e hq (by intro z; cases z)) e
theorem K2.lst {TT : Tbs} {p q C dx b : Addr} {fs : List (Str × V)} {xs : List V} {H H' : Hp} (k : K2 TT p q H H') (nb : b ≠ p) (hq : H q = some (.ins C dx fs)) (e : H b = some (.lst xs)) : H' b = some (.lst xs) :=
  k.at' _ _ nb (ne_of e hq (by intro z; cases z)) e
theorem AttAt.k2 {TT : Tbs} {C C' dx : Addr} {fs : List (Str × V)} {H H' : Hp} {T : List (List Int)} {mir n : Nat} {p q q' a d : Addr} {m : Int} (h : AttAt C H T mir q' a d m) (k : K2 TT p q H H') (hp : Pot H p n) (hq : H q = some (.ins C' dx fs)) (ne : q' ≠ q) : AttAt C H' T mir q' a d m := by
  obtain ⟨xs, hl⟩ := pot_lst hp
  obtain ⟨⟨dx', h1⟩, ⟨kvs, h2, h3⟩, rs, h4, h5⟩ := h
  have kt := k.kt hp hq
  exact ⟨⟨dx', k.at' _ _ (ne_of h1 hl (by intro z; cases z)) ne h1⟩, ⟨kvs, k.at' _ _ (ne_of h2 hl (by intro z; cases z)) (ne_of h2 hq (by intro z; cases z)) h2, fun i row y e1 e2 => (h3 i row y e1 e2).kt kt⟩, rs, kt _ _ h4, Rows.kt h5 kt⟩
theorem AttAt.ex {TT : Tbs} {C : Addr} {H H' : Hp} {T : List (List Int)} {mir : Nat} {p a d : Addr} {m : Int} (h : AttAt C H T mir p a d m) (s : Ex TT H H') : AttAt C H' T mir p a d m := by
  obtain ⟨⟨dx, h1⟩, ⟨kvs, h2, h3⟩, rs, h4, h5⟩ := h
  have kt : KT H H' := fun b xs e => s _ _ e
  exact ⟨⟨dx, s _ _ h1⟩, ⟨kvs, s _ _ h2, fun i row y e1 e2 => (h3 i row y e1 e2).kt kt⟩, rs, kt _ _ h4, Rows.kt h5 kt⟩
/-- a list of ours changed -/
theorem AttAt.put {C L : Addr} {H : Hp} {T : List (List Int)} {mir : Nat} {p a d : Addr} {m : Int} {xs : List V} {o : HO} (h : AttAt C H T mir p a d m) (hL : H L = some (.lst xs)) : AttAt C (upd H L o) T mir p a d m := by
  obtain ⟨⟨dx, h1⟩, ⟨kvs, h2, h3⟩, rs, h4, h5⟩ := h
  have kt : KT H (upd H L o) := KT.lst hL
  refine ⟨⟨dx, ?_⟩, ⟨kvs, ?_, fun i row y e1 e2 => (h3 i row y e1 e2).kt kt⟩, rs, kt _ _ h4, Rows.kt h5 kt⟩
  · rw [upd_ne (ne_of h1 hL (by intro z; cases z))]
    exact h1
  · rw [upd_ne (ne_of h2 hL (by intro z; cases z))]
    exact h2
theorem not_core {T : List (List Int)} {mir i : Nat} {row : List Int} {m : Int} (h : (removedL T mir)[i]? = some row) (hm : m ∈ row) : m ∉ coreL T mir := fun z => by
  have := of_decide_eq_true (List.mem_filter.mp z).2
  exact this (List.mem_flatten.mpr ⟨row, List.mem_of_getElem? h, hm⟩)
section
variable {P : Program} {w : World} {K : PySem.W.Frag} {mg : Str → Option Value} {base : Heap}
def spMarkR15 (TT : Tbs) : Sp := fun vs H Q _ => ∃ (p a g : Addr) (n mir R : Nat) (m : Int) (T : List (List Int)) (row : List Int), vs = [.ref p, .ref a, .int mir, .ref g, .int m] ∧ Pot H p n ∧ n + 100 < 999990 ∧ Tbl H a T ∧ IsRule T ∧ mir ≤ 3 ∧ Tbl H g (removedL T mir) ∧ (removedL T mir)[R]? = some row ∧ m ∈ row ∧ Tabs TT H ∧
  ∀ H', Pot H' p (n + 40) → KX TT p H H' → Q (.bl true) H'
set_option maxHeartbeats 8000000 in
theorem ok_markR15 {C : Addr} {TT : Tbs} {f fI fS fR : Addr} {fd dI dS dR : FuncData} {k : Nat} (F : Fun K "_law_mark_right" "_law_mark_right" sMarkR15 f fd) (TA : AttT K mg C) (MK : Mk K C fI) (bI : Binds K dI ["self", "rule", "mirrors", "mark"] []) (GI : FnOk P w K mg base CX0 (k + 11) fI dI ["self", "rule", "mirrors", "mark"] (spAInit C TT))
    (FS : Fun K "_law_step_right" "_law_step_right" sStep15 fS dS) (bS : Binds K dS ["_law_pot_here", "_law_rule", "_law_mirrors", "_law_gone", "_law_attacker"] []) (gS : mg "_law_step_right" = some (.ref fS)) (GS : FnG P w K mg base (k + 12) fS dS ["_law_pot_here", "_law_rule", "_law_mirrors", "_law_gone", "_law_attacker"] (spStep15 C TT))
    (FR : Fun K "_law_round" "_law_round" sRnd15 fR dR) (bR : Binds K dR ["_law_gone", "_law_mark"] []) (gR : mg "_law_round" = some (.ref fR)) (GR : FnOk P w K mg base CX0 (k + 12) fR dR ["_law_gone", "_law_mark"] (spRnd15 K)) (B : Lib K mg) :
    FnG P w K mg base (k + 13) f fd ["_law_pot_here", "_law_rule", "_law_mirrors", "_law_gone", "_law_mark"] (spMarkR15 TT) := by
  refine funG F scMarkR15 (fun vs H Q E h => ?_) (fun cdv A outer s H vs Q E gu hr h => ?_)
  · obtain ⟨p, a, g, n, mir, R, m, T, row, rfl, _⟩ := h
    rfl
  · obtain ⟨p, a, g, n, mir, R, m, T, row, rfl, hp, hn, hT, rule, m3, hG, hR, hm, tabs, q⟩ := h
    refine ⟨_, pss_cons (ps_par (i := 5) (j := 6) (by rfl) scMarkR15.nd rfl rfl (by decide) rfl rfl (pa_cons
          (pe_lst (pa_cons (pe_make MK GI hr (by rfl) TA.mgC bI .nil pass0 (pa_cons (pv 1) (pa_cons (pv 2) (pa_cons (pv 4) pa_nil)))) (pa_cons (pe_make MK GI hr (by rfl) TA.mgC bI .nil pass0 (pa_cons (pv 1) (pa_cons (pv 2) (pa_cons (pv 4) pa_nil)))) pa_nil)))
          (pa_cons (pe_lst (pa_cons pe_int (pa_cons pe_int pa_nil))) pa_nil)) (by rfl))
      (pss_cons (ps_for PassesOwn.never rfl (pi_range1 (by rfl) B.range (pa_cons (pe_op op_add (pe_call GR hr (by rfl) gR FR.kp bR .nil pass0 (pa_cons (pv 3) (pa_cons (pv 4) pa_nil))) pe_int) pa_nil)) (pg_name (i := 7) scMarkR15.nd rfl (.inl rfl))
        (pss_one (ps_for PassesOwn.never rfl (piLstK (K := K) (pe_callTy (lstOfK (K := K)) (by rfl) B.list (by decide +kernel) (pa_cons (pv 6) pa_nil))) (pg_name (i := 8) scMarkR15.nd rfl (.inl rfl))
          (pss_cons (ps_asg (callG (E := E0) GS gu hr (by rfl) gS FS.kp bS (pa_cons (pv 0) (pa_cons (pv 1) (pa_cons (pv 2) (pa_cons (pv 3) (pa_cons (pe_ix (ixLstK (K := K)) (pv 5) (pv 8) (fun _ _ => rfl)) pa_nil))))))
              (pgTupK (K := K) rfl (pgs_cons (pg_name (i := 9) scMarkR15.nd rfl (.inl rfl)) (pgs_cons (pg_name (i := 10) scMarkR15.nd rfl (.inl rfl)) pgs_nil))))
          (pss_cons (ps_if (pt_not (pt_val (pv 9))) (pss_one (ps_ret pe_bl)) pss_nil)
          (pss_one (ps_if (pt_not (pt_val (pv 10))) (pss_one (ps_expr (pe_bm PySem.F.plainAttrs_list PySem.F.slot_list_remove PySem.F.type_list_remove mt_remove (pv 6) (pa_cons (pv 8) pa_nil)))) pss_nil)))))))
      (pss_one (ps_ret (pe_cmpR (op_eqD hr.units) (pv 6) (pe_lst pa_nil) (nomark _))))), ?_⟩
    have n16 := rule.2.1
    have nc := not_core hR hm
    -- the first
    refine ⟨.ref a, rfl, .int mir, rfl, .int m, rfl, fun x0 dx0 nx0 ndx0 nex0 => ?_⟩
    have sn0 : Same H (upd (upd H dx0 (.own x0)) x0 (.ins C dx0 [])) := fun b o hb => by
      rw [upd_ne (ne_of_none hb nx0), upd_ne (ne_of_none hb ndx0)]
      exact hb
    refine ⟨x0, a, dx0, mir, m, T, rfl, upd_same, hT.same sn0, rule, m3, nc, tabs.ext sn0, fun d0 H1 kx1 hA0 => ⟨rfl, ?_⟩⟩
    have ex1 : Ex TT H H1 := kx1.new (.of sn0) nx0
    -- the second
    refine ⟨.ref a, rfl, .int mir, rfl, .int m, rfl, fun x1 dx1 nx1 ndx1 nex1 => ?_⟩
    have sn1 : Same H1 (upd (upd H1 dx1 (.own x1)) x1 (.ins C dx1 [])) := fun b o hb => by
      rw [upd_ne (ne_of_none hb nx1), upd_ne (ne_of_none hb ndx1)]
      exact hb
    refine ⟨x1, a, dx1, mir, m, T, rfl, upd_same, (hT.ex ex1).same sn1, rule, m3, nc, (ex1.tb tabs).ext sn1, fun d1 H2 kx2 hA1 => ⟨rfl, ?_⟩⟩
    have ex2 : Ex TT H1 H2 := kx2.new (.of sn1) nx1
    have hA02 := hA0.ex ex2
    have neq : x0 ≠ x1 := fun z => by
      obtain ⟨⟨dx, h1⟩, _, _⟩ := hA0
      rw [z, nx1] at h1
      cases h1
    refine ⟨by show 2 ≤ sizeLine; decide, fun PL nPL => ⟨by show 2 ≤ sizeLine; decide, fun L nL => ⟨_, _, rfl, ?_⟩⟩⟩
    have sP := same_upd (o := .lst [V.ref x0, .ref x1]) nPL
    have sL := same_upd (H := upd H2 PL (.lst [V.ref x0, .ref x1])) (o := .lst [V.int 0, .int 1]) nL
    have sPL := sP.trans sL
    have ex3 := (ex1.trans ex2).trans (Ex.of sPL)
    have hPL : upd (upd H2 PL (.lst [V.ref x0, .ref x1])) L (.lst [V.int 0, .int 1]) PL = some (.lst [V.ref x0, .ref x1]) := sL _ _ upd_same
    have hL : upd (upd H2 PL (.lst [V.ref x0, .ref x1])) L (.lst [V.int 0, .int 1]) L = some (.lst ((usL fun _ => true).map V.int)) := upd_same
    have hA03 := hA02.same sPL
    have hA13 := hA1.same sPL
    have hp2 : Pot H2 p n := by
      obtain ⟨g', t', c', e', r'⟩ := hp
      exact ⟨g', t', c', (ex1.trans ex2) _ _ e', r'⟩
    have nPLp : PL ≠ p := fun z => by
      obtain ⟨_, h⟩ := pot_lst hp2
      rw [z, h] at nPL
      cases nPL
    have nLp : L ≠ p := fun z => by
      obtain ⟨_, h⟩ := pot_lst (hp2.same sP)
      rw [z, h] at nL
      cases nL
    have nL0 : ∀ b o, [NT o] → H b = some o → b ≠ L := fun b o _ hb => ne_of_none (sP _ _ ((ex1.trans ex2) _ _ hb)) nL
    have hp3 := hp2.same sPL
    have nPLL : PL ≠ L := ne_of_none upd_same nL
    generalize upd (upd H2 PL (.lst [V.ref x0, .ref x1])) L (.lst [V.int 0, .int 1]) = H3 at ex3 hPL hL hA03 hA13 hp3
    have hG3 := hG.ex ex3
    obtain ⟨xx, exx⟩ : ∃ xx : Bool → Addr, xx = fun b => if b = true then x1 else x0 := ⟨_, rfl⟩
    obtain ⟨dd, edd⟩ : ∃ dd : Bool → Addr, dd = fun b => if b = true then d1 else d0 := ⟨_, rfl⟩
    have hAll : ∀ b, AttAt C H3 T mir (xx b) a (dd b) m := fun b => by
      rw [exx, edd]
      cases b
      · exact hA03
      · exact hA13
    have xne : ∀ b c, b ≠ c → xx b ≠ xx c := fun b c ne => by
      rw [exx]
      cases b <;> cases c
      · exact absurd rfl ne
      · exact neq
      · exact neq.symm
      · exact absurd rfl ne
    have hix : ∀ b, atI [V.ref x0, .ref x1] (wI b) = some (.ref (xx b)) := fun b => by
      rw [exx]
      cases b
      · exact atI_nat (j := 0) rfl
      · exact atI_nat (j := 1) rfl
    have lR : (removedL T mir).length ≤ 16 := by
      have := removed_count (T := T) (mir := mir)
      omega
    have Rlt : R < (removedL T mir).length := (List.getElem?_eq_some_iff.mp hR).1
    refine ⟨.ref g, rfl, .int m, rfl, g, _, m, R, row, rfl, hG3, lR, removed_nodup, hR, hm, fun H4 s4 => ⟨_, _, rfl, rfl, _, rfl, by omega, by omega, ?_⟩⟩
    obtain ⟨N, eN, hN⟩ : ∃ N : Nat, ((R : Int) + 1).toNat = N ∧ N = R + 1 := ⟨_, rfl, by omega⟩
    rw [eN]
    refine for_range (lo := 0) (n := N) (fun t σ H' => ∃ (y7 y8 y9 y10 : Option V) (alive : Bool → Bool) (mm : Bool → Int) (r : Bool → Nat), σ = [some (.ref p), some (.ref a), some (.int mir), some (.ref g), some (.int m), some (.ref PL), some (.ref L), y7, y8, y9, y10] ∧
        H' L = some (.lst ((usL alive).map V.int)) ∧ H' PL = some (.lst [V.ref x0, .ref x1]) ∧ (∀ b, AttAt C H' T mir (xx b) a (dd b) (mm b)) ∧ (∀ b, alive b = true → ∃ rw', (removedL T mir)[r b]? = some rw' ∧ mm b ∈ rw' ∧ r b + t ≤ R) ∧ Tbl H' g (removedL T mir) ∧ Pot H' p (n + 2 * t) ∧ KX TT p H H')
      ⟨none, none, none, none, fun _ => true, fun _ => m, fun _ => R, rfl, s4 _ _ hL, s4 _ _ hPL, fun b => (hAll b).same s4, fun b _ => ⟨row, hR, hm, Nat.le_refl _⟩, hG3.same s4, hp3.same s4, .of (ex3.trans (.of s4))⟩ ?_ ?_
    · rintro t σ H5 ht ⟨y7, y8, y9, y10, alive, mm, r, rfl, hL5, hPL5, hA5, hal, hG5, hp5, kx5⟩
      refine ⟨.ref L, rfl, L, _, rfl, .inl (SqL.of hL5), fun Z nZ => ⟨Z, rfl, ⟨_, SqL.of upd_same⟩, ?_⟩⟩
      have sZ := same_upd (o := .lst ((usL alive).map V.int)) nZ
      have nZp : Z ≠ p := fun z => by
        obtain ⟨_, h⟩ := pot_lst hp5
        rw [z, h] at nZ
        cases nZ
      have nZL : Z ≠ L := fun z => by
        rw [z, hL5] at nZ
        cases nZ
      have hZ : upd H5 Z (.lst ((usL alive).map V.int)) Z = some (.lst ((usL alive).map V.int)) := upd_same
      have kx6 : KX TT p H (upd H5 Z (.lst ((usL alive).map V.int))) := kx5.trans (.of (.of sZ))
      have hp6 := hp5.same sZ
      have hL6 := sZ _ _ hL5
      have hPL6 := sZ _ _ hPL5
      have hA6 := fun b => (hA5 b).same sZ
      have hG6 := hG5.same sZ
      generalize upd H5 Z (.lst ((usL alive).map V.int)) = H6 at sZ hZ kx6 hp6 hL6 hPL6 hA6 hG6 ⊢
      have lus : (usB alive).length ≤ 2 := by
        unfold usB
        exact List.length_filter_le _ _
      refine for_list (K := K) (a := Z) (xs := (usL alive).map V.int) (fun j σ H' => ∃ (y8 y9 y10 : Option V) (al : Bool → Bool) (mm : Bool → Int) (r : Bool → Nat), σ = [some (.ref p), some (.ref a), some (.int mir), some (.ref g), some (.int m), some (.ref PL), some (.ref L), some (.int (0 + t)), y8, y9, y10] ∧
          H' Z = some (.lst ((usL alive).map V.int)) ∧ H' L = some (.lst ((usL al).map V.int)) ∧ H' PL = some (.lst [V.ref x0, .ref x1]) ∧ (∀ b, AttAt C H' T mir (xx b) a (dd b) (mm b)) ∧ (∀ b, al b = true → ∃ rw', (removedL T mir)[r b]? = some rw' ∧ mm b ∈ rw' ∧ r b + t ≤ R) ∧
          (∀ b ∈ (usB alive).take j, al b = true → r b + t + 1 ≤ R) ∧ (∀ b ∈ (usB alive).drop j, al b = true) ∧ (∀ b, al b = true → b ∈ usB alive) ∧ Tbl H' g (removedL T mir) ∧ Pot H' p (n + 2 * t + j) ∧ KX TT p H H')
        ⟨y8, y9, y10, alive, mm, r, rfl, hZ, hL6, hPL6, hA6, hal, fun b hb => by simp at hb, fun b hb => mem_us.mp (by simpa using hb), fun b hb => mem_us.mpr hb, hG6, hp6, kx6⟩ (fun j σ H' _ ⟨_, _, _, _, _, _, _, h, _⟩ => SqL.of h) ?_ ?_
      · rintro j x σ H7 hx ⟨y8, y9, y10, al, mm, r, rfl, hZ7, hL7, hPL7, hA7, hal7, hdone, hwait, hin, hG7, hp7, kx7⟩
        obtain ⟨v, ev, rfl⟩ := int_at hx
        obtain ⟨wb, ewb, rfl⟩ : ∃ wb, (usB alive)[j]? = some wb ∧ v = wI wb := by
          unfold usL at ev
          rw [List.getElem?_map] at ev
          cases e : (usB alive)[j]? with
          | none =>
            rw [e] at ev
            cases ev
          | some wb =>
            rw [e] at ev
            exact ⟨wb, rfl, (Option.some.inj ev).symm⟩
        have jlt : j < (usB alive).length := (List.getElem?_eq_some_iff.mp ewb).1
        have hw : al wb = true := hwait wb (by
          rw [List.drop_eq_getElem_cons jlt]
          rw [List.getElem?_eq_getElem jlt] at ewb
          rw [Option.some.inj ewb]
          exact List.mem_cons_self)
        have nodone : wb ∉ (usB alive).take j := fun z => by
          have nd := us_nodup alive
          rw [← List.take_append_drop j (usB alive)] at nd
          have h2 : wb ∈ (usB alive).drop j := by
            rw [List.drop_eq_getElem_cons jlt]
            rw [List.getElem?_eq_getElem jlt] at ewb
            rw [Option.some.inj ewb]
            exact List.mem_cons_self
          exact (List.nodup_append.mp nd).2.2 wb z wb h2 rfl
        have tk : (usB alive).take (j + 1) = (usB alive).take j ++ [wb] := by
          rw [List.take_add_one, ewb]
          rfl
        have drp : ∀ b ∈ (usB alive).drop (j + 1), b ∈ (usB alive).drop j ∧ b ≠ wb := fun b hb => by
          have e : (usB alive).drop j = wb :: (usB alive).drop (j + 1) := by
            rw [List.drop_eq_getElem_cons jlt]
            rw [List.getElem?_eq_getElem jlt] at ewb
            rw [Option.some.inj ewb]
          refine ⟨by rw [e]; exact List.mem_cons_of_mem _ hb, fun z => ?_⟩
          have nd := (us_nodup alive).sublist (List.drop_sublist j _)
          rw [e] at nd
          rw [z] at hb
          exact (List.nodup_cons.mp nd).1 hb
        obtain ⟨rw', hrw, hmw, hle⟩ := hal7 wb hw
        obtain ⟨⟨dxw, hxw⟩, _, _⟩ := id (hA7 wb)
        refine ⟨.ref p, rfl, .ref a, rfl, .int mir, rfl, .ref g, rfl, .ref PL, rfl, .int (wI wb), rfl, PL, _, _, .ref (xx wb), rfl, rfl, SqL.of hPL7, hix wb, ?_⟩
        refine ⟨p, a, g, xx wb, dd wb, _, mir, r wb, mm wb, T, rw', rfl, hp7, by omega, rule, m3, hG7, hA7 wb, hrw, hmw, fun t2 H8 s8 ht2 => ?_, fun t2 y r' row' H8 rl hr' hy' hp8 k2 hA8 ht2 => ?_⟩
        · -- stopped
          refine ⟨t2, _, rfl, SqT.of ht2, rfl, _, _, rfl, _, _, rfl, rfl, ?_⟩
          refine ⟨.bl true, rfl, _, rfl, iteF ⟨.bl false, rfl, _, rfl, iteT ?_⟩⟩
          have hL8 := s8 _ _ hL7
          obtain ⟨i, e1, e2, e3⟩ := rem_w hw
          refine ⟨.ref L, rfl, .inl ⟨rfl, _, SqL.of hL8⟩, .int (wI wb), rfl, L, _, _, i, rfl, rfl, hL8, e1, e2, ?_⟩
          rw [e3]
          have kx8 := kx7.trans (KX.of (.of s8))
          refine ⟨_, _, _, fun b => al b && (b != wb), mm, r, rfl, ?_, upd_same, ?_, fun b => ((hA7 b).same s8).put hL8, fun b hb => ?_, fun b hb hab => ?_, fun b hb => ?_, fun b hb => ?_, ?_, ?_, ?_⟩
          · rw [upd_ne nZL]
            exact s8 _ _ hZ7
          · rw [upd_ne nPLL]
            exact s8 _ _ hPL7
          · exact hal7 b (Bool.and_eq_true _ _ ▸ hb).1
          · have hab : (al b && (b != wb)) = true := hab
            rw [Bool.and_eq_true] at hab
            obtain ⟨h1, h2⟩ := hab
            have h2 : b ≠ wb := bne_iff_ne.mp h2
            rw [tk] at hb
            rcases List.mem_append.mp hb with z | z
            · exact hdone b z h1
            · exact absurd (List.mem_singleton.mp z) h2
          · obtain ⟨h1, h2⟩ := drp b hb
            simp [hwait b h1, h2]
          · exact hin b (Bool.and_eq_true _ _ ▸ hb).1
          · obtain ⟨rs, h1, h2⟩ := hG7.same s8
            exact ⟨rs, KT.lst hL8 _ _ h1, Rows.kt h2 (KT.lst hL8)⟩
          · obtain ⟨g', t', c', e', r1, r2, r3, r4, r5⟩ := hp7.same s8
            exact ⟨g', t', c', by rw [upd_ne nLp.symm]; exact e', r1, r2, r3, r4, by omega⟩
          · refine ⟨fun b o nb hb => ?_, fun tb => tabs_put (kx8.tb tb) hL8 (by intro _ z; cases z) (by intro _ z; cases z)⟩
            intro i
            rw [upd_ne (nL0 b o hb)]
            exact kx8 _ _ nb hb
        · -- it goes on
          refine ⟨t2, _, rfl, SqT.of ht2, rfl, _, _, rfl, _, _, rfl, rfl, ?_⟩
          refine ⟨.bl true, rfl, _, rfl, iteF ⟨.bl true, rfl, _, rfl, iteF ?_⟩⟩
          refine ⟨_, _, _, al, fun b => if b = wb then y else mm b, fun b => if b = wb then r' else r b, rfl, k2.lst nZp hxw hZ7, k2.lst nLp hxw hL7, k2.lst nPLp hxw hPL7, fun b => ?_, fun b hb => ?_, fun b hb hab => ?_, fun b hb => hwait b (drp b hb).1, hin, ?_, hp8.mono (by omega), ?_⟩
          · by_cases e : b = wb
            · simp only [e, if_true]
              exact hA8
            · simp only [e, if_false]
              exact (hA7 b).k2 k2 hp7 hxw (xne b wb e)
          · by_cases e : b = wb
            · simp only [e, if_true]
              exact ⟨row', hr', hy', by omega⟩
            · simp only [e, if_false]
              exact hal7 b hb
          · by_cases e : b = wb
            · simp only [e, if_true]
              omega
            · simp only [e, if_false]
              rw [tk] at hb
              rcases List.mem_append.mp hb with z | z
              · exact hdone b z hab
              · exact absurd (List.mem_singleton.mp z) e
          · obtain ⟨rs, h1, h2⟩ := hG7
            have kt := k2.kt hp7 hxw
            exact ⟨rs, kt _ _ h1, Rows.kt h2 kt⟩
          · refine ⟨fun b o nb hb => ?_, fun tb => k2.tb (kx7.tb tb)⟩
            intro i
            refine k2.at' b o nb (fun z => ?_) (kx7 _ _ nb hb)
            rw [exx] at z
            have h2 := ex1 _ _ hb
            cases wb with
            | false => exact absurd (z.trans (if_neg Bool.false_ne_true)) (ne_of_none hb nx0)
            | true => exact absurd (z.trans (if_pos rfl)) (ne_of_none h2 nx1)
      · rintro σ H7 ⟨y8, y9, y10, al, mm, r, rfl, hZ7, hL7, hPL7, hA7, hal7, hdone, hwait, hin, hG7, hp7, kx7⟩
        have lz : ((usL alive).map V.int).length = (usB alive).length := by
          unfold usL
          rw [List.length_map, List.length_map]
        rw [lz] at hdone hwait hp7
        rw [List.take_length] at hdone
        refine ⟨_, y8, y9, y10, al, mm, r, rfl, hL7, hPL7, hA7, fun b hb => ?_, hG7, hp7.mono (by omega), kx7⟩
        obtain ⟨rw', h1, h2, h3⟩ := hal7 b hb
        have := hdone b (hin b hb) hb
        exact ⟨rw', h1, h2, by omega⟩
    · rintro σ H5 ⟨y7, y8, y9, y10, alive, mm, r, rfl, hL5, hPL5, hA5, hal, hG5, hp5, kx5⟩
      have none : ∀ b, alive b = false := fun b => by
        cases e : alive b with
        | false => rfl
        | true =>
          obtain ⟨_, _, _, h3⟩ := hal b e
          omega
      have eu : usL alive = [] := by simp [usL, usB, none]
      rw [eu] at hL5
      refine ⟨.ref L, rfl, Nat.zero_le _, fun l nl => ?_⟩
      have sl := same_upd (o := .lst []) nl
      refine ⟨.list (([] : List Int).map PyData.int), .list [], .lst (SqL.of (sl _ _ hL5)) (dpInts []), .lst (SqL.of upd_same) .nil, shapedL [], shapedL [], ?_⟩
      rw [eqv_nil]
      exact q _ ((hp5.same sl).mono (by omega)) (kx5.trans (.of (.of sl)))
end
end Nm

namespace Nm
open PySem PySem.Spec PyProof.Rows L2 GL LamX NdefX StX
theorem fit_str {n : Nat} {x : Str} (h : (PyData.str x).shown.length ≤ 20) : Fit n (.str x) := by
  cases n <;> exact h
theorem fit_up : ∀ {n : Nat} {d : PyData}, Fit n d → Fit (n + 1) d
  | 0, d, h => by
    cases d with
    | tuple ds => unfold Fit at h; exact h.elim
    | list ds => unfold Fit at h; exact h.elim
    | dict ds => unfold Fit at h; exact h.elim
    | none => trivial
    | bool b => trivial
    | int i => exact h
    | str x => exact h
  | n + 1, d, h => by
    cases d with
    | tuple ds => exact ⟨h.1, fun x hx => fit_up (h.2 x hx)⟩
    | list ds => exact ⟨h.1, fun x hx => fit_up (h.2 x hx)⟩
    | dict ds => unfold Fit at h; exact h.elim
    | none => trivial
    | bool b => trivial
    | int i => exact h
    | str x => exact h
theorem fit_serves {T : List (List Int)} {ns : List Int} (r : IsRule T) (g : Good T.length ns) : Fit 3 (.tuple [.str "serves", rowD ns]) := by
  show [PyData.str "serves", rowD ns].length ≤ 40 ∧ ∀ x ∈ [PyData.str "serves", rowD ns], Fit 2 x
  refine ⟨by simp, fun x hx => ?_⟩
  rcases List.mem_cons.mp hx with z | z
  · rw [z]
    exact fit_str (by decide +kernel)
  · rw [List.mem_singleton.mp z]
    exact fit_row g r.2.1 1
theorem fit_fails {T : List (List Int)} {mir : Nat} {rows : List (Int × List Int)} (r : IsRule T) (f : FailRows T mir rows) : Fit 4 (.tuple [.str "fails", .tuple (rows.map rowE)]) := by
  have n16 := r.2.1
  have lr : rows.length = T.length := by
    have z := f.perm.length_eq
    rw [List.length_map, rangeI_length] at z
    exact z
  show [PyData.str "fails", .tuple (rows.map rowE)].length ≤ 40 ∧ ∀ x ∈ [PyData.str "fails", .tuple (rows.map rowE)], Fit 3 x
  refine ⟨by simp, fun x hx => ?_⟩
  rcases List.mem_cons.mp hx with z | z
  · rw [z]
    exact fit_str (by decide +kernel)
  · rw [List.mem_singleton.mp z]
    show (rows.map rowE).length ≤ 40 ∧ ∀ x ∈ rows.map rowE, Fit 2 x
    refine ⟨by rw [List.length_map]; omega, fun x hx => ?_⟩
    obtain ⟨p, hp, rfl⟩ := List.mem_map.mp hx
    show [PyData.int p.1, rowD p.2].length ≤ 40 ∧ ∀ x ∈ [PyData.int p.1, rowD p.2], Fit 1 x
    refine ⟨by simp, fun y hy => ?_⟩
    rcases List.mem_cons.mp hy with u | u
    · rw [u]
      have := mem_rangeI.mp (f.perm.mem_iff.mp (List.mem_map.mpr ⟨p, hp, rfl⟩))
      exact ⟨by omega, by omega⟩
    · rw [List.mem_singleton.mp u]
      exact fit_row (f.good p hp).1 n16 0
section
variable {P : Program} {w : World} {K : PySem.W.Frag} {mg : Str → Option Value} {base : Heap}
def spRight13 (TT : Tbs) : Sp := fun vs H Q _ => ∃ (a : Addr) (mir : Nat) (T : List (List Int)), vs = [.ref a, .int mir] ∧ Tbl H a T ∧ IsRule T ∧ 1 ≤ mir ∧ mir ≤ 3 ∧ Tabs TT H ∧ ∀ H', Ex TT H H' → Q (.bl true) H'
def spLaw13 (K : PySem.W.Frag) (TT : Tbs) : Sp := fun vs H Q _ => ∃ (a : Addr) (ns : List Int), vs = [.ref a] ∧ Tabs TT H ∧ SqL K H a (ns.map V.int) ∧ ns.length ≤ 63 ∧ ∀ H', Q (.bl true) H'
end
end Nm

namespace Nm
open PySem PySem.Spec PyProof.Rows L2 GL LamX NdefX StX
/-! ### k15: the law -/
abbrev sRight15 : Stmt := topS 40
abbrev sLaw15 : Stmt := topS 41
abbrev nRight15 : List Str := ["_law_pot_here", "_law_rule", "_law_mirrors", "_law_gone", "_law_marks", "_law_mark"]
theorem scRight15 : FnScope nRight15 ["_law_pot_here", "_law_rule", "_law_mirrors"] (defScope sRight15) := ⟨rfl, rfl, rfl, by decide +kernel, rfl, by decide +kernel, by decide +kernel⟩
theorem scLaw15 : FnScope ["_law_script", "_law_k", "_law_pot_here", "_law_turn"] ["_law_script"] (defScope sLaw15) := ⟨rfl, rfl, rfl, by decide +kernel, rfl, by decide +kernel, by decide +kernel⟩
def cutI (ms : List Int) (lo hi : Option Int) : List Int := (ms.drop (HT.sIx ms.length 0 lo)).take (HT.sIx ms.length ms.length hi - HT.sIx ms.length 0 lo)
theorem cut_map (ms : List Int) (lo hi : Option Int) : cutV (ms.map V.int) lo hi = (cutI ms lo hi).map V.int := by
  unfold cutV cutI
  rw [List.length_map, List.map_take, List.map_drop]
theorem cutI_sub {ms : List Int} {lo hi : Option Int} {x : Int} (h : x ∈ cutI ms lo hi) : x ∈ ms := List.mem_of_mem_drop (List.mem_of_mem_take h)
theorem cutI_len (ms : List Int) (lo hi : Option Int) : (cutI ms lo hi).length ≤ ms.length := by
  unfold cutI
  rw [List.length_take, List.length_drop]
  omega
section
variable {P : Program} {w : World} {K : PySem.W.Frag} {mg : Str → Option Value} {base : Heap}
/-! flat, its list a new one -/
def spFlat2N (K : PySem.W.Frag) : Sp := fun vs H Q _ => ∃ (p : Addr) (T : List (List Int)), vs = [.ref p] ∧ Tbl H p T ∧ T.flatten.length ≤ 10000 ∧ ∀ (c : Addr) (H' : Hp), H c = none → Same H H' → H' c = some (.lst (T.flatten.map V.int)) → Q (.ref c) H'
theorem ok_flat2N {f : Addr} {fd : FuncData} {k : Nat} (F : Fun K "_law_flat" "_law_flat" sFlat2 f fd) (ml : mg "list" = none) : FnOk P w K mg base CX0 (k + 1) f fd ["_law_some"] (spFlat2N K) := by
  refine F.ok scFlat2 (fun vs H Q E h => ?_) (fun cdv A outer s H vs Q E hr h => ?_)
  · obtain ⟨p, T, rfl, _⟩ := h
    rfl
  · obtain ⟨p, T, rfl, ⟨rs, hp, hR⟩, lf, q⟩ := h
    refine ⟨_, pss_cons (ps_set (i := 1) scFlat2.nd rfl (.inl rfl) (pe_lst pa_nil))
      (pss_cons (ps_for PassesOwn.never rfl (piTupK (K := K) (pv 0)) (pg_name (i := 2) scFlat2.nd rfl (.inl rfl))
        (pss_one (ps_expr (pe_bm PySem.F.plainAttrs_list PySem.F.slot_list_extend PySem.F.type_list_extend mt_extend (pv 1) (pa_cons (pe_callTy (lstOfK (K := K)) (by rfl) ml (by decide +kernel) (pa_cons (pv 2) pa_nil)) pa_nil)))))
      (pss_one (ps_ret (pv 1)))), ?_⟩
    have lr : rs.length = T.length := Paired.length hR
    have pre : ∀ i, (T.take i).flatten.length ≤ T.flatten.length := fun i => by
      have e : T.flatten = (T.take i).flatten ++ (T.drop i).flatten := by rw [← List.flatten_append, List.take_append_drop]
      rw [e, List.length_append]
      omega
    refine ⟨Nat.zero_le _, fun L nL => ?_⟩
    have sL := same_upd (o := .lst []) nL
    refine ⟨.ref p, rfl, p, rfl, ⟨_, SqT.of (sL _ _ hp)⟩, for_tup (K := K) (a := p) (xs := rs.map V.ref) (fun i σ H' => ∃ y2 : Option V, σ = [some (.ref p), some (.ref L), y2] ∧ H' L = some (.lst ((T.take i).flatten.map V.int)) ∧ Same H H')
      ⟨none, rfl, upd_same, sL⟩ (fun i σ H' _ h => ?_) ?_ ?_⟩
    · obtain ⟨_, _, _, sm⟩ := h
      exact SqT.of (sm _ _ hp)
    · rintro i x σ H1 hx ⟨y2, rfl, hL, sm⟩
      obtain ⟨c, hc, rfl⟩ := ref_at hx
      obtain ⟨row, hrw, hcell⟩ := paired_get hR hc
      have tk : (T.take (i + 1)).flatten = (T.take i).flatten ++ row := by
        rw [List.take_add_one, hrw, List.flatten_append]
        simp
      refine ⟨.ref L, rfl, .inl ⟨rfl, _, SqL.of hL⟩, .ref c, rfl, c, _, rfl, .inr (SqT.of (sm _ _ hcell)), fun d nd => ?_⟩
      have sd := same_upd (o := .lst (row.map V.int)) nd
      have pi := pre (i + 1)
      rw [tk, List.length_append] at pi
      refine ⟨L, d, _, _, rfl, rfl, sd _ _ hL, upd_same, ?_, _, rfl, ?_, ?_⟩
      · rw [List.length_map, List.length_map]
        exact Nat.le_of_lt (lenLine (by omega))
      · rw [upd_same, tk, List.map_append]
      · intro b o hb
        rw [upd_ne (ne_of_none hb nL)]
        exact sd _ _ (sm _ _ hb)
    · rintro σ H1 ⟨y2, rfl, hL, sm⟩
      rw [List.length_map, lr, List.take_length] at hL
      exact ⟨.ref L, rfl, q L H1 nL sm hL⟩
def spRight15 (TT : Tbs) : Sp := fun vs H Q _ => ∃ (p a : Addr) (n mir : Nat) (T : List (List Int)), vs = [.ref p, .ref a, .int mir] ∧ Pot H p n ∧ n + 5000 < 999990 ∧ Tbl H a T ∧ IsRule T ∧ mir ≤ 3 ∧ Tabs TT H ∧ ∀ H', Pot H' p (n + 2000) → KX TT p H H' → Q (.bl true) H'
set_option maxHeartbeats 8000000 in
theorem ok_right15 {TT : Tbs} {f fM fU fL : Addr} {fd dM dU dL : FuncData} {k : Nat} (F : Fun K "_law_right" "_law_right" sRight15 f fd)
    (FM : Fun K "_law_mark_right" "_law_mark_right" sMarkR15 fM dM) (bM : Binds K dM ["_law_pot_here", "_law_rule", "_law_mirrors", "_law_gone", "_law_mark"] []) (gM : mg "_law_mark_right" = some (.ref fM)) (GM : FnG P w K mg base (k + 13) fM dM ["_law_pot_here", "_law_rule", "_law_mirrors", "_law_gone", "_law_mark"] (spMarkR15 TT))
    (FU : Fun K "_law_rounds_by_sums" "_law_rounds_by_sums" sRbs fU dU) (bU : Binds K dU ["_law_rule", "_law_mirrors"] []) (gU : mg "_law_rounds_by_sums" = some (.ref fU)) (GU : FnOk P w K mg base CX0 (k + 13) fU dU ["_law_rule", "_law_mirrors"] (spRemoved2 K))
    (FL : Fun K "_law_flat" "_law_flat" sFlat2 fL dL) (bL : Binds K dL ["_law_some"] []) (gL : mg "_law_flat" = some (.ref fL)) (GL' : FnOk P w K mg base CX0 (k + 13) fL dL ["_law_some"] (spFlat2N K)) (B : Lib K mg) (mall : mg "all" = none) :
    FnG P w K mg base (k + 14) f fd ["_law_pot_here", "_law_rule", "_law_mirrors"] (spRight15 TT) := by
  refine funG F scRight15 (fun vs H Q E h => ?_) (fun cdv A outer s H vs Q E gu hr h => ?_)
  · obtain ⟨p, a, n, mir, T, rfl, _⟩ := h
    rfl
  · obtain ⟨p, a, n, mir, T, rfl, hp, hn, hT, rule, m3, tabs, q⟩ := h
    refine ⟨_, pss_cons (ps_set (i := 3) scRight15.nd rfl (.inr rfl) (pe_call GU hr (by rfl) gU FU.kp bU .nil pass0 (pa_cons (pv 1) (pa_cons (pv 2) pa_nil))))
      (pss_cons (ps_set (i := 4) scRight15.nd rfl (.inl rfl) (pe_call GL' hr (by rfl) gL FL.kp bL .nil pass0 (pa_cons (pv 3) pa_nil)))
      (pss_cons (ps_if (pt_cmpR op_gt (pe_callB (lenK (K := K)) (by rfl) B.len PySem.boot_len (pa_cons (pv 1) pa_nil)) pe_int (nomark _))
          (pss_one (ps_set (i := 4) scRight15.nd rfl (.inl rfl) (pe_op op_cat (pe_slice (slLstK (K := K)) (pv 4) po_none (po_some pe_int)) (pe_slice (slLstK (K := K)) (pv 4) (po_some (pe_un un_neg pe_int)) po_none)))) pss_nil)
      (pss_one (ps_ret (pe_callB (all3K (K := K) rfl) (by rfl) mall (by decide +kernel) (pa_cons
        (pe_lc (own := [("_law_mark", 5)]) (g := gName 5) (by rfl) scRight15.nd (piLstK (K := K) (pv 4))
          (blkOk_by (own := [("_law_mark", 5)]) (N := nRight15) (sc := defScope sRight15) (by decide +kernel))
          (fun _ _ _ _ _ => pg_name (i := 5) scRight15.nd rfl (Or.inl rfl)) (fun _ _ _ _ _ => pts_nil)
          (fun _ _ _ _ _ => callG (E := E0) GM gu hr (by rfl) gM FM.kp bM (pa_cons (pv 0) (pa_cons (pv 1) (pa_cons (pv 2) (pa_cons (pv 3) (pa_cons (pv 5) pa_nil)))))))  pa_nil)))))), ?_⟩
    have n16 := rule.2.1
    refine ⟨.ref a, rfl, .int mir, rfl, a, mir, T, rfl, hT, rule, by omega, fun g H1 s1 hG => ?_⟩
    have lf := removed_flat (T := T) (mir := mir)
    refine ⟨.ref g, rfl, g, _, rfl, hG, by omega, fun l H2 nl0 s2 hl => ?_⟩
    obtain ⟨rs, ha, hR⟩ := id ((hT.same s1).same s2)
    have s12 := s1.trans s2
    refine ⟨.ref a, rfl, a, _, rfl, .inr (SqT.of ha), _, _, rfl, rfl, _, rfl, ite2 (fun e => ?_) (fun e => ?_)⟩
    · refine ⟨.ref l, rfl, _, rfl, l, _, rfl, SqL.of hl, fun l1 nl1 => ?_⟩
      have t1 := same_upd (o := .lst (cutV (((removedL T mir).flatten).map V.int) none (some 1))) nl1
      refine ⟨.ref l, rfl, 2, rfl, -2, rfl, l, _, rfl, SqL.of (t1 _ _ hl), fun l2 nl2 => ?_⟩
      have t2 := same_upd (H := upd H2 l1 (.lst (cutV (((removedL T mir).flatten).map V.int) none (some 1)))) (o := .lst (cutV (((removedL T mir).flatten).map V.int) (some (-2)) none)) nl2
      refine ⟨l1, l2, _, _, rfl, rfl, t2 _ _ upd_same, upd_same, ?_, fun l3 nl3 => ?_⟩
      · rw [cut_map, cut_map, List.length_map, List.length_map]
        have h1 := cutI_len (removedL T mir).flatten none (some 1)
        have h2 := cutI_len (removedL T mir).flatten (some (-2)) none
        exact Nat.le_of_lt (lenLine (by omega))
      have t3 := same_upd (H := upd (upd H2 l1 (.lst (cutV (((removedL T mir).flatten).map V.int) none (some 1)))) l2 (.lst (cutV (((removedL T mir).flatten).map V.int) (some (-2)) none))) (o := .lst (cutV (((removedL T mir).flatten).map V.int) none (some 1) ++ cutV (((removedL T mir).flatten).map V.int) (some (-2)) none)) nl3
      have sA := s12.trans (t1.trans (t2.trans t3))
      have hl3 : upd (upd (upd H2 l1 (.lst (cutV (((removedL T mir).flatten).map V.int) none (some 1)))) l2 (.lst (cutV (((removedL T mir).flatten).map V.int) (some (-2)) none))) l3 (.lst (cutV (((removedL T mir).flatten).map V.int) none (some 1) ++ cutV (((removedL T mir).flatten).map V.int) (some (-2)) none)) l3 = some (.lst ((cutI (removedL T mir).flatten none (some 1) ++ cutI (removedL T mir).flatten (some (-2)) none).map V.int)) := by
        rw [upd_same, cut_map, cut_map, List.map_append]
      have hz : ∀ z ∈ cutI (removedL T mir).flatten none (some 1) ++ cutI (removedL T mir).flatten (some (-2)) none, z ∈ (removedL T mir).flatten := fun z hz => (List.mem_append.mp hz).elim cutI_sub cutI_sub
      have lz : (cutI (removedL T mir).flatten none (some 1) ++ cutI (removedL T mir).flatten (some (-2)) none).length ≤ 32 := by
        rw [List.length_append]
        have h1 := cutI_len (removedL T mir).flatten none (some 1)
        have h2 := cutI_len (removedL T mir).flatten (some (-2)) none
        omega
      have hGA := hG.same (s2.trans (t1.trans (t2.trans t3)))
      have nlp : l3 ≠ p := fun z => by
        obtain ⟨_, y⟩ := pot_lst (hp.same (s12.trans (t1.trans t2)))
        rw [z, y] at nl3
        cases nl3
      generalize upd (upd (upd H2 l1 (.lst (cutV (((removedL T mir).flatten).map V.int) none (some 1)))) l2 (.lst (cutV (((removedL T mir).flatten).map V.int) (some (-2)) none))) l3 (.lst (cutV (((removedL T mir).flatten).map V.int) none (some 1) ++ cutV (((removedL T mir).flatten).map V.int) (some (-2)) none)) = H5 at sA hl3 hGA ⊢
      generalize cutI (removedL T mir).flatten none (some 1) ++ cutI (removedL T mir).flatten (some (-2)) none = zs at hl3 hz lz
      refine ⟨.ref l3, rfl, l3, rfl, ⟨_, SqL.of hl3⟩, fun D nD => ?_⟩
      have sD := same_upd (o := .lst []) nD
      have hp5 := hp.same sA
      have nDp : D ≠ p := fun z => by
        obtain ⟨_, y⟩ := pot_lst hp5
        rw [z, y] at nD
        cases nD
      refine lc_list (K := K) (a := l3) (xs := zs.map V.int) (fun j H6 => H6 D = some (.lst ((List.replicate j true).map V.bl)) ∧ Pot H6 p (n + 40 * j) ∧ KX TT p H5 H6 ∧ H6 l3 = some (.lst (zs.map V.int))) ⟨upd_same, hp5.same sD, .of (.of sD), sD _ _ hl3⟩ (fun j H6 _ h => SqL.of h.2.2.2) ?_ ?_
      · rintro j x H6 hx ⟨hD, hp6, kx6, hl6⟩
        obtain ⟨z, ezz, rfl⟩ := int_at hx
        have jlt : j < zs.length := (List.getElem?_eq_some_iff.mp ezz).1
        obtain ⟨row, hrow, hzr⟩ := List.mem_flatten.mp (hz z (List.mem_of_getElem? ezz))
        obtain ⟨R, hRr⟩ := List.getElem?_of_mem hrow
        have kt : KT H5 H6 := fun b xs hb => kx6.tup hp5 hb
        have tbl : ∀ {b : Addr} {X : List (List Int)}, Tbl H5 b X → Tbl H6 b X := fun {b X} h => by
          obtain ⟨us, h1, h2⟩ := h
          exact ⟨us, kt _ _ h1, Rows.kt h2 kt⟩
        refine ⟨rfl, yesI ⟨.ref p, rfl, .ref a, rfl, .int mir, rfl, .ref g, rfl, .int z, rfl, p, a, g, _, mir, R, z, T, row, rfl, hp6, by omega, tbl (hT.same sA), rule, m3, tbl hGA, hRr, hzr, kx6.tb (tabs.ext sA), fun H7 hp7 kx7 => ⟨_, kx7 _ _ nDp hD, ?_, ?_, ?_, ?_, ?_⟩⟩⟩
        · rw [List.length_map, List.length_replicate]
          exact lenLine (by omega)
        · rw [upd_same, List.replicate_succ', List.map_append]
          rfl
        · obtain ⟨g', t', c', e', r'⟩ := hp7.mono (show n + 40 * j + 40 ≤ n + 40 * (j + 1) by omega)
          exact ⟨g', t', c', by rw [upd_ne nDp.symm]; exact e', r'⟩
        · exact (kx6.trans kx7).put nD (kx7 _ _ nDp hD)
        · rw [upd_ne (ne_of_none hl3 nD)]
          exact kx7 _ _ nlp hl6
      · rintro H6 ⟨hD, hp6, kx6, hl6⟩
        refine ⟨D, _, rfl, SqL.of hD, ?_⟩
        have ea1 : (List.replicate (zs.map V.int).length true).all id = true := by simp
        rw [ea1]
        rw [List.length_map] at hp6
        exact q _ (hp6.mono (by omega)) ((KX.of (.of sA)).trans kx6)
    · have nlp : l ≠ p := fun z => by
        obtain ⟨_, y⟩ := pot_lst (hp.same s1)
        rw [z, y] at nl0
        cases nl0
      have sA := s12
      have hl3 := hl
      have hz : ∀ z ∈ (removedL T mir).flatten, z ∈ (removedL T mir).flatten := fun z hz => hz
      have lz : (removedL T mir).flatten.length ≤ 32 := by omega
      have hGA := hG.same s2
      generalize eH : H2 = H5 at sA hl3 hGA ⊢
      generalize ez : (removedL T mir).flatten = zs at hl3 lz
      rw [ez] at hz
      have hz : ∀ z ∈ zs, z ∈ (removedL T mir).flatten := by rw [ez]; exact fun z hz => hz
      refine ⟨.ref l, rfl, l, rfl, ⟨_, SqL.of hl3⟩, fun D nD => ?_⟩
      have sD := same_upd (o := .lst []) nD
      have hp5 := hp.same sA
      have nDp : D ≠ p := fun z => by
        obtain ⟨_, y⟩ := pot_lst hp5
        rw [z, y] at nD
        cases nD
      refine lc_list (K := K) (a := l) (xs := zs.map V.int) (fun j H6 => H6 D = some (.lst ((List.replicate j true).map V.bl)) ∧ Pot H6 p (n + 40 * j) ∧ KX TT p H5 H6 ∧ H6 l = some (.lst (zs.map V.int))) ⟨upd_same, hp5.same sD, .of (.of sD), sD _ _ hl3⟩ (fun j H6 _ h => SqL.of h.2.2.2) ?_ ?_
      · rintro j x H6 hx ⟨hD, hp6, kx6, hl6⟩
        obtain ⟨z, ezz, rfl⟩ := int_at hx
        have jlt : j < zs.length := (List.getElem?_eq_some_iff.mp ezz).1
        obtain ⟨row, hrow, hzr⟩ := List.mem_flatten.mp (hz z (List.mem_of_getElem? ezz))
        obtain ⟨R, hRr⟩ := List.getElem?_of_mem hrow
        have kt : KT H5 H6 := fun b xs hb => kx6.tup hp5 hb
        have tbl : ∀ {b : Addr} {X : List (List Int)}, Tbl H5 b X → Tbl H6 b X := fun {b X} h => by
          obtain ⟨us, h1, h2⟩ := h
          exact ⟨us, kt _ _ h1, Rows.kt h2 kt⟩
        refine ⟨rfl, yesI ⟨.ref p, rfl, .ref a, rfl, .int mir, rfl, .ref g, rfl, .int z, rfl, p, a, g, _, mir, R, z, T, row, rfl, hp6, by omega, tbl (hT.same sA), rule, m3, tbl hGA, hRr, hzr, kx6.tb (tabs.ext sA), fun H7 hp7 kx7 => ⟨_, kx7 _ _ nDp hD, ?_, ?_, ?_, ?_, ?_⟩⟩⟩
        · rw [List.length_map, List.length_replicate]
          exact lenLine (by omega)
        · rw [upd_same, List.replicate_succ', List.map_append]
          rfl
        · obtain ⟨g', t', c', e', r'⟩ := hp7.mono (show n + 40 * j + 40 ≤ n + 40 * (j + 1) by omega)
          exact ⟨g', t', c', by rw [upd_ne nDp.symm]; exact e', r'⟩
        · exact (kx6.trans kx7).put nD (kx7 _ _ nDp hD)
        · rw [upd_ne (ne_of_none hl3 nD)]
          exact kx7 _ _ nlp hl6
      · rintro H6 ⟨hD, hp6, kx6, hl6⟩
        refine ⟨D, _, rfl, SqL.of hD, ?_⟩
        have ea1 : (List.replicate (zs.map V.int).length true).all id = true := by simp
        rw [ea1]
        rw [List.length_map] at hp6
        exact q _ (hp6.mono (by omega)) ((KX.of (.of sA)).trans kx6)
def spLaw15 (K : PySem.W.Frag) (TT : Tbs) : Sp := fun vs H Q _ => ∃ (a : Addr) (ns : List Int), vs = [.ref a] ∧ Tabs TT H ∧ SqL K H a (ns.map V.int) ∧ ns.length ≤ 63 ∧ ∀ H', Q (.bl true) H'
set_option maxHeartbeats 4000000 in
theorem ok_law15 {TT : Tbs} {f fR : Addr} {fd dR : FuncData} {k : Nat} (F : Fun K "law" "law" sLaw15 f fd) (FR : Fun K "_law_right" "_law_right" sRight15 fR dR) (bR : Binds K dR ["_law_pot_here", "_law_rule", "_law_mirrors"] []) (gR : mg "_law_right" = some (.ref fR))
    (GR : FnG P w K mg base (k + 14) fR dR ["_law_pot_here", "_law_rule", "_law_mirrors"] (spRight15 TT)) (hO : Has K mg "_law_pot" sPot2 ["_law_script", "_law_k"]) (W : Drw2 K mg) (hA : Has K mg "_law_any_rule" sAny2 ["_law_pot_here", "_law_most"]) (hS : Has K mg "_law_small_rule" sSmall2 ["_law_pot_here"]) (mmax : mg "max" = none) (mmin : mg "min" = none) :
    FnG P w K mg base (k + 15) f fd ["_law_script"] (spLaw15 K TT) := by
  obtain ⟨fO, dO, FO, bO, gO⟩ := hO
  obtain ⟨fA, dA, FA, bA, gA⟩ := hA
  obtain ⟨fS, dS, FS, bS, gS⟩ := hS
  obtain ⟨fT, dT, FT, bT, gT⟩ := id W.T
  have B := W.B
  have GO : FnOk P w K mg base CX0 (k + 14) fO dO ["_law_script", "_law_k"] (spPot K) := ok_pot2 FO B.len B.abs W.int
  have GA : FnOk P w K mg base CX0 (k + 14) fA dA ["_law_pot_here", "_law_most"] (spAny2 K) := ok_any2 FA W
  have GS : FnOk P w K mg base CX0 (k + 14) fS dS ["_law_pot_here"] (spSmall2 K) := ok_small2 FS W
  have GT : FnOk P w K mg base CX0 (k + 14) fT dT ["_law_pot_here", "_law_many"] (spTake K) := ok_take2 FT
  refine funG F scLaw15 (fun vs H Q E h => ?_) (fun cdv A outer s H vs Q E gu hr h => ?_)
  · obtain ⟨a, ns, rfl, _⟩ := h
    rfl
  · obtain ⟨a, ns, rfl, tabs, hSq, hlen, q⟩ := h
    refine ⟨_, pss_cons (ps_for PassesOwn.never rfl (pi_range1 (by rfl) B.range (pa_cons
          (pe_callB (call_max2 rfl) (by rfl) mmax (by decide +kernel) (pa_cons pe_int (pa_cons
            (pe_callB (call_min2 rfl) (by rfl) mmin (by decide +kernel) (pa_cons pe_int (pa_cons (pe_callB (lenK (K := K)) (by rfl) B.len PySem.boot_len (pa_cons (pv 0) pa_nil)) pa_nil))) pa_nil))) pa_nil)) (pg_name (i := 1) scLaw15.nd rfl (.inl rfl))
        (pss_cons (ps_set (i := 2) scLaw15.nd rfl (.inl rfl) (pe_call GO hr (by rfl) gO FO.kp bO .nil pass0 (pa_cons (pv 0) (pa_cons (pv 1) pa_nil))))
        (pss_cons (ps_for PassesOwn.never rfl (pi_range1 (by rfl) B.range (pa_cons pe_int pa_nil)) (pg_name (i := 3) scLaw15.nd rfl (.inl rfl))
          (pss_one (ps_if (pt_not (pt_val (callG (E := E0) GR gu hr (by rfl) gR FR.kp bR (pa_cons (pv 2) (pa_cons (pe_call GS hr (by rfl) gS FS.kp bS .nil pass0 (pa_cons (pv 2) pa_nil)) (pa_cons (pe_op op_add pe_int (pe_call GT hr (by rfl) gT FT.kp bT .nil pass0 (pa_cons (pv 2) (pa_cons pe_int pa_nil)))) pa_nil))))))
            (pss_one (ps_ret pe_bl)) pss_nil)))
        (pss_one (ps_if (pt_not (pt_val (callG (E := E0) GR gu hr (by rfl) gR FR.kp bR (pa_cons (pv 2) (pa_cons (pe_call GA hr (by rfl) gA FA.kp bA .nil pass0 (pa_cons (pv 2) (pa_cons pe_int pa_nil))) (pa_cons pe_int pa_nil))))))
            (pss_one (ps_ret pe_bl)) pss_nil)))))
      (pss_one (ps_ret pe_bl)), ?_⟩
    refine ⟨.ref a, rfl, a, _, rfl, .inl hSq, 3, _, rfl, 1, _, rfl, _, rfl, ?_, ?_, ?_⟩
    · split <;> split <;> omega
    · split <;> split <;> omega
    obtain ⟨N, eN, hN⟩ : ∃ N : Nat, (if (if (((ns.map V.int).length : Nat) : Int) < 3 then (((ns.map V.int).length : Nat) : Int) else 3) > 1 then (if (((ns.map V.int).length : Nat) : Int) < 3 then (((ns.map V.int).length : Nat) : Int) else 3) else 1).toNat = N ∧ N ≤ 3 := by
      refine ⟨_, rfl, ?_⟩
      split <;> split <;> omega
    rw [eN]
    refine for_range (lo := 0) (n := N) (fun i σ H' => ∃ (y1 y2 y3 : Option V), σ = [some (.ref a), y1, y2, y3] ∧ Ex TT H H') ⟨none, none, none, rfl, Ex.refl _⟩ ?_ ?_
    · rintro i σ H1 hi ⟨y1, y2, y3, rfl, s1⟩
      refine ⟨.ref a, rfl, .int (0 + i), rfl, a, ns, 0 + (i : Int), rfl, s1.seq hSq, by omega, by omega, fun p H2 np s2 hp => ?_⟩
      have tb2 := (s1.trans (.of s2)).tb tabs
      refine ⟨2, rfl, by decide, by decide, for_range (lo := 0) (n := 2) (fun j σ H' => ∃ y3 : Option V, σ = [some (.ref a), some (.int (0 + i)), some (.ref p), y3] ∧ Pot H' p (3000 * j) ∧ KX TT p H2 H') ⟨y3, rfl, hp, KX.refl _ _⟩ ?_ ?_⟩
      · rintro j σ H3 hj ⟨y3, rfl, hp3, kx3⟩
        refine ⟨.ref p, rfl, .ref p, rfl, p, _, rfl, hp3, by omega, fun r T H4 hp4 kp4 hT4 rule _ => ?_⟩
        refine ⟨.ref p, rfl, p, _, 3, rfl, hp4, by omega, by decide, by decide, fun z H5 z0 z1 hp5 kp5 => ⟨_, _, rfl, rfl, ?_⟩⟩
        have kx5 : KX TT p H2 H5 := kx3.trans (((kp4.trans kp5)).x hp3)
        refine ⟨p, r, _, (1 + z).toNat, T, ?_, hp5, by omega, hT4.kp kp5 hp4, rule, by omega, kx5.tb tb2, fun H6 hp6 kx6 => ⟨_, rfl, iteF ⟨_, rfl, hp6.mono (by omega), kx5.trans kx6⟩⟩⟩
        rw [show (((1 + z).toNat : Nat) : Int) = 1 + z by omega]
      · rintro σ H3 ⟨y3, rfl, hp3, kx3⟩
        refine ⟨.ref p, rfl, .ref p, rfl, p, _, 16, rfl, by decide, by decide, hp3, by omega, fun r T H4 hp4 kp4 hT4 rule _ => ?_⟩
        have kx4 : KX TT p H2 H4 := kx3.trans (kp4.x hp3)
        exact ⟨p, r, _, 2, T, rfl, hp4, by omega, hT4, rule, by decide, kx4.tb tb2, fun H6 hp6 kx6 => ⟨_, rfl, iteF ⟨_, _, _, rfl, s1.trans (KX.new (kx4.trans kx6) (.of s2) np)⟩⟩⟩
    · rintro σ H1 ⟨y1, y2, y3, rfl, s1⟩
      exact q H1
end
end Nm

namespace Nm
open PySem PySem.Spec PyProof.Rows L2 GL LamX
/-! ### what the top has written -/
set_option maxHeartbeats 8000000 in
theorem all_mk {l : PySem.W.OpenLaw} {w : World} {K : PySem.W.Frag} {h : Heap} {mg : Str → Option Value} {fa f1 f2 f3 f4 f5 f6 f7 f8 f9 f10 f11 f12 f13 f14 f15 f16 f17 f18 f19 f20 f21 f22 f23 f24 f25 f26 f27 f28 f29 f30 f31 f32 : Addr} (X : K.In h) (G : h.Ns mainGlobals mg) (hfa : mg "law" = some (.ref fa))
    {od1 an1 od2 an2 od3 an3 od4 an4 od5 an5 od6 an6 od7 an7 od8 an8 od9 an9 od10 an10 od11 an11 od12 an12 od13 an13 od14 an14 od15 an15 od16 an16 od17 an17 od18 an18 od19 an19 od20 an20 od21 an21 od22 an22 od23 an23 od24 an24 od25 an25 od26 an26 od27 an27 od28 an28 od29 an29 od30 an30 od31 an31 od32 an32 : Option Addr}
    {sl1 sl2 sl3 sl4 sl5 sl6 sl7 sl8 sl9 sl10 sl11 sl12 sl13 sl14 sl15 sl16 sl17 sl18 sl19 sl20 sl21 sl22 sl23 sl24 sl25 sl26 sl27 sl28 sl29 sl30 sl31 sl32 : Array (Option Value)}
    {oc1 kV1 dc1 pm1 cd1 ct1 oc2 kV2 dc2 pm2 cd2 ct2 oc3 kV3 dc3 pm3 cd3 ct3 oc4 kV4 dc4 pm4 cd4 ct4 oc5 kV5 dc5 pm5 cd5 ct5 oc6 kV6 dc6 pm6 cd6 ct6 oc7 kV7 dc7 pm7 cd7 ct7 oc8 kV8 dc8 pm8 cd8 ct8 oc9 kV9 dc9 pm9 cd9 ct9 oc10 kV10 dc10 pm10 cd10 ct10 oc11 kV11 dc11 pm11 cd11 ct11 oc12 kV12 dc12 pm12 cd12 ct12 oc13 kV13 dc13 pm13 cd13 ct13 oc14 kV14 dc14 pm14 cd14 ct14 oc15 kV15 dc15 pm15 cd15 ct15 oc16 kV16 dc16 pm16 cd16 ct16 oc17 kV17 dc17 pm17 cd17 ct17 oc18 kV18 dc18 pm18 cd18 ct18 oc19 kV19 dc19 pm19 cd19 ct19 oc20 kV20 dc20 pm20 cd20 ct20 oc21 kV21 dc21 pm21 cd21 ct21 oc22 kV22 dc22 pm22 cd22 ct22 oc23 kV23 dc23 pm23 cd23 ct23 oc24 kV24 dc24 pm24 cd24 ct24 oc25 kV25 dc25 pm25 cd25 ct25 oc26 kV26 dc26 pm26 cd26 ct26 oc27 kV27 dc27 pm27 cd27 ct27 oc28 kV28 dc28 pm28 cd28 ct28 oc29 kV29 dc29 pm29 cd29 ct29 oc30 kV30 dc30 pm30 cd30 ct30 oc31 kV31 dc31 pm31 cd31 ct31 oc32 kV32 dc32 pm32 cd32 ct32 : Value}
    (a1 : PySem.W.nsIn K mainGlobals "is_below" = some (some (.ref f1))) (l1 : K.lookup f1 = some ⟨oc1, od1, .func (PySem.W.fnOf "is_below" "is_below" (defArgs sBelow) (defBody sBelow) (defScope sBelow) .none kV1 dc1 pm1 an1 cd1 ct1), sl1⟩) (c1 : PySem.W.codeIn K cd1 "is_below" = true) (k1 : PySem.W.keepIn K (.ref f1) = true)
    (a2 : PySem.W.nsIn K mainGlobals "may_follow" = some (some (.ref f2))) (l2 : K.lookup f2 = some ⟨oc2, od2, .func (PySem.W.fnOf "may_follow" "may_follow" (defArgs sMay) (defBody sMay) (defScope sMay) .none kV2 dc2 pm2 an2 cd2 ct2), sl2⟩) (c2 : PySem.W.codeIn K cd2 "may_follow" = true) (k2 : PySem.W.keepIn K (.ref f2) = true)
    (a3 : PySem.W.nsIn K mainGlobals "is_barred" = some (some (.ref f3))) (l3 : K.lookup f3 = some ⟨oc3, od3, .func (PySem.W.fnOf "is_barred" "is_barred" (defArgs sBarred) (defBody sBarred) (defScope sBarred) .none kV3 dc3 pm3 an3 cd3 ct3), sl3⟩) (c3 : PySem.W.codeIn K cd3 "is_barred" = true) (k3 : PySem.W.keepIn K (.ref f3) = true)
    (a4 : PySem.W.nsIn K mainGlobals "fits" = some (some (.ref f4))) (l4 : K.lookup f4 = some ⟨oc4, od4, .func (PySem.W.fnOf "fits" "fits" (defArgs sFits) (defBody sFits) (defScope sFits) .none kV4 dc4 pm4 an4 cd4 ct4), sl4⟩) (c4 : PySem.W.codeIn K cd4 "fits" = true) (k4 : PySem.W.keepIn K (.ref f4) = true)
    (a5 : PySem.W.nsIn K mainGlobals "fitting" = some (some (.ref f5))) (l5 : K.lookup f5 = some ⟨oc5, od5, .func (PySem.W.fnOf "fitting" "fitting" (defArgs sFitting) (defBody sFitting) (defScope sFitting) .none kV5 dc5 pm5 an5 cd5 ct5), sl5⟩) (c5 : PySem.W.codeIn K cd5 "fitting" = true) (k5 : PySem.W.keepIn K (.ref f5) = true)
    (a6 : PySem.W.nsIn K mainGlobals "barring" = some (some (.ref f6))) (l6 : K.lookup f6 = some ⟨oc6, od6, .func (PySem.W.fnOf "barring" "barring" (defArgs sBarring) (defBody sBarring) (defScope sBarring) .none kV6 dc6 pm6 an6 cd6 ct6), sl6⟩) (c6 : PySem.W.codeIn K cd6 "barring" = true) (k6 : PySem.W.keepIn K (.ref f6) = true)
    (a7 : PySem.W.nsIn K mainGlobals "attack" = some (some (.ref f7))) (l7 : K.lookup f7 = some ⟨oc7, od7, .func (PySem.W.fnOf "attack" "attack" (defArgs sAttack) (defBody sAttack) (defScope sAttack) .none kV7 dc7 pm7 an7 cd7 ct7), sl7⟩) (c7 : PySem.W.codeIn K cd7 "attack" = true) (k7 : PySem.W.keepIn K (.ref f7) = true)
    (a8 : PySem.W.nsIn K mainGlobals "removed_from" = some (some (.ref f8))) (l8 : K.lookup f8 = some ⟨oc8, od8, .func (PySem.W.fnOf "removed_from" "removed_from" (defArgs sRemFrom) (defBody sRemFrom) (defScope sRemFrom) .none kV8 dc8 pm8 an8 cd8 ct8), sl8⟩) (c8 : PySem.W.codeIn K cd8 "removed_from" = true) (k8 : PySem.W.keepIn K (.ref f8) = true)
    (a9 : PySem.W.nsIn K mainGlobals "removals" = some (some (.ref f9))) (l9 : K.lookup f9 = some ⟨oc9, od9, .func (PySem.W.fnOf "removals" "removals" (defArgs sRemovals) (defBody sRemovals) (defScope sRemovals) .none kV9 dc9 pm9 an9 cd9 ct9), sl9⟩) (c9 : PySem.W.codeIn K cd9 "removals" = true) (k9 : PySem.W.keepIn K (.ref f9) = true)
    (a10 : PySem.W.nsIn K mainGlobals "core" = some (some (.ref f10))) (l10 : K.lookup f10 = some ⟨oc10, od10, .func (PySem.W.fnOf "core" "core" (defArgs sCore) (defBody sCore) (defScope sCore) .none kV10 dc10 pm10 an10 cd10 ct10), sl10⟩) (c10 : PySem.W.codeIn K cd10 "core" = true) (k10 : PySem.W.keepIn K (.ref f10) = true)
    (a11 : PySem.W.nsIn K mainGlobals "_law_pot" = some (some (.ref f11))) (l11 : K.lookup f11 = some ⟨oc11, od11, .func (PySem.W.fnOf "_law_pot" "_law_pot" (defArgs sPot2) (defBody sPot2) (defScope sPot2) .none kV11 dc11 pm11 an11 cd11 ct11), sl11⟩) (c11 : PySem.W.codeIn K cd11 "_law_pot" = true) (k11 : PySem.W.keepIn K (.ref f11) = true)
    (a12 : PySem.W.nsIn K mainGlobals "_law_take" = some (some (.ref f12))) (l12 : K.lookup f12 = some ⟨oc12, od12, .func (PySem.W.fnOf "_law_take" "_law_take" (defArgs sTake2) (defBody sTake2) (defScope sTake2) .none kV12 dc12 pm12 an12 cd12 ct12), sl12⟩) (c12 : PySem.W.codeIn K cd12 "_law_take" = true) (k12 : PySem.W.keepIn K (.ref f12) = true)
    (a13 : PySem.W.nsIn K mainGlobals "_law_of" = some (some (.ref f13))) (l13 : K.lookup f13 = some ⟨oc13, od13, .func (PySem.W.fnOf "_law_of" "_law_of" (defArgs sOf2) (defBody sOf2) (defScope sOf2) .none kV13 dc13 pm13 an13 cd13 ct13), sl13⟩) (c13 : PySem.W.codeIn K cd13 "_law_of" = true) (k13 : PySem.W.keepIn K (.ref f13) = true)
    (a14 : PySem.W.nsIn K mainGlobals "_law_shuffled" = some (some (.ref f14))) (l14 : K.lookup f14 = some ⟨oc14, od14, .func (PySem.W.fnOf "_law_shuffled" "_law_shuffled" (defArgs sShuf2) (defBody sShuf2) (defScope sShuf2) .none kV14 dc14 pm14 an14 cd14 ct14), sl14⟩) (c14 : PySem.W.codeIn K cd14 "_law_shuffled" = true) (k14 : PySem.W.keepIn K (.ref f14) = true)
    (a15 : PySem.W.nsIn K mainGlobals "_law_drawn_rule" = some (some (.ref f15))) (l15 : K.lookup f15 = some ⟨oc15, od15, .func (PySem.W.fnOf "_law_drawn_rule" "_law_drawn_rule" (defArgs sDrawn2) (defBody sDrawn2) (defScope sDrawn2) .none kV15 dc15 pm15 an15 cd15 ct15), sl15⟩) (c15 : PySem.W.codeIn K cd15 "_law_drawn_rule" = true) (k15 : PySem.W.keepIn K (.ref f15) = true)
    (a16 : PySem.W.nsIn K mainGlobals "_law_named" = some (some (.ref f16))) (l16 : K.lookup f16 = some ⟨oc16, od16, .func (PySem.W.fnOf "_law_named" "_law_named" (defArgs sNamed2) (defBody sNamed2) (defScope sNamed2) .none kV16 dc16 pm16 an16 cd16 ct16), sl16⟩) (c16 : PySem.W.codeIn K cd16 "_law_named" = true) (k16 : PySem.W.keepIn K (.ref f16) = true)
    (a17 : PySem.W.nsIn K mainGlobals "_law_renamed" = some (some (.ref f17))) (l17 : K.lookup f17 = some ⟨oc17, od17, .func (PySem.W.fnOf "_law_renamed" "_law_renamed" (defArgs sRen2) (defBody sRen2) (defScope sRen2) .none kV17 dc17 pm17 an17 cd17 ct17), sl17⟩) (c17 : PySem.W.codeIn K cd17 "_law_renamed" = true) (k17 : PySem.W.keepIn K (.ref f17) = true)
    (a18 : PySem.W.nsIn K mainGlobals "_law_grown" = some (some (.ref f18))) (l18 : K.lookup f18 = some ⟨oc18, od18, .func (PySem.W.fnOf "_law_grown" "_law_grown" (defArgs sGrown2) (defBody sGrown2) (defScope sGrown2) .none kV18 dc18 pm18 an18 cd18 ct18), sl18⟩) (c18 : PySem.W.codeIn K cd18 "_law_grown" = true) (k18 : PySem.W.keepIn K (.ref f18) = true)
    (a19 : PySem.W.nsIn K mainGlobals "_law_spoilt" = some (some (.ref f19))) (l19 : K.lookup f19 = some ⟨oc19, od19, .func (PySem.W.fnOf "_law_spoilt" "_law_spoilt" (defArgs sSpoilt2) (defBody sSpoilt2) (defScope sSpoilt2) .none kV19 dc19 pm19 an19 cd19 ct19), sl19⟩) (c19 : PySem.W.codeIn K cd19 "_law_spoilt" = true) (k19 : PySem.W.keepIn K (.ref f19) = true)
    (a20 : PySem.W.nsIn K mainGlobals "_law_any_rule" = some (some (.ref f20))) (l20 : K.lookup f20 = some ⟨oc20, od20, .func (PySem.W.fnOf "_law_any_rule" "_law_any_rule" (defArgs sAny2) (defBody sAny2) (defScope sAny2) .none kV20 dc20 pm20 an20 cd20 ct20), sl20⟩) (c20 : PySem.W.codeIn K cd20 "_law_any_rule" = true) (k20 : PySem.W.keepIn K (.ref f20) = true)
    (a21 : PySem.W.nsIn K mainGlobals "_law_small_rule" = some (some (.ref f21))) (l21 : K.lookup f21 = some ⟨oc21, od21, .func (PySem.W.fnOf "_law_small_rule" "_law_small_rule" (defArgs sSmall2) (defBody sSmall2) (defScope sSmall2) .none kV21 dc21 pm21 an21 cd21 ct21), sl21⟩) (c21 : PySem.W.codeIn K cd21 "_law_small_rule" = true) (k21 : PySem.W.keepIn K (.ref f21) = true)
    (a22 : PySem.W.nsIn K mainGlobals "_law_behind" = some (some (.ref f22))) (l22 : K.lookup f22 = some ⟨oc22, od22, .func (PySem.W.fnOf "_law_behind" "_law_behind" (defArgs sBehind2) (defBody sBehind2) (defScope sBehind2) .none kV22 dc22 pm22 an22 cd22 ct22), sl22⟩) (c22 : PySem.W.codeIn K cd22 "_law_behind" = true) (k22 : PySem.W.keepIn K (.ref f22) = true)
    (a23 : PySem.W.nsIn K mainGlobals "_law_fit" = some (some (.ref f23))) (l23 : K.lookup f23 = some ⟨oc23, od23, .func (PySem.W.fnOf "_law_fit" "_law_fit" (defArgs sFit2) (defBody sFit2) (defScope sFit2) .none kV23 dc23 pm23 an23 cd23 ct23), sl23⟩) (c23 : PySem.W.codeIn K cd23 "_law_fit" = true) (k23 : PySem.W.keepIn K (.ref f23) = true)
    (a24 : PySem.W.nsIn K mainGlobals "_law_flat" = some (some (.ref f24))) (l24 : K.lookup f24 = some ⟨oc24, od24, .func (PySem.W.fnOf "_law_flat" "_law_flat" (defArgs sFlat2) (defBody sFlat2) (defScope sFlat2) .none kV24 dc24 pm24 an24 cd24 ct24), sl24⟩) (c24 : PySem.W.codeIn K cd24 "_law_flat" = true) (k24 : PySem.W.keepIn K (.ref f24) = true)
    (a25 : PySem.W.nsIn K mainGlobals "_law_is_marks" = some (some (.ref f25))) (l25 : K.lookup f25 = some ⟨oc25, od25, .func (PySem.W.fnOf "_law_is_marks" "_law_is_marks" (defArgs sIsMarks) (defBody sIsMarks) (defScope sIsMarks) .none kV25 dc25 pm25 an25 cd25 ct25), sl25⟩) (c25 : PySem.W.codeIn K cd25 "_law_is_marks" = true) (k25 : PySem.W.keepIn K (.ref f25) = true)
    (a26 : PySem.W.nsIn K mainGlobals "_law_sums" = some (some (.ref f26))) (l26 : K.lookup f26 = some ⟨oc26, od26, .func (PySem.W.fnOf "_law_sums" "_law_sums" (defArgs sSums) (defBody sSums) (defScope sSums) .none kV26 dc26 pm26 an26 cd26 ct26), sl26⟩) (c26 : PySem.W.codeIn K cd26 "_law_sums" = true) (k26 : PySem.W.keepIn K (.ref f26) = true)
    (a27 : PySem.W.nsIn K mainGlobals "_law_rounds_by_sums" = some (some (.ref f27))) (l27 : K.lookup f27 = some ⟨oc27, od27, .func (PySem.W.fnOf "_law_rounds_by_sums" "_law_rounds_by_sums" (defArgs sRbs) (defBody sRbs) (defScope sRbs) .none kV27 dc27 pm27 an27 cd27 ct27), sl27⟩) (c27 : PySem.W.codeIn K cd27 "_law_rounds_by_sums" = true) (k27 : PySem.W.keepIn K (.ref f27) = true)
    (a28 : PySem.W.nsIn K mainGlobals "_law_round" = some (some (.ref f28))) (l28 : K.lookup f28 = some ⟨oc28, od28, .func (PySem.W.fnOf "_law_round" "_law_round" (defArgs sRnd15) (defBody sRnd15) (defScope sRnd15) .none kV28 dc28 pm28 an28 cd28 ct28), sl28⟩) (c28 : PySem.W.codeIn K cd28 "_law_round" = true) (k28 : PySem.W.keepIn K (.ref f28) = true)
    (a29 : PySem.W.nsIn K mainGlobals "_law_step_right" = some (some (.ref f29))) (l29 : K.lookup f29 = some ⟨oc29, od29, .func (PySem.W.fnOf "_law_step_right" "_law_step_right" (defArgs sStep15) (defBody sStep15) (defScope sStep15) .none kV29 dc29 pm29 an29 cd29 ct29), sl29⟩) (c29 : PySem.W.codeIn K cd29 "_law_step_right" = true) (k29 : PySem.W.keepIn K (.ref f29) = true)
    (a30 : PySem.W.nsIn K mainGlobals "_law_mark_right" = some (some (.ref f30))) (l30 : K.lookup f30 = some ⟨oc30, od30, .func (PySem.W.fnOf "_law_mark_right" "_law_mark_right" (defArgs sMarkR15) (defBody sMarkR15) (defScope sMarkR15) .none kV30 dc30 pm30 an30 cd30 ct30), sl30⟩) (c30 : PySem.W.codeIn K cd30 "_law_mark_right" = true) (k30 : PySem.W.keepIn K (.ref f30) = true)
    (a31 : PySem.W.nsIn K mainGlobals "_law_right" = some (some (.ref f31))) (l31 : K.lookup f31 = some ⟨oc31, od31, .func (PySem.W.fnOf "_law_right" "_law_right" (defArgs sRight15) (defBody sRight15) (defScope sRight15) .none kV31 dc31 pm31 an31 cd31 ct31), sl31⟩) (c31 : PySem.W.codeIn K cd31 "_law_right" = true) (k31 : PySem.W.keepIn K (.ref f31) = true)
    (a32 : PySem.W.nsIn K mainGlobals "law" = some (some (.ref f32))) (l32 : K.lookup f32 = some ⟨oc32, od32, .func (PySem.W.fnOf "law" "law" (defArgs sLaw15) (defBody sLaw15) (defScope sLaw15) .none kV32 dc32 pm32 an32 cd32 ct32), sl32⟩) (c32 : PySem.W.codeIn K cd32 "law" = true) (k32 : PySem.W.keepIn K (.ref f32) = true)
    (z1 : PySem.W.nsIn K mainGlobals "ValueError" = some none)
    (z2 : PySem.W.nsIn K mainGlobals "abs" = some none)
    (z3 : PySem.W.nsIn K mainGlobals "all" = some none)
    (z4 : PySem.W.nsIn K mainGlobals "any" = some none)
    (z5 : PySem.W.nsIn K mainGlobals "bool" = some none)
    (z6 : PySem.W.nsIn K mainGlobals "enumerate" = some none)
    (z7 : PySem.W.nsIn K mainGlobals "int" = some none)
    (z8 : PySem.W.nsIn K mainGlobals "isinstance" = some none)
    (z9 : PySem.W.nsIn K mainGlobals "len" = some none)
    (z10 : PySem.W.nsIn K mainGlobals "list" = some none)
    (z11 : PySem.W.nsIn K mainGlobals "max" = some none)
    (z12 : PySem.W.nsIn K mainGlobals "min" = some none)
    (z13 : PySem.W.nsIn K mainGlobals "range" = some none)
    (z14 : PySem.W.nsIn K mainGlobals "repr" = some none)
    (z15 : PySem.W.nsIn K mainGlobals "set" = some none)
    (z16 : PySem.W.nsIn K mainGlobals "sorted" = some none)
    (z17 : PySem.W.nsIn K mainGlobals "sum" = some none)
    (z18 : PySem.W.nsIn K mainGlobals "tuple" = some none)
    {C1 mf1_0 mf1_1 mf1_2 mf1_3 mf1_4 : Addr} {mod1_0 man1_0 mod1_1 man1_1 mod1_2 man1_2 mod1_3 man1_3 mod1_4 man1_4 : Option Addr} {msl1_0 msl1_1 msl1_2 msl1_3 msl1_4 : Array (Option Value)} {moc1_0 mkV1_0 mdc1_0 mpm1_0 mcd1_0 mct1_0 moc1_1 mkV1_1 mdc1_1 mpm1_1 mcd1_1 mct1_1 moc1_2 mkV1_2 mdc1_2 mpm1_2 mcd1_2 mct1_2 moc1_3 mkV1_3 mdc1_3 mpm1_3 mcd1_3 mct1_3 moc1_4 mkV1_4 mdc1_4 mpm1_4 mcd1_4 mct1_4 : Value}
    (aC1 : PySem.W.nsIn K mainGlobals "Attacker" = some (some (.ref C1)))
    (ma1_0 : PySem.W.findIn K (.ref C1) "__init__" = some (some (.ref mf1_0))) (mi1_0 : PySem.W.isFn K (.ref mf1_0) = true) (ml1_0 : K.lookup mf1_0 = some ⟨moc1_0, mod1_0, .func (PySem.W.fnOf "__init__" "Attacker.__init__" (defArgs sAInit) (defBody sAInit) (defScope sAInit) .none mkV1_0 mdc1_0 mpm1_0 man1_0 mcd1_0 mct1_0), msl1_0⟩) (mc1_0 : PySem.W.codeIn K mcd1_0 "Attacker.__init__" = true) (mk1_0 : PySem.W.keepIn K (.ref mf1_0) = true)
    (ma1_1 : PySem.W.findIn K (.ref C1) "mark" = some (some (.ref mf1_1))) (mi1_1 : PySem.W.isFn K (.ref mf1_1) = true) (ml1_1 : K.lookup mf1_1 = some ⟨moc1_1, mod1_1, .func (PySem.W.fnOf "mark" "Attacker.mark" (defArgs sAMark) (defBody sAMark) (defScope sAMark) .none mkV1_1 mdc1_1 mpm1_1 man1_1 mcd1_1 mct1_1), msl1_1⟩) (mc1_1 : PySem.W.codeIn K mcd1_1 "Attacker.mark" = true) (mk1_1 : PySem.W.keepIn K (.ref mf1_1) = true)
    (ma1_2 : PySem.W.findIn K (.ref C1) "lying" = some (some (.ref mf1_2))) (mi1_2 : PySem.W.isFn K (.ref mf1_2) = true) (ml1_2 : K.lookup mf1_2 = some ⟨moc1_2, mod1_2, .func (PySem.W.fnOf "lying" "Attacker.lying" (defArgs sALying) (defBody sALying) (defScope sALying) .none mkV1_2 mdc1_2 mpm1_2 man1_2 mcd1_2 mct1_2), msl1_2⟩) (mc1_2 : PySem.W.codeIn K mcd1_2 "Attacker.lying" = true) (mk1_2 : PySem.W.keepIn K (.ref mf1_2) = true)
    (ma1_3 : PySem.W.findIn K (.ref C1) "wrote" = some (some (.ref mf1_3))) (mi1_3 : PySem.W.isFn K (.ref mf1_3) = true) (ml1_3 : K.lookup mf1_3 = some ⟨moc1_3, mod1_3, .func (PySem.W.fnOf "wrote" "Attacker.wrote" (defArgs sAWrote) (defBody sAWrote) (defScope sAWrote) .none mkV1_3 mdc1_3 mpm1_3 man1_3 mcd1_3 mct1_3), msl1_3⟩) (mc1_3 : PySem.W.codeIn K mcd1_3 "Attacker.wrote" = true) (mk1_3 : PySem.W.keepIn K (.ref mf1_3) = true)
    (ma1_4 : PySem.W.findIn K (.ref C1) "is_stopped" = some (some (.ref mf1_4))) (mi1_4 : PySem.W.isFn K (.ref mf1_4) = true) (ml1_4 : K.lookup mf1_4 = some ⟨moc1_4, mod1_4, .func (PySem.W.fnOf "is_stopped" "Attacker.is_stopped" (defArgs sAStop) (defBody sAStop) (defScope sAStop) .none mkV1_4 mdc1_4 mpm1_4 man1_4 mcd1_4 mct1_4), msl1_4⟩) (mc1_4 : PySem.W.codeIn K mcd1_4 "Attacker.is_stopped" = true) (mk1_4 : PySem.W.keepIn K (.ref mf1_4) = true)
    (pg1 : PySem.W.plainGet K C1 Str.empty = true) (hd1 : PySem.W.hasDictIn K C1 = true) (po1 : PySem.W.plainOver K C1 = true) (sa1 : PySem.W.findIn K (.ref C1) "__setattr__" = some (some (.builtin "object.__setattr__"))) (mks1 : PySem.W.makesIn K C1 = true) (kc1 : PySem.W.keepIn K (.ref C1) = true)
    (na1_0 : PySem.W.findIn K (.ref C1) "rule" = some none)
    (na1_1 : PySem.W.findIn K (.ref C1) "last" = some none)
    (na1_2 : PySem.W.findIn K (.ref C1) "attacks" = some none)
    (htab : tabOk K "barring" = true) {q : Program} {dr : DefRec} (hrec : (recsOf q).find? (fun e => e.name == ("barring" : Str)) = some dr)
    : LawT l q w K mg 15 fa "_law_script" 63 := by
  obtain ⟨c0, P0, ht, hk0⟩ := tab_mk htab
  have e := hfa.symm.trans (PySem.W.mg_of X G a32)
  cases e
  have F1 := fun_mk (st := sBelow) l1 c1 k1
  have b1 := F1.binds (ps := ["value", "limit"]) fun _ _ _ _ _ _ us hl => match us, hl with | [_, _], _ => rfl
  have g1 := PySem.W.mg_of X G a1
  have H1 : Has K mg "is_below" sBelow ["value", "limit"] := ⟨_, _, F1, b1, g1⟩
  have F2 := fun_mk (st := sMay) l2 c2 k2
  have b2 := F2.binds (ps := ["rule", "mark", "other"]) fun _ _ _ _ _ _ us hl => match us, hl with | [_, _, _], _ => rfl
  have g2 := PySem.W.mg_of X G a2
  have H2 : Has K mg "may_follow" sMay ["rule", "mark", "other"] := ⟨_, _, F2, b2, g2⟩
  have F3 := fun_mk (st := sBarred) l3 c3 k3
  have b3 := F3.binds (ps := ["rule", "lying", "other"]) fun _ _ _ _ _ _ us hl => match us, hl with | [_, _, _], _ => rfl
  have g3 := PySem.W.mg_of X G a3
  have H3 : Has K mg "is_barred" sBarred ["rule", "lying", "other"] := ⟨_, _, F3, b3, g3⟩
  have F4 := fun_mk (st := sFits) l4 c4 k4
  have b4 := F4.binds (ps := ["rule", "mark", "lying", "other"]) fun _ _ _ _ _ _ us hl => match us, hl with | [_, _, _, _], _ => rfl
  have g4 := PySem.W.mg_of X G a4
  have H4 : Has K mg "fits" sFits ["rule", "mark", "lying", "other"] := ⟨_, _, F4, b4, g4⟩
  have F5 := fun_mk (st := sFitting) l5 c5 k5
  have b5 := F5.binds (ps := ["rule", "mark", "lying"]) fun _ _ _ _ _ _ us hl => match us, hl with | [_, _, _], _ => rfl
  have g5 := PySem.W.mg_of X G a5
  have H5 : Has K mg "fitting" sFitting ["rule", "mark", "lying"] := ⟨_, _, F5, b5, g5⟩
  have F6 := fun_mk (st := sBarring) l6 c6 k6
  have b6 := F6.binds (ps := ["rule", "mirrors", "marks"]) fun _ _ _ _ _ _ us hl => match us, hl with | [_, _, _], _ => rfl
  have g6 := PySem.W.mg_of X G a6
  have H6 : Has K mg "barring" sBarring ["rule", "mirrors", "marks"] := ⟨_, _, F6, b6, g6⟩
  have F7 := fun_mk (st := sAttack) l7 c7 k7
  have b7 := F7.binds (ps := ["rule", "mirrors", "mark", "left"]) fun _ _ _ _ _ _ us hl => match us, hl with | [_, _, _, _], _ => rfl
  have g7 := PySem.W.mg_of X G a7
  have H7 : Has K mg "attack" sAttack ["rule", "mirrors", "mark", "left"] := ⟨_, _, F7, b7, g7⟩
  have F8 := fun_mk (st := sRemFrom) l8 c8 k8
  have b8 := F8.binds (ps := ["rule", "mirrors", "left"]) fun _ _ _ _ _ _ us hl => match us, hl with | [_, _, _], _ => rfl
  have g8 := PySem.W.mg_of X G a8
  have H8 : Has K mg "removed_from" sRemFrom ["rule", "mirrors", "left"] := ⟨_, _, F8, b8, g8⟩
  have F9 := fun_mk (st := sRemovals) l9 c9 k9
  have b9 := F9.binds (ps := ["rule", "mirrors"]) fun _ _ _ _ _ _ us hl => match us, hl with | [_, _], _ => rfl
  have g9 := PySem.W.mg_of X G a9
  have H9 : Has K mg "removals" sRemovals ["rule", "mirrors"] := ⟨_, _, F9, b9, g9⟩
  have F10 := fun_mk (st := sCore) l10 c10 k10
  have b10 := F10.binds (ps := ["rule", "mirrors"]) fun _ _ _ _ _ _ us hl => match us, hl with | [_, _], _ => rfl
  have g10 := PySem.W.mg_of X G a10
  have H10 : Has K mg "core" sCore ["rule", "mirrors"] := ⟨_, _, F10, b10, g10⟩
  have F11 := fun_mk (st := sPot2) l11 c11 k11
  have b11 := F11.binds (ps := ["_law_script", "_law_k"]) fun _ _ _ _ _ _ us hl => match us, hl with | [_, _], _ => rfl
  have g11 := PySem.W.mg_of X G a11
  have H11 : Has K mg "_law_pot" sPot2 ["_law_script", "_law_k"] := ⟨_, _, F11, b11, g11⟩
  have F12 := fun_mk (st := sTake2) l12 c12 k12
  have b12 := F12.binds (ps := ["_law_pot_here", "_law_many"]) fun _ _ _ _ _ _ us hl => match us, hl with | [_, _], _ => rfl
  have g12 := PySem.W.mg_of X G a12
  have H12 : Has K mg "_law_take" sTake2 ["_law_pot_here", "_law_many"] := ⟨_, _, F12, b12, g12⟩
  have F13 := fun_mk (st := sOf2) l13 c13 k13
  have b13 := F13.binds (ps := ["_law_pot_here", "_law_some"]) fun _ _ _ _ _ _ us hl => match us, hl with | [_, _], _ => rfl
  have g13 := PySem.W.mg_of X G a13
  have H13 : Has K mg "_law_of" sOf2 ["_law_pot_here", "_law_some"] := ⟨_, _, F13, b13, g13⟩
  have F14 := fun_mk (st := sShuf2) l14 c14 k14
  have b14 := F14.binds (ps := ["_law_pot_here", "_law_many"]) fun _ _ _ _ _ _ us hl => match us, hl with | [_, _], _ => rfl
  have g14 := PySem.W.mg_of X G a14
  have H14 : Has K mg "_law_shuffled" sShuf2 ["_law_pot_here", "_law_many"] := ⟨_, _, F14, b14, g14⟩
  have F15 := fun_mk (st := sDrawn2) l15 c15 k15
  have b15 := F15.binds (ps := ["_law_pot_here", "_law_most"]) fun _ _ _ _ _ _ us hl => match us, hl with | [_, _], _ => rfl
  have g15 := PySem.W.mg_of X G a15
  have H15 : Has K mg "_law_drawn_rule" sDrawn2 ["_law_pot_here", "_law_most"] := ⟨_, _, F15, b15, g15⟩
  have F16 := fun_mk (st := sNamed2) l16 c16 k16
  have b16 := F16.binds (ps := ["_law_values"]) fun _ _ _ _ _ _ us hl => match us, hl with | [_], _ => rfl
  have g16 := PySem.W.mg_of X G a16
  have H16 : Has K mg "_law_named" sNamed2 ["_law_values"] := ⟨_, _, F16, b16, g16⟩
  have F17 := fun_mk (st := sRen2) l17 c17 k17
  have b17 := F17.binds (ps := ["_law_rule", "_law_order"]) fun _ _ _ _ _ _ us hl => match us, hl with | [_, _], _ => rfl
  have g17 := PySem.W.mg_of X G a17
  have H17 : Has K mg "_law_renamed" sRen2 ["_law_rule", "_law_order"] := ⟨_, _, F17, b17, g17⟩
  have F18 := fun_mk (st := sGrown2) l18 c18 k18
  have b18 := F18.binds (ps := ["_law_pot_here", "_law_values", "_law_more"]) fun _ _ _ _ _ _ us hl => match us, hl with | [_, _, _], _ => rfl
  have g18 := PySem.W.mg_of X G a18
  have H18 : Has K mg "_law_grown" sGrown2 ["_law_pot_here", "_law_values", "_law_more"] := ⟨_, _, F18, b18, g18⟩
  have F19 := fun_mk (st := sSpoilt2) l19 c19 k19
  have b19 := F19.binds (ps := ["_law_pot_here", "_law_rule"]) fun _ _ _ _ _ _ us hl => match us, hl with | [_, _], _ => rfl
  have g19 := PySem.W.mg_of X G a19
  have H19 : Has K mg "_law_spoilt" sSpoilt2 ["_law_pot_here", "_law_rule"] := ⟨_, _, F19, b19, g19⟩
  have F20 := fun_mk (st := sAny2) l20 c20 k20
  have b20 := F20.binds (ps := ["_law_pot_here", "_law_most"]) fun _ _ _ _ _ _ us hl => match us, hl with | [_, _], _ => rfl
  have g20 := PySem.W.mg_of X G a20
  have H20 : Has K mg "_law_any_rule" sAny2 ["_law_pot_here", "_law_most"] := ⟨_, _, F20, b20, g20⟩
  have F21 := fun_mk (st := sSmall2) l21 c21 k21
  have b21 := F21.binds (ps := ["_law_pot_here"]) fun _ _ _ _ _ _ us hl => match us, hl with | [_], _ => rfl
  have g21 := PySem.W.mg_of X G a21
  have H21 : Has K mg "_law_small_rule" sSmall2 ["_law_pot_here"] := ⟨_, _, F21, b21, g21⟩
  have F22 := fun_mk (st := sBehind2) l22 c22 k22
  have b22 := F22.binds (ps := ["_law_rule", "_law_mark"]) fun _ _ _ _ _ _ us hl => match us, hl with | [_, _], _ => rfl
  have g22 := PySem.W.mg_of X G a22
  have H22 : Has K mg "_law_behind" sBehind2 ["_law_rule", "_law_mark"] := ⟨_, _, F22, b22, g22⟩
  have F23 := fun_mk (st := sFit2) l23 c23 k23
  have b23 := F23.binds (ps := ["_law_rule", "_law_mark", "_law_some"]) fun _ _ _ _ _ _ us hl => match us, hl with | [_, _, _], _ => rfl
  have g23 := PySem.W.mg_of X G a23
  have H23 : Has K mg "_law_fit" sFit2 ["_law_rule", "_law_mark", "_law_some"] := ⟨_, _, F23, b23, g23⟩
  have F24 := fun_mk (st := sFlat2) l24 c24 k24
  have b24 := F24.binds (ps := ["_law_some"]) fun _ _ _ _ _ _ us hl => match us, hl with | [_], _ => rfl
  have g24 := PySem.W.mg_of X G a24
  have H24 : Has K mg "_law_flat" sFlat2 ["_law_some"] := ⟨_, _, F24, b24, g24⟩
  have F25 := fun_mk (st := sIsMarks) l25 c25 k25
  have b25 := F25.binds (ps := ["_law_rule", "_law_value"]) fun _ _ _ _ _ _ us hl => match us, hl with | [_, _], _ => rfl
  have g25 := PySem.W.mg_of X G a25
  have H25 : Has K mg "_law_is_marks" sIsMarks ["_law_rule", "_law_value"] := ⟨_, _, F25, b25, g25⟩
  have F26 := fun_mk (st := sSums) l26 c26 k26
  have b26 := F26.binds (ps := ["_law_size", "_law_most"]) fun _ _ _ _ _ _ us hl => match us, hl with | [_, _], _ => rfl
  have g26 := PySem.W.mg_of X G a26
  have H26 : Has K mg "_law_sums" sSums ["_law_size", "_law_most"] := ⟨_, _, F26, b26, g26⟩
  have F27 := fun_mk (st := sRbs) l27 c27 k27
  have b27 := F27.binds (ps := ["_law_rule", "_law_mirrors"]) fun _ _ _ _ _ _ us hl => match us, hl with | [_, _], _ => rfl
  have g27 := PySem.W.mg_of X G a27
  have H27 : Has K mg "_law_rounds_by_sums" sRbs ["_law_rule", "_law_mirrors"] := ⟨_, _, F27, b27, g27⟩
  have F28 := fun_mk (st := sRnd15) l28 c28 k28
  have b28 := F28.binds (ps := ["_law_gone", "_law_mark"]) fun _ _ _ _ _ _ us hl => match us, hl with | [_, _], _ => rfl
  have g28 := PySem.W.mg_of X G a28
  have H28 : Has K mg "_law_round" sRnd15 ["_law_gone", "_law_mark"] := ⟨_, _, F28, b28, g28⟩
  have F29 := fun_mk (st := sStep15) l29 c29 k29
  have b29 := F29.binds (ps := ["_law_pot_here", "_law_rule", "_law_mirrors", "_law_gone", "_law_attacker"]) fun _ _ _ _ _ _ us hl => match us, hl with | [_, _, _, _, _], _ => rfl
  have g29 := PySem.W.mg_of X G a29
  have H29 : Has K mg "_law_step_right" sStep15 ["_law_pot_here", "_law_rule", "_law_mirrors", "_law_gone", "_law_attacker"] := ⟨_, _, F29, b29, g29⟩
  have F30 := fun_mk (st := sMarkR15) l30 c30 k30
  have b30 := F30.binds (ps := ["_law_pot_here", "_law_rule", "_law_mirrors", "_law_gone", "_law_mark"]) fun _ _ _ _ _ _ us hl => match us, hl with | [_, _, _, _, _], _ => rfl
  have g30 := PySem.W.mg_of X G a30
  have H30 : Has K mg "_law_mark_right" sMarkR15 ["_law_pot_here", "_law_rule", "_law_mirrors", "_law_gone", "_law_mark"] := ⟨_, _, F30, b30, g30⟩
  have F31 := fun_mk (st := sRight15) l31 c31 k31
  have b31 := F31.binds (ps := ["_law_pot_here", "_law_rule", "_law_mirrors"]) fun _ _ _ _ _ _ us hl => match us, hl with | [_, _, _], _ => rfl
  have g31 := PySem.W.mg_of X G a31
  have H31 : Has K mg "_law_right" sRight15 ["_law_pot_here", "_law_rule", "_law_mirrors"] := ⟨_, _, F31, b31, g31⟩
  have F32 := fun_mk (st := sLaw15) l32 c32 k32
  have g32 := PySem.W.mg_of X G a32
  have m1 := PySem.W.mg_none_of X G z1
  have m2 := PySem.W.mg_none_of X G z2
  have m3 := PySem.W.mg_none_of X G z3
  have m4 := PySem.W.mg_none_of X G z4
  have m5 := PySem.W.mg_none_of X G z5
  have m6 := PySem.W.mg_none_of X G z6
  have m7 := PySem.W.mg_none_of X G z7
  have m8 := PySem.W.mg_none_of X G z8
  have m9 := PySem.W.mg_none_of X G z9
  have m10 := PySem.W.mg_none_of X G z10
  have m11 := PySem.W.mg_none_of X G z11
  have m12 := PySem.W.mg_none_of X G z12
  have m13 := PySem.W.mg_none_of X G z13
  have m14 := PySem.W.mg_none_of X G z14
  have m15 := PySem.W.mg_none_of X G z15
  have m16 := PySem.W.mg_none_of X G z16
  have m17 := PySem.W.mg_none_of X G z17
  have m18 := PySem.W.mg_none_of X G z18
  refine ⟨PySem.W.fnOf "law" "law" (defArgs sLaw15) (defBody sLaw15) (defScope sLaw15) .none kV32 dc32 pm32 an32 cd32 ct32, [(c0, P0)], spLaw15 K (barTT P0), fun s v => .of_eq rfl, fun p hp => ?_, fun H a ns hl hH hS => ?_, fun base KB GB TB => ?_⟩
  · rw [List.mem_singleton.mp hp]
    exact ⟨hk0, _, dr, hrec, ht⟩
  · exact ⟨a, ns, rfl, barTabs (hH _ (List.mem_singleton.mpr rfl)), hS, hl, fun _ => rfl⟩
  have TB0 := TB _ (List.mem_singleton.mpr rfl)
  have BAR := barT_mk X G g6 l6 c6 k6 b6 ht TB0 m9 m12 m18 m16
  have MF1_0 := fun_mk (st := sAInit) ml1_0 mc1_0 mk1_0
  have mb1_0 := MF1_0.binds (ps := ["self", "rule", "mirrors", "mark"]) fun _ _ _ _ _ _ us hl => match us, hl with | [_, _, _, _], _ => rfl
  have MF1_1 := fun_mk (st := sAMark) ml1_1 mc1_1 mk1_1
  have mb1_1 := MF1_1.binds (ps := ["self"]) fun _ _ _ _ _ _ us hl => match us, hl with | [_], _ => rfl
  have MF1_2 := fun_mk (st := sALying) ml1_2 mc1_2 mk1_2
  have mb1_2 := MF1_2.binds (ps := ["self"]) fun _ _ _ _ _ _ us hl => match us, hl with | [_], _ => rfl
  have MF1_3 := fun_mk (st := sAWrote) ml1_3 mc1_3 mk1_3
  have mb1_3 := MF1_3.binds (ps := ["self", "value"]) fun _ _ _ _ _ _ us hl => match us, hl with | [_, _], _ => rfl
  have MF1_4 := fun_mk (st := sAStop) ml1_4 mc1_4 mk1_4
  have mb1_4 := MF1_4.binds (ps := ["self"]) fun _ _ _ _ _ _ us hl => match us, hl with | [_], _ => rfl
  have CL1 : Cls K C1 := ⟨pg1, hd1, po1, sa1⟩
  have MG1 := PySem.W.mg_of X G aC1
  have B : Lib K mg := ⟨m9, m2, m10, m18, m13, m6, m16⟩
  have DR : Drw2 K mg := ⟨B, m7, m15, H12, H13, H14, H15, H16, H17, H18, H19⟩
  have GM : Gam K mg base (barTT P0) := ⟨BAR, H2, H7, H8, m9, m10, m13, m18⟩
  have BJ : LibJ mg := ⟨m9, m8, m5, m7, m18, m13, m3⟩
  have MK : Mks mg := ⟨BJ, m10, m15, m16⟩
  have RB : Rbs K mg := ⟨m9, m4, m3, m13, m10, m18, m17, H26⟩
  have TA : AttT K mg C1 := ⟨CL1, na1_0, na1_1, na1_2, MG1⟩
  have MKA : Mk K C1 mf1_0 := ⟨mks1, ma1_0, mi1_0, kc1⟩
  have HL : HasM K C1 "lying" "Attacker.lying" sALying ["self"] := ⟨_, _, MF1_2, mb1_2, ⟨ma1_2, mi1_2, mk1_2⟩⟩
  have GFit := fun P => ok_fittingT (P := P) (w := w) (base := base) (k := 6) F5 F4 b4 g4 F2 b2 g2 m9 ⟨m4, H3⟩ m13 m18
  exact ok_law15 (k := 0) F32 F31 b31 g31 (ok_right15 (k := 0) F31 F30 b30 g30 (ok_markR15 (k := 0) F30 TA MKA mb1_0 (ok_ainit (k := 0) MF1_0 GM H9 H10 TA) F29 b29 g29 (ok_step15 (k := 6) F29 ⟨TA, BJ, m14, ⟨_, _, mb1_1, ⟨ma1_1, mi1_1, mk1_1⟩, ok_amark MF1_1 TA⟩, ⟨_, _, mb1_2, ⟨ma1_2, mi1_2, mk1_2⟩, ok_alying MF1_2 TA⟩, ⟨_, _, mb1_4, ⟨ma1_4, mi1_4, mk1_4⟩, ok_astop (k := 6) MF1_4 TA F5 b5 g5 (GFit _) HL⟩, ⟨_, _, mb1_3, ⟨ma1_3, mi1_3, mk1_3⟩, ok_awrote (k := 6) MF1_3 TA F5 b5 g5 (GFit _) HL F1 b1 g1 BJ⟩, ⟨_, _, F25, b25, g25, ok_ismarks F25 MK⟩, ⟨_, _, F23, b23, g23, ok_fit2N F23 F22 b22 g22 m9 m4⟩, ⟨_, _, F24, b24, g24, ok_flat2 F24 m10⟩, ⟨_, _, F28, b28, g28, ok_rnd15 F28 m6⟩, ⟨_, _, F13, b13, g13, ok_of2 F13 F12 b12 g12 m9⟩⟩) F28 b28 g28 (ok_rnd15 (k := 11) F28 m6) B) F27 b27 g27 (ok_rbs (k := 11) F27 RB) F24 b24 g24 (ok_flat2N (k := 12) F24 m10) B m3) H11 DR H20 H21 m11 m12
end Nm
open PySem PySem.W PyProof.Rows
set_option maxHeartbeats 0 in
theorem PySem.Challenge.cw_nextmarks_k15_attackers_step_by_step_holds : PySem.Challenge.rw_nextmarks_k15_attackers_step_by_step.Holds := by
  w_on; o_law; k_head; (case hw => w_witness2)
  k_fill
  refine GL.walkGT (l := PySem.Challenge.rw_nextmarks_k15_attackers_step_by_step) (n := 63) (k := 15) (x := "_law_script") rfl (by decide) rfl ⟨rfl, by decide, by decide⟩ (fun w h Y => PySem.W.km_in_of Y) ?F
  case F =>
    intro w mg fa h KX G hmg
    refine' Nm.all_mk KX G hmg ?a1 ?l1 ?c1 ?k1 ?a2 ?l2 ?c2 ?k2 ?a3 ?l3 ?c3 ?k3 ?a4 ?l4 ?c4 ?k4 ?a5 ?l5 ?c5 ?k5 ?a6 ?l6 ?c6 ?k6 ?a7 ?l7 ?c7 ?k7 ?a8 ?l8 ?c8 ?k8 ?a9 ?l9 ?c9 ?k9 ?a10 ?l10 ?c10 ?k10 ?a11 ?l11 ?c11 ?k11 ?a12 ?l12 ?c12 ?k12 ?a13 ?l13 ?c13 ?k13 ?a14 ?l14 ?c14 ?k14 ?a15 ?l15 ?c15 ?k15 ?a16 ?l16 ?c16 ?k16 ?a17 ?l17 ?c17 ?k17 ?a18 ?l18 ?c18 ?k18 ?a19 ?l19 ?c19 ?k19 ?a20 ?l20 ?c20 ?k20 ?a21 ?l21 ?c21 ?k21 ?a22 ?l22 ?c22 ?k22 ?a23 ?l23 ?c23 ?k23 ?a24 ?l24 ?c24 ?k24 ?a25 ?l25 ?c25 ?k25 ?a26 ?l26 ?c26 ?k26 ?a27 ?l27 ?c27 ?k27 ?a28 ?l28 ?c28 ?k28 ?a29 ?l29 ?c29 ?k29 ?a30 ?l30 ?c30 ?k30 ?a31 ?l31 ?c31 ?k31 ?a32 ?l32 ?c32 ?k32 ?z1 ?z2 ?z3 ?z4 ?z5 ?z6 ?z7 ?z8 ?z9 ?z10 ?z11 ?z12 ?z13 ?z14 ?z15 ?z16 ?z17 ?z18 ?aC1 ?ma1_0 ?mi1_0 ?ml1_0 ?mc1_0 ?mk1_0 ?ma1_1 ?mi1_1 ?ml1_1 ?mc1_1 ?mk1_1 ?ma1_2 ?mi1_2 ?ml1_2 ?mc1_2 ?mk1_2 ?ma1_3 ?mi1_3 ?ml1_3 ?mc1_3 ?mk1_3 ?ma1_4 ?mi1_4 ?ml1_4 ?mc1_4 ?mk1_4 ?pg1 ?hd1 ?po1 ?sa1 ?mks1 ?kc1 ?na1_0 ?na1_1 ?na1_2 ?htab ?hrec
    (case a1 => k_is); (case l1 => k_is); (case c1 => k_is); (case k1 => k_is); (case a2 => k_is); (case l2 => k_is); (case c2 => k_is); (case k2 => k_is); (case a3 => k_is); (case l3 => k_is); (case c3 => k_is); (case k3 => k_is); (case a4 => k_is); (case l4 => k_is); (case c4 => k_is); (case k4 => k_is); (case a5 => k_is); (case l5 => k_is); (case c5 => k_is); (case k5 => k_is); (case a6 => k_is); (case l6 => k_is); (case c6 => k_is); (case k6 => k_is); (case a7 => k_is); (case l7 => k_is); (case c7 => k_is); (case k7 => k_is); (case a8 => k_is); (case l8 => k_is); (case c8 => k_is); (case k8 => k_is); (case a9 => k_is); (case l9 => k_is); (case c9 => k_is); (case k9 => k_is); (case a10 => k_is); (case l10 => k_is); (case c10 => k_is); (case k10 => k_is); (case a11 => k_is); (case l11 => k_is); (case c11 => k_is); (case k11 => k_is); (case a12 => k_is); (case l12 => k_is); (case c12 => k_is); (case k12 => k_is); (case a13 => k_is); (case l13 => k_is); (case c13 => k_is); (case k13 => k_is); (case a14 => k_is); (case l14 => k_is); (case c14 => k_is); (case k14 => k_is); (case a15 => k_is); (case l15 => k_is); (case c15 => k_is); (case k15 => k_is); (case a16 => k_is); (case l16 => k_is); (case c16 => k_is); (case k16 => k_is); (case a17 => k_is); (case l17 => k_is); (case c17 => k_is); (case k17 => k_is); (case a18 => k_is); (case l18 => k_is); (case c18 => k_is); (case k18 => k_is); (case a19 => k_is); (case l19 => k_is); (case c19 => k_is); (case k19 => k_is); (case a20 => k_is); (case l20 => k_is); (case c20 => k_is); (case k20 => k_is); (case a21 => k_is); (case l21 => k_is); (case c21 => k_is); (case k21 => k_is); (case a22 => k_is); (case l22 => k_is); (case c22 => k_is); (case k22 => k_is); (case a23 => k_is); (case l23 => k_is); (case c23 => k_is); (case k23 => k_is); (case a24 => k_is); (case l24 => k_is); (case c24 => k_is); (case k24 => k_is); (case a25 => k_is); (case l25 => k_is); (case c25 => k_is); (case k25 => k_is); (case a26 => k_is); (case l26 => k_is); (case c26 => k_is); (case k26 => k_is); (case a27 => k_is); (case l27 => k_is); (case c27 => k_is); (case k27 => k_is); (case a28 => k_is); (case l28 => k_is); (case c28 => k_is); (case k28 => k_is); (case a29 => k_is); (case l29 => k_is); (case c29 => k_is); (case k29 => k_is); (case a30 => k_is); (case l30 => k_is); (case c30 => k_is); (case k30 => k_is); (case a31 => k_is); (case l31 => k_is); (case c31 => k_is); (case k31 => k_is); (case a32 => k_is); (case l32 => k_is); (case c32 => k_is); (case k32 => k_is); (case z1 => k_is); (case z2 => k_is); (case z3 => k_is); (case z4 => k_is); (case z5 => k_is); (case z6 => k_is); (case z7 => k_is); (case z8 => k_is); (case z9 => k_is); (case z10 => k_is); (case z11 => k_is); (case z12 => k_is); (case z13 => k_is); (case z14 => k_is); (case z15 => k_is); (case z16 => k_is); (case z17 => k_is); (case z18 => k_is); (case aC1 => k_is); (case ma1_0 => k_is); (case mi1_0 => k_is); (case ml1_0 => k_is); (case mc1_0 => k_is); (case mk1_0 => k_is); (case ma1_1 => k_is); (case mi1_1 => k_is); (case ml1_1 => k_is); (case mc1_1 => k_is); (case mk1_1 => k_is); (case ma1_2 => k_is); (case mi1_2 => k_is); (case ml1_2 => k_is); (case mc1_2 => k_is); (case mk1_2 => k_is); (case ma1_3 => k_is); (case mi1_3 => k_is); (case ml1_3 => k_is); (case mc1_3 => k_is); (case mk1_3 => k_is); (case ma1_4 => k_is); (case mi1_4 => k_is); (case ml1_4 => k_is); (case mc1_4 => k_is); (case mk1_4 => k_is); (case pg1 => k_is); (case hd1 => k_is); (case po1 => k_is); (case sa1 => k_is); (case mks1 => k_is); (case kc1 => k_is); (case na1_0 => k_is); (case na1_1 => k_is); (case na1_2 => k_is); (case htab => kernel_rfl); (case hrec => rfl)
