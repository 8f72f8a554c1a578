import PyProof.Rows.All
import Wide.All
import OpenK.AllK
import Wide.FinOn
import HandS.ForMost
import HandS.WordsExc
import HandS.HeadEnd
import HandS.MakeKwOnly
import HandS.HeadNt
import HandS.ExcOwn
import HandS.ExcCtx
import HandS.ExcInit
import HandS.ExcIs
import HandS.ExcField
import KE.KExcIs
import HandS.Head0
import HandS.Head1
import HandS.Head2
import HandS.HeadHook1
import HandS.HeadHook2
import KE.KExcInit
import PyProof.ExcBaseAll.LookupError
import HandS.ExcValue
import HandS.IsInst
import HandS.Wide
import HandS.More
import HandS.StrMore
import PyProof.ReprRoads
import PyProof.StrLawsRepr
import PyProof.FitsInt
import Flt.Len
import HandS.Conv
import HandS.Sort
import KE.KDictList
import HandS.Dict
import HandS.List
import HandS.Comp
import HandS.Walk
import HandS.Iter
import PyProof.StrBlock2
import PyProof.Rows.FactsExc_KeyError
import HandS.HeadHook3
import PySem.Challenge.RW_greatrows_k02_refusals_apart
set_option Elab.async false
set_option linter.all false
set_option maxRecDepth 100000
set_option maxHeartbeats 0
/-! A def's promise where no repr is under way around the call. -/
namespace Gr
open PySem PySem.Spec PyProof.Rows L2

/-- as a promise, but asked only where nothing is being shown around it -/
structure FnQ (P : Program) (w : World) (K : PySem.W.Frag) (mg : Str → Option Value) (base : Heap) (CX : CXT) (k : Nat) (f : Addr) (fd : FuncData) (ps : List Str) (sp : Sp) : Prop where
  arity : ∀ vs H Q E, sp vs H Q E → vs.length = ps.length
  goes : ∀ (A : Around) (out : List Env) (s : Shared) (H : Hp) (as : Args) (us : List Value) (vs : List V) (Q : VK) (E : XK),
    A.guards = some [] → Room k A → Env0 P w K mg base A out s H → BindsTo s fd as (ps.zip us) → Vals vs us → sp vs H Q E →
    codeAny (model P w) A (.call (.ref f) as) (CR CX out P w H s Q E) s

theorem FnQ.of {P : Program} {w : World} {K : PySem.W.Frag} {mg : Str → Option Value} {base : Heap} {CX : CXT} {k : Nat} {f : Addr} {fd : FuncData} {ps : List Str} {sp : Sp}
    (F : FnOk P w K mg base CX k f fd ps sp) : FnQ P w K mg base CX k f fd ps sp :=
  ⟨F.len, fun A out s H as us vs Q E _ => F.run A out s H as us vs Q E⟩

theorem guards_in {A : Around} {env : Env} (h : A.guards = some []) : (A.deeper env).guards = some [] := by
  first
    | exact h
    | simpa [Around.deeper] using h

/-- a def by its body -/
theorem q_of {CX : CXT} {P : Program} {w : World} {K : PySem.W.Frag} {mg : Str → Option Value} {base : Heap} {k : Nat} {f : Addr} {name qual : Str} {params : Arguments} {body : List Stmt} {sc : Scope} {dV kV doc pm cdv ct oc : Value} {an od : Option Addr}
    {osl : Array (Option Value)} {N ps : List Str} {sp : Sp}
    (lk : K.lookup f = some ⟨oc, od, .func (PySem.W.fnOf name qual params body sc dV kV doc pm an cdv ct), osl⟩) (hcd : PySem.W.codeIn K cdv qual = true) (S : FnScope N ps sc)
    (ar : ∀ vs H Q E, sp vs H Q E → vs.length = ps.length)
    (hb : ∀ (A : Around) (out : List Env) (s : Shared) (H : Hp) (vs : List V) (Q : VK) (E : XK), A.guards = some [] → Room k (A.deeper (envOfC qual sc s.heap.objs.size f cdv)) → sp vs H Q E →
      ∃ t, PSs (cxOf CX P w K mg base N qual sc f cdv A out s H E) body t ∧ t { nx := fun _ G => Q .non G, rt := Q } (start N vs) H) :
    FnQ P w K mg base CX (k + 1) f (PySem.W.fnOf name qual params body sc dV kV doc pm an cdv ct) ps sp := by
  refine ⟨ar, ?_⟩
  intro A out s H as us vs Q E hg hr e0 bind rel pre
  have same : ∀ b o, base.get? b = some o → s.heap.get? b = some o := fun b o e => (e0.bs b o e).1
  have kinds : ∀ y ∈ ps.zip us, sc.names.lookup y.1 = some .local ∨ (sc.names.lookup y.1 = some .cell ∧ ((cellsFrom (s.heap.objs.size + 1) sc.names []).lookup y.1).isSome = true) := by
    rintro ⟨n, v⟩ hy
    cases S.par n (List.of_mem_zip hy).1 with
    | inl q => exact .inl q
    | inr q => exact .inr ⟨q, PySem.W.cellsFrom_some _ _ _ (.inl q)⟩
  refine codeAny_call_function hr.depth (e0.mod.kin.keeps same _ _ lk) rfl S.co S.gen rfl (PySem.W.codeRec_of (e0.mod.kin.keeps same) hcd) (bind _ _ _ _ ?_)
  refine wpAny_newFunctionEnv_cells S.kind kinds fun env he s1 x => ?_
  subst he
  refine ⟨(e0.mod.nolimit.keeps same).keeps x.toInCall.keep, codeAny_func ?_⟩
  obtain ⟨t, ht, hq⟩ := hb A out s H vs Q E hg (hr.deeper _) pre
  have I0 := inv_start (CX := CX) (K := K) (mg := mg) (base := base) (E := E) S hr.hd e0 (ar _ _ _ _ pre) rel x
  refine wpAny_mono (ht.run [] s1 (start N vs) H _ I0 hq) ?_ fun e s' z => z
  intro fl s' z
  match fl, z with
  | .ret u, ⟨v, τ, G, J, r, q⟩ => exact ⟨v, G, J.os, J.bare, J.base, J.hok, r, q⟩
  | .next, ⟨τ, G, J, q⟩ => exact ⟨.non, G, J.os, J.bare, J.base, J.hok, rfl, q⟩
  | .brk, ⟨_, _, _, q⟩ => exact q.elim
  | .cont, ⟨_, _, _, q⟩ => exact q.elim

/-- a def of the text, no exception leaves it -/
theorem fun_q {P : Program} {w : World} {K : PySem.W.Frag} {mg : Str → Option Value} {base : Heap} {x qual : Str} {st : Stmt} {f : Addr} {fd : FuncData} {N ps : List Str} {k : Nat} {sp : Sp}
    (F : Fun K x qual st f fd) (S : FnScope N ps (defScope st)) (ar : ∀ vs H Q E, sp vs H Q E → vs.length = ps.length)
    (hb : ∀ (cdv : Value) (A : Around) (out : List Env) (s : Shared) (H : Hp) (vs : List V) (Q : VK) (E : XK), A.guards = some [] → Room k (A.deeper (envOfC qual (defScope st) s.heap.objs.size f cdv)) → sp vs H Q E →
      ∃ t, PSs (cxOf CX0 P w K mg base N qual (defScope st) f cdv A out s H E).nox (defBody st) t ∧ t { nx := fun _ G => Q .non G, rt := Q } (start N vs) H) :
    FnQ P w K mg base CX0 (k + 1) f fd ps sp := by
  obtain ⟨oc, od, kV, doc, pm, an, cdv, ct, osl, rfl, lk, hcd⟩ := F.ex
  refine q_of lk hcd S ar ?_
  intro A out s H vs Q E hg hr pre
  obtain ⟨t, h, q⟩ := hb cdv A out s H vs Q E hg hr pre
  exact ⟨t, h.nox, q⟩

section
variable {X : Cx} {CX : CXT} {k : Nat} {f : Addr} {fd : FuncData} {ps : List Str} {sp : Sp} {dvs : List V} {ds : List Value} {E : XK} {x : Str} {p pos : Pos} {e : Expr} {es : List Expr} {t : TA}
/-- f(e, ..) for such a def -/
theorem pe_callQ (F : FnQ X.prog X.w X.K X.mg X.base CX k f fd ps sp) (hg : X.A.guards = some []) (hr : Room k X.A) (gl : Gl X x) (hm : X.mg x = some (.ref f)) (hk : PySem.W.keepIn X.K (.ref f) = true) (hb : Binds X.K fd ps ds) (hd : Vals dvs ds) (hx : Passes CX X E)
    (ha : PA X (e :: es) t) (hdb : (x == ("__debug__" : Str)) = false := by decide) (he : starEach (e :: es) X.env = (false, eval e X.env) :: starEach es X.env := by rfl) (hpl : (backTo pos (starEach es X.env)).any (·.1) = false := by rfl) :
    PE X (.Call (.Name x p) (e :: es) [] pos) (tCall sp dvs E t) := by
  constructor
  intro pins s σ H Q I h
  refine wpAny_Call_Name_kw (ld_glob I gl hm ?_ hdb)
  refine PySem.W.callWith_K (h₀ := X.base) I.ok.mod.kin hk (thn (ha.run pos pins s σ H _ I h) ?_) he hpl
  rintro us s1 ⟨vs, H1, J, r, q⟩
  refine ⟨J.kIn, ?_⟩
  have rr : Vals (vs ++ dvs) (us ++ ds) := r.append hd
  have hl : (us ++ ds).length = ps.length := rr.length.symm.trans (F.arity _ _ _ _ q)
  refine wpAny_call (codeAny_mono (F.goes X.A X.stack s1 H1 ⟨us, []⟩ (us ++ ds) (vs ++ dvs) Q E hg hr J.env0 (hb s1 us J.kIn hl) rr q) ?_)
  intro res s' z
  match res, z with
  | .error ex, z => exact hx pins σ H1 s1 ex s' J z
  | .ok (.ret u), z => exact J.after z
  | .ok .next, z => exact z.elim
  | .ok .brk, z => exact z.elim
  | .ok .cont, z => exact z.elim
end

/-- from an abstract heap that tracks the script at most -/
theorem law_core {P : Program} {w : World} {K : PySem.W.Frag} {mg mb : Str → Option Value} {CX : CXT} {k : Nat} {fa a : Addr} {fd : FuncData} {x : Str} {sp : Sp} {s₁ : Shared} {vs : List Value}
    (KX : K.In s₁.heap) (hns : s₁.heap.Ns mainGlobals mg) (hb : s₁.heap.Ns builtinsNs mb) (hbb : ∀ x : Str, x ≠ "__name__" → mb x = bootBuiltins x) (hlim : s₁.heap.NoLimit) (gens : s₁.gens = #[])
    (ha : s₁.heap.get? a = some { cls := .type "list", data := .seq vs.toArray }) (room : Room k callerA)
    (F : ∀ base : Heap, K.In base → base.Ns mainGlobals mg → FnQ P w K mg base CX k fa fd [x] sp) (bind : ∀ (s : Shared) (u : Value), BindsTo s fd ⟨[u], []⟩ [(x, u)])
    (hCX : ∀ H e s', CX [] H s₁ (fun _ _ _ => False) e s' → False)
    (H : Hp) (only : Only H) (hok : HOk P w H s₁.heap) (at_ : ∀ b, H b ≠ none → b = a) (nk : H a ≠ none → K.lookup a = none)
    (pre : sp [.ref a] H (fun v _ => v = .bl true) fun _ _ _ => False) :
    codeAny (model P w) callerA (.call (.ref fa) ⟨[.ref a], []⟩) (fun r s' => r = .ok (.ret (.bool true)) ∧ OldK s₁.heap s'.heap ∧ s'.os = s₁.os ∧ AllBare s'.gens) s₁ := by
  have dictFree : ∀ (b : Addr) (o : Obj) (es : Array DictEntry) (ep : Nat), s₁.heap.get? b = some o → o.data = .dict es ep → H b = none := by
    intro b o es ep e d
    refine Classical.byContradiction fun nn => ?_
    have eb := at_ b nn
    rw [eb, ha] at e
    rw [← Option.some.inj e] at d
    exact nomatch d
  have nsB : ∀ (b : Addr) (m : Str → Option Value), s₁.heap.Ns b m → (hidT s₁.heap H).Ns b m := by
    rintro b m ⟨o, es, ep, e, d, r⟩
    exact ⟨o, es, ep, hidT_get e (dictFree b o es ep e d), d, r⟩
  have kB : K.In (hidT s₁.heap H) := by
    intro b o e
    refine hidT_get (KX b o e) (Classical.byContradiction fun nn => ?_)
    have eb := at_ b nn
    rw [eb] at nn e
    rw [nk nn] at e
    exact nomatch e
  obtain ⟨mc, l1, l2⟩ := hlim
  have md : Mod K mg (hidT s₁.heap H) := ⟨kB, nsB _ _ hns, ⟨mb, nsB _ _ hb, hbb⟩, ⟨mc, nsB _ _ l1, l2⟩⟩
  have e0 : Env0 P w K mg (hidT s₁.heap H) callerA [] s₁ H := by
    refine ⟨rfl, md, fun b o e => of_hidT e, Nat.le_of_eq (hidT_size _ _), trivial, ?_, hok, .of_eq gens⟩
    intro b z
    exact absurd (show b ∈ ([] : List Addr) from z) (by simp)
  refine codeAny_mono ((F _ kB (nsB _ _ hns)).goes callerA [] s₁ H ⟨[.ref a], []⟩ [.ref a] [.ref a] _ _ rfl room e0 (bind s₁ (.ref a)) (.cons rfl .nil) pre) ?_
  intro res s' z
  match res, z with
  | .error e, z => exact (hCX H e s' z).elim
  | .ok .next, z => exact z.elim
  | .ok .brk, z => exact z.elim
  | .ok .cont, z => exact z.elim
  | .ok (.ret u), ⟨v, G, os, bare, un, hokG, r, q⟩ =>
    have qv : v = .bl true := q
    rw [qv] at r
    obtain rfl : u = Value.bool true := r
    refine ⟨rfl, OldK.of_keep ?_, os, bare⟩
    intro b o e
    cases hb0 : H b with
    | none => exact un.keep b o e hb0 (by intro z; exact absurd (show b ∈ ([] : List Addr) from z) (by simp)) (by simp)
    | some u =>
      rcases only b with z | ⟨ob, xs, z⟩
      · rw [hb0] at z
        exact nomatch z
      · have o1 := (hok b _ z).1
        have o2 := (hokG b _ (un.frzs b ob _ z)).1
        rw [e] at o1
        rw [Option.some.inj o1]
        exact o2

/-- a law's end over a head by facts, its def a FnQ -/
theorem walkQ {l : PySem.W.OpenLaw} {n k : Nat} {q : Program} {loose : List Str} {XP : (Str → Option Value) → Heap → Prop} {YP : World → Heap → Prop} {d : DefRec} {CX : CXT} {x : Str}
    (hn : l.most = some n) (hn2 : n ≤ sizeLine) (hdf : d.params.defaults = []) (room : Room k callerA)
    (F : ∀ (w : World) (mg : Str → Option Value) (fa : Addr) (h : Heap), YP w h → h.Ns mainGlobals mg → mg d.name = some (.ref fa) →
      ∃ (K : PySem.W.Frag) (fd : FuncData) (sp : Sp), K.In h ∧ (∀ (s : Shared) (u : Value), BindsTo s fd ⟨[u], []⟩ [(x, u)]) ∧
        (∀ (H : Hp) (a : Addr) (ns : List Int), ns.length ≤ n → Only H → SqL K H a (ns.map V.int) → sp [.ref a] H (fun v _ => v = .bl true) fun _ _ _ => False) ∧
        ∀ base : Heap, K.In base → base.Ns mainGlobals mg → FnQ l.prog w K mg base CX k fa fd [x] sp)
    (hCX : ∀ (H : Hp) (s : Shared) (e : Value) (s' : Shared), CX [] H s (fun _ _ _ => False) e s' → False) :
    PySem.W.WalkO q loose XP YP l.row.toRowW d [] (fun f vs => PySem.call f vs) := by
  refine Att.attach_call hn hdf ?_
  intro w s₀ s₁ mg mb fa o pm cd doc a vs ns G Y ho hd hcd hmg hobj hints hlen hg
  obtain ⟨K, fd, sp, KX, bind, pre, hF⟩ := F w mg fa _ Y G.T.g hmg
  have rel := vals_ints hints
  have len := hints.length
  have small : (ns.map V.int).length ≤ sizeLine := by rw [List.length_map]; exact Nat.le_trans hlen hn2
  have go := law_core KX G.T.g G.T.b G.T.builtins G.T.nolimit hg hobj room hF bind fun H e s' => hCX H s₁ e s'
  cases hk : K.lookup a with
  | some ob =>
    have eo := KX a ob hk
    rw [hobj] at eo
    have eo' := Option.some.inj eo
    subst eo'
    have nothing : ∀ b : Addr, (fun _ => none : Hp) b = none := fun _ => rfl
    refine go (fun _ => none) (fun _ => .inl rfl) (fun b u z => nomatch (show (none : Option HO) = some u from z)) (fun b z => absurd (nothing b) z) (fun z => absurd (nothing a) z) ?_
    refine pre _ a ns hlen (fun _ => .inl rfl) (.inr ⟨_, vs.toArray, _, hk, rfl, rfl, rfl, ?_, by simpa using rel⟩)
    rw [List.size_toArray, len]
    exact Nat.le_trans hlen hn2
  | none =>
    let frz : HO := .frz { cls := .type "list", data := .seq vs.toArray } (.lst (ns.map V.int))
    let H : Hp := upd (fun _ => none) a frz
    have ha : H a = some frz := upd_same
    have hne : ∀ b, b ≠ a → H b = none := fun b z => upd_ne z
    have only : Only H := fun b => by
      by_cases z : b = a
      · exact .inr ⟨_, _, by rw [z]; exact ha⟩
      · exact .inl (hne b z)
    refine go H only ?_ (fun b z => Classical.byContradiction fun nn => z (hne b nn)) (fun _ => hk) (pre H a ns hlen only (.inl (.inr ⟨_, ha⟩)))
    intro b u z
    by_cases eb : b = a
    · rw [eb] at z ⊢
      rw [ha] at z
      rw [← Option.some.inj z]
      exact ⟨hobj, small, vs, _, rel, hobj⟩
    · rw [hne b eb] at z
      exact nomatch z
end Gr
/-! f(k = v, ..), a def of the text, nothing by place. -/
namespace Gr
open PySem PySem.Spec PyProof.Rows L2
def tCallN0 (m : Nat) (sp : Sp) (gV : List V → List V → List V) (E : XK) (tk : TA) : TE := fun σ H Q => tk σ H fun zs G => zs.length = m ∧ sp (gV [] zs) G Q E
theorem pe_callN0 {X : Cx} {CX : CXT} {k : Nat} {f : Addr} {fd : FuncData} {ps ks : List Str} {sp : Sp} {E : XK} {x : Str} {p pos : Pos} {kws : List Keyword} {tk : TA} {g : List Value → List Value → List Value} {gV : List V → List V → List V}
    (F : FnOk X.prog X.w X.K X.mg X.base CX k f fd ps sp) (hr : Room k X.A) (gl : Gl X x) (at_ : X.mg x = some (.ref f)) (kp : PySem.W.keepIn X.K (.ref f) = true) (b : KBn X.K fd ps 0 ks g gV) (px : Passes CX X E) (pk : PK X kws tk)
    (all : (backToKw pos (keywordEach kws X.env)).all (·.1.isSome) = true := by rfl) (named : (backToKw pos (keywordEach kws X.env)).filterMap (·.1) = ks := by rfl) (nd : (x == ("__debug__" : Str)) = false := by decide)
    (plain : ((backTo pos (starEach [] X.env)).any (·.1) || (backToKw pos (keywordEach kws X.env)).any (·.1.isNone)) = false := by rfl) :
    PE X (.Call (.Name x p) [] kws pos) (tCallN0 ks.length sp gV E tk) := by
  constructor
  intro pins s σ H Q I h
  refine wpAny_Call_Name_kw (ld_glob I gl at_ ?_ nd)
  refine PySem.W.callWith_KW0 (h₀ := X.base) I.ok.mod.kin kp all (thn (pk.run pos pins s σ H _ I h) ?_) plain
  rintro ws s1 ⟨zs, G, J, rz, len, q⟩
  refine ⟨J.kIn, ?_⟩
  rw [named]
  exact run_fnN (us := []) (vs := []) F hr b px J .nil rz rfl len q
/-- for a promise that is asked where nothing is being shown -/
theorem run_fnNQ {X : Cx} {CX : CXT} {k n : Nat} {f : Addr} {fd : FuncData} {ps ks : List Str} {sp : Sp} {E : XK} {g : List Value → List Value → List Value} {gV : List V → List V → List V} {K : PySem.W.Frag}
    (F : FunD K "x" "x" default [] default [] [] f fd) : True := trivial
end Gr
/-! try: .. except T as n: .. else: .., the exception's context told to the suite. -/
namespace L2N
open PySem PySem.Spec PyProof.Rows L2
section
variable {Y : Cx} {tn nm : Str} {tv : Value} {j : Nat} {bd su els : List Stmt} {s0 : Stmt} {np ps hp : Pos} {tb : WX → TS} {ts : Addr → Value → Option Addr → TS} {out : WX} {u : TS}
/-- an exception that stands in flight is no frame's -/
theorem gr_noframe {B : Heap} {a : Addr} {envs : List Env} {g : Heap} {o : Obj} {vs : Array Value} (ff : g.FunFrames B envs) (at_ : g.get? a = some o) (d : o.data = .fields vs) : a ∉ frs envs := by
  intro m
  obtain ⟨_, o2, e2, no⟩ := ff.mem m
  rw [at_] at e2
  cases e2
  exact no _ d
/-- what the suite leaves, behind it the name is gone -/
theorem gr_behind {pl : List (Addr × Obj)} {a : Addr} {oe : Obj} {D : Ends} {f : Flow} {s6 : Shared} (ok : Y.Ok) (hN : Y.N.Nodup) (hj : Y.N[j]? = some nm) (loc : Y.env.kindOf nm = some .local)
    (h : SP (Y.suite a ((a, oe) :: (Y.pn ++ pl))) [] { nx := fun σ G => D.nx (σ.set j none) G, rt := fun v G => D.rt v G, bk := fun σ G => D.bk (σ.set j none) G, ct := fun σ G => D.ct (σ.set j none) G } f s6) :
    wpAny (model Y.prog Y.w) Y.A (do bindName Y.env nm .none; unbindBehindTheSuite Y.env nm hp) (fun _ s7 => SP Y pl D f s7) Y.xe s6 := by
  cases f with
  | next =>
    obtain ⟨σ6, G6, S6, q⟩ := h
    exact gone_ok (S6.unsuite ok) hN hj loc fun s7 J => ⟨_, _, J, q⟩
  | brk =>
    obtain ⟨σ6, G6, S6, q⟩ := h
    exact gone_ok (S6.unsuite ok) hN hj loc fun s7 J => ⟨_, _, J, q⟩
  | cont =>
    obtain ⟨σ6, G6, S6, q⟩ := h
    exact gone_ok (S6.unsuite ok) hN hj loc fun s7 J => ⟨_, _, J, q⟩
  | ret r =>
    obtain ⟨v6, σ6, G6, S6, rv, q⟩ := h
    exact gone_ok (S6.unsuite ok) hN hj loc fun s7 J => ⟨_, _, _, J, rv, q⟩
/-- the way of what the body lets out: the clause that takes it, or on -/
theorem gr_caught {pl : List (Addr × Obj)} {D : Ends} {e : Value} {sh : Shared} (ok : Y.Ok) (st : Y.stack = Y.env :: Y.outer) (fr : Y.env.frame = some Y.env.locals) (hN : Y.N.Nodup) (hj : Y.N[j]? = some nm) (loc : Y.env.kindOf nm = some .local) (hc : Names Y tn tv) (tk : Takes Y out)
    (hsu : ∀ (a : Addr) (oe : Obj) (cls : Value) (d : Option Addr) (pn : List (Addr × Obj)), Zn cls d oe → (∃ vs, oe.data = .fields vs) → PSs (Y.suite a ((a, oe) :: pn)) (s0 :: su) (ts a cls d)) {xe : Value → Shared → Prop}
    (h : XE (Y.tr (Y.pn ++ pl) xe) (wAs Y.K tv j ts out D) e sh) :
    wpAny (model Y.prog Y.w) Y.A (noteFrame e Y.env) (fun _ s₂ => wpAny (model Y.prog Y.w) Y.A (setFlight e none) (fun _ s₃ =>
      wpAny (model Y.prog Y.w) Y.A (handleBy e Y.env [.ExceptHandler (some (.Name tn np)) (some nm) (s0 :: su) hp]) (SP Y pl D) Y.xe s₃) Y.xe s₂) Y.xe sh := by
  have frames : Y.A.frames = some (Y.env :: Y.outer) := by rw [ok.frames, st]
  obtain ⟨x, B, t0, pl', σ, G, kl, dd, rfl, I0, below, upto, sky, free, os, bare, yes, take, inn, past⟩ := h
  have I1 : Inv Y pl σ G t0 := I0.ofTry ok
  have sky1 : Sky B (Y.env :: Y.outer) x (Zn kl dd) Y.env.locals sh.heap := by
    rw [← st]
    exact sky
  refine Sky.land Zn.steady frames fr sky1 ?_
  intro g1 fly1 up1
  have I2 : Inv Y pl σ G { sh with heap := g1 } := I1.landed below fly1.1 (upto.trans up1) os bare
  obtain ⟨o1, v1, at1, zn1, dat1⟩ := fly1.there
  have outF := gr_noframe fly1.2.2.1 at1 dat1
  have notL : x ≠ Y.env.locals := by
    intro z
    exact outF (List.mem_filterMap.mpr ⟨Y.env, List.mem_cons_self, by rw [fr, z]⟩)
  have notF : x ∉ Y.fs := by
    intro m
    obtain ⟨en, hen, q⟩ := List.mem_filterMap.mp m
    exact outF (List.mem_filterMap.mpr ⟨en, List.mem_cons_of_mem _ hen, q⟩)
  have I3 := I2.suite at1 dat1 free notL notF
  refine wpAny_handleBy_cons (codeAny_handlers_test ?_) (by intro q; cases q)
  have kind : PySem.W.Looks (model Y.prog Y.w) g1 (typeOf (.ref x)) kl := by
    intro A Q E s k q
    refine wpAny_typeOf_ref (k _ _ at1) ?_
    rw [zn1.1]
    exact q
  have asked := PySem.W.exm_one (M := model Y.prog Y.w) I2.kIn kind take
  have clause : ∀ {Q : Value → Shared → Prop} {E : Value → Shared → Prop}, Q tv { sh with heap := g1 } → wpAny (model Y.prog Y.w) (Y.A.mark (some (.ref x))) (eval (.Name tn np) Y.env) Q E { sh with heap := g1 } := by
    intro Q E q
    obtain ⟨gl, nd, own | ⟨own, boot, nn⟩⟩ := hc
    · exact ld_glob (X := Y.suite x ((x, o1) :: (Y.pn ++ pl))) I3 gl own q nd
    · exact ld_blt (X := Y.suite x ((x, o1) :: (Y.pn ++ pl))) I3 gl own boot q nn nd
  refine clause (asked.here ?_)
  cases yes with
  | true =>
    refine codeAny_handlers_suite_as (HandSPX.lands_againZ fly1 ?_)
    intro g2 fly2 up2
    have I4 : Inv Y pl σ G { sh with heap := g2 } := I1.landed below fly2.1 ((upto.trans up1).trans up2) os bare
    obtain ⟨o2, v2, at2, zn2, dat2⟩ := fly2.there
    have I5 := I4.suite at2 dat2 free notL notF
    refine store_ok (X := Y.suite x ((x, o2) :: (Y.pn ++ pl))) (v := .ref x) I5 hN hj (.inl loc) rfl ?_ (.inr loc)
    intro t5 I6
    exact wpAny_mono ((hsu x o2 kl dd (Y.pn ++ pl) zn2 ⟨_, dat2⟩).run [] t5 _ G _ I6 (inn rfl x free)) (fun f t6 r => gr_behind ok hN hj loc r) (fun _ _ z => z.elim)
  | false =>
    show wpAny _ Y.A (handleBy (.ref x) Y.env []) _ _ _
    refine wpAny_handleBy_nil ?_
    obtain ⟨_, _, _, o3, v3, T, oT, tt, at3, zn3, dat3, one3, _⟩ := id fly1
    unfold PySem.passOn
    refine wpAny_bind (wpAny_field at3 dat3 one3 ?_)
    rw [if_neg (show ¬ ((Value.ref T == Value.none) = true) by simp)]
    have on_ : wpAny (model Y.prog Y.w) Y.A (setFlight (.ref x) Y.env.frame) (fun _ t => wpAny (model Y.prog Y.w) Y.A (throw (.ref x) : Sem Flow) (SP Y pl D) Y.xe t) Y.xe { sh with heap := g1 } := by
      rw [fr]
      refine HandSPX.setFlight_upZ fly1 ?_
      intro g3 held up3
      refine wpAny_throw (tk _ _ ⟨x, B, t0, pl, σ, G, kl, dd, rfl, I1, below, (upto.trans up1).trans up3, .inr (.inr ?_), free, os, bare, past rfl⟩)
      rw [st]
      exact held
    first
      | exact wpAny_bind (wpAny_pure (wpAny_bind on_))
      | exact wpAny_bind on_
/-- the body, then what is to be behind it; an exception that it lets out goes to the suite, or on -/
def tTryE (K : PySem.W.Frag) (tv : Value) (j : Nat) (ts : Addr → Value → Option Addr → TS) (out : WX) (tb : WX → TS) (u : TS) : TS := fun D σ H => tb (wAs K tv j ts out D) { D with nx := u D } σ H
theorem gr_try_asE (st : Y.stack = Y.env :: Y.outer) (fr : Y.env.frame = some Y.env.locals) (hN : Y.N.Nodup) (hj : Y.N[j]? = some nm) (loc : Y.env.kindOf nm = some .local) (hc : Names Y tn tv) (tk : Takes Y out)
    (hb : ∀ (W : WX) (pn : List (Addr × Obj)) (xe : Value → Shared → Prop), Takes (Y.tr pn xe) W → PassesOwn (model Y.prog Y.w) Y.A Y.env xe → PSs (Y.tr pn xe) bd (tb W))
    (hsu : ∀ (a : Addr) (oe : Obj) (cls : Value) (d : Option Addr) (pn : List (Addr × Obj)), Zn cls d oe → (∃ vs, oe.data = .fields vs) → PSs (Y.suite a ((a, oe) :: pn)) (s0 :: su) (ts a cls d)) (ho : PSs Y els u) :
    PS Y (.Try bd [.ExceptHandler (some (.Name tn np)) (some nm) (s0 :: su) hp] els [] ps) (tTryE Y.K tv j ts out tb u) := by
  constructor
  intro pl sh σ H D I h
  have h : tb (wAs Y.K tv j ts out D) { D with nx := u D } σ H := h
  have ok := I.ok
  refine wpAny_Try_except ?_
  refine wpAny_mono ((hb (wAs Y.K tv j ts out D) (Y.pn ++ pl) _ (fun e s' xx => gr_caught ok st fr hN hj loc hc tk hsu xx) PassesOwn.looking).run [] sh σ H { D with nx := u D } (I.toTry _) h) ?_ (fun e s1 he => he)
  intro f s1 r
  cases f with
  | next =>
    obtain ⟨σ', G, J, q⟩ := r
    exact ho.run pl s1 σ' G D (J.ofTry ok) q
  | brk =>
    obtain ⟨σ', G, J, q⟩ := r
    exact ⟨σ', G, J.ofTry ok, q⟩
  | cont =>
    obtain ⟨σ', G, J, q⟩ := r
    exact ⟨σ', G, J.ofTry ok, q⟩
  | ret v =>
    obtain ⟨x, σ', G, J, rv, q⟩ := r
    exact ⟨x, σ', G, J.ofTry ok, rv, q⟩
end
end L2N
/-! An exception with a field, made and raised, its context told. -/
namespace L2N
open PySem PySem.Spec PyProof.Rows L2
theorem gr_mk {X : Cx} {CX : CXT} {x : Str} {C fI : Addr} {k : Nat} {fd : FuncData} {ps : List Str} {sp : Sp} {e : Expr} {es : List Expr} {ta : TA} {p pos : Pos} (T : OexC X.K C) (iC : PySem.W.findIn X.K (.ref C) "__init__" = some (some (.ref fI)))
    (tI : PySem.W.typeIn X.K (.ref fI) = some (.type "function")) (F1 : FnOk X.prog X.w X.K X.mg X.base CX k fI fd ps sp) (hr : Room (k + 1) X.A) (hb : Binds X.K fd ps []) (px : Passes CX X (fun _ _ _ => False)) (gl : Gl X x) (at_ : X.mg x = some (.ref C)) (ha : PA X (e :: es) ta)
    (nd : (x == ("__debug__" : Str)) = false := by decide) (he : starEach (e :: es) X.env = (false, eval e X.env) :: starEach es X.env := by rfl) (hpl : (backTo pos (starEach es X.env)).any (·.1) = false := by rfl) :
    PMk X (.Call (.Name x p) (e :: es) [] pos) (tMkO C sp [] ta) := by
  intro pl sh σ H Q I h
  obtain ⟨_, _, _, _, bm, _, _, _, _, _, _, _, _, _, _, hC, hbm⟩ := T.cls
  refine wpAny_Call_Name_kw (ld_glob I gl at_ ?_ nd)
  refine PySem.W.callWith_K (h₀ := X.base) I.ok.mod.kin T.kC (thn (ha.run pos pl sh σ H _ I h) ?_) he hpl
  rintro us s1 ⟨vs, G, J, rv, few, q⟩
  refine ⟨J.kIn, ?_⟩
  show wpAny _ _ (call (.ref C) us) _ _ _
  obtain ⟨hp, gs, dr, tk, os⟩ := s1
  generalize ea : hp.objs.size + 1 = a
  have lo : hp.objs.size ≤ a := by omega
  have free : G a = none := J.hok.fresh lo
  have q1 := q a free
  rw [List.append_nil] at q1
  generalize eh : (hp.push (PySem.W.kdv_tup us)).push (PySem.HandSPX.excO C hp.objs.size) = hp2
  have keep : ∀ b o, hp.get? b = some o → hp2.get? b = some o := by
    intro b o e
    rw [← eh]
    exact Heap.get?_push_of_some _ (Heap.get?_push_of_some _ e)
  have got : hp2.get? a = some (PySem.HandSPX.excO C hp.objs.size) := by
    rw [← eh, ← ea]
    heap_get
  have J2 : Inv X pl σ (upd G a (exo a C none)) ⟨hp2, gs, dr, tk, os⟩ := J.laid (t' := tk) (a := a) (o := exo a C none) (h' := hp2) keep lo (exo_ok got)
  have r2 : Vals (V.ref a :: vs) (Value.ref a :: us) := .cons rfl rv
  have len : (Value.ref a :: us ++ []).length = ps.length := by
    rw [List.append_nil, ← r2.length]
    exact F1.len _ _ _ _ q1
  have b2 := hb ⟨hp2, gs, dr, tk, os⟩ (Value.ref a :: us) J2.kIn len
  rw [List.append_nil] at b2
  have small : us.length ≤ sizeLine := by
    rw [← rv.length, sizeLine_eq]
    omega
  have fin : codeAny (model X.prog X.w) (X.A.under (.builtin "type.__call__" ⟨.ref C :: us, []⟩)) (.call (.ref fI) ⟨Value.ref a :: us, []⟩) _ ⟨hp2, gs, dr, tk, os⟩ :=
    F1.run (X.A.under (.builtin "type.__call__" ⟨.ref C :: us, []⟩)) X.stack ⟨hp2, gs, dr, tk, os⟩ _ ⟨Value.ref a :: us, []⟩ (Value.ref a :: us) _ _ (fun _ _ _ => False) (hr.make C us []) (J2.env0.make C us []) b2 r2 q1
  subst ea eh
  refine wpAny_call (PySem.HandSPX.call_own F.excBase_ValueError (fun Y => PySem.HandSPX.refsVE_contains Y bm hbm) (J.kIn _ _ hC) (PySem.W.looks_findIn J.kIn iC) (fun self => PySem.W.bind_fn J.kIn self tI) small (codeAny_mono fin ?_))
  intro r s' z
  match r, z with
  | .error er, z => exact px pl σ _ _ er s' J2 z
  | .ok .next, z => exact z.elim
  | .ok .brk, z => exact z.elim
  | .ok .cont, z => exact z.elim
  | .ok (.ret u), ⟨v, G2, eos, bare2, un2, hok2, rv2, ev, d, fs, e1, e2, e3, q2⟩ =>
    subst ev
    obtain ⟨h2, g2, d2, t2, os'⟩ := s'
    refine ⟨rv2, ?_⟩
    obtain ⟨t0, Z, J3, kZ, gone, here, free3⟩ := mk_end0 (d2 := d2) (t2 := t2) J lo keep un2 hok2 eos bare2 e1 e2 e3
    exact ⟨_, _, _, ⟨Z, g2, d2, t2, os'⟩, _, .ref C, some d, rfl, J3, kZ, gone, here, ⟨rfl, rfl, fun vs e => by cases e; rfl⟩, rfl, rfl, free3, rfl, bare2, raises_own T.exC T.tyC, q2⟩
end L2N
/-! f(k = v, ..) of a def that may raise. -/
namespace Gr
open PySem PySem.Spec PyProof.Rows L2
def tCallN0S (m : Nat) (sp : Sp) (gV : List V → List V → List V) (E : L2.St → XK) (tk : TA) : TE := fun σ H Q => tk σ H fun zs G => zs.length = m ∧ sp (gV [] zs) G Q (E σ)
theorem pe_callN0S {X : Cx} {CX : CXT} {k : Nat} {f : Addr} {fd : FuncData} {ps ks : List Str} {sp : Sp} {E : L2.St → XK} {x : Str} {p pos : Pos} {kws : List Keyword} {tk : TA} {g : List Value → List Value → List Value} {gV : List V → List V → List V}
    (F : FnOk X.prog X.w X.K X.mg X.base CX k f fd ps sp) (hr : Room k X.A) (gl : Gl X x) (at_ : X.mg x = some (.ref f)) (kp : PySem.W.keepIn X.K (.ref f) = true) (b : KBn X.K fd ps 0 ks g gV) (px : ∀ σ, PassesAt CX X σ (E σ)) (pk : PK X kws tk)
    (all : (backToKw pos (keywordEach kws X.env)).all (·.1.isSome) = true := by rfl) (named : (backToKw pos (keywordEach kws X.env)).filterMap (·.1) = ks := by rfl) (nd : (x == ("__debug__" : Str)) = false := by decide)
    (plain : ((backTo pos (starEach [] X.env)).any (·.1) || (backToKw pos (keywordEach kws X.env)).any (·.1.isNone)) = false := by rfl) :
    PE X (.Call (.Name x p) [] kws pos) (tCallN0S ks.length sp gV E tk) := by
  constructor
  intro pins s σ H Q I h
  refine wpAny_Call_Name_kw (ld_glob I gl at_ ?_ nd)
  refine PySem.W.callWith_KW0 (h₀ := X.base) I.ok.mod.kin kp all (thn (pk.run pos pins s σ H _ I h) ?_) plain
  rintro ws s1 ⟨zs, G, J, rz, len, q⟩
  refine ⟨J.kIn, ?_⟩
  rw [named]
  have to := b.to s1 [] ws J.kIn rfl (rz.length.symm.trans len)
  refine wpAny_call (codeAny_mono (F.run X.A X.stack s1 G ⟨[], ks.zip ws⟩ (g [] ws) (gV [] zs) Q (E σ) hr J.env0 to (b.rel .nil rz) q) ?_)
  intro r s' z
  match r, z with
  | .error er, z => exact px σ pins G s1 er s' J z
  | .ok (.ret u), z => exact J.after z
  | .ok .next, z => exact z.elim
  | .ok .brk, z => exact z.elim
  | .ok .cont, z => exact z.elim
end Gr
/-! isinstance(e, c), e the exception that the suite holds, with fields. -/
namespace Gr
open PySem PySem.Spec PyProof.Rows L2
theorem xf_of {K : PySem.W.Frag} {C : Addr} (c : ExcC K C) : XfC K C := ⟨c.hg, c.hk, c.hs, c.hd⟩
theorem cls_some {K : PySem.W.Frag} {C : Addr} (h : PySem.W.hasDictIn K C = true) : (PySem.W.clsIn K C).isSome = true := by
  unfold PySem.W.hasDictIn at h
  cases e : PySem.W.clsIn K C with
  | none => rw [e] at h; cases h
  | some c => rfl
def rIsEd (K : PySem.W.Frag) (C a : Addr) (cls : Value) (d : Option Addr) : List V → Hp → VK → Prop := fun xs H Q => ∃ (D : Addr) (dd : Addr) (fs : List (Str × V)) (b : Bool), xs = [.ref a, .ref D] ∧ cls = .ref C ∧ d = some dd ∧ H dd = some (.xd fs) ∧ PySem.W.kitOne K (.ref C) (.ref D) = some b ∧ Q (.bl b) H
theorem call_isEd {X : Cx} {a C : Addr} {oe : Obj} {cls : Value} {d : Option Addr} {pn : List (Addr × Obj)} (T : ExcC X.K C) (hz : Zc cls d oe) (hf : ∃ vs, oe.data = .fields vs) : CallR (X.suite a ((a, oe) :: pn)) (.builtin "isinstance") (rIsEd X.K C a cls d) := by
  intro pl sh σ H xs us Q I r h
  obtain ⟨D, dd, fs, b, rfl, rfl, rfl, hx, e, q⟩ := h
  obtain ⟨u1, u2, rfl, r1, r2⟩ := vals2 r
  cases r1
  cases r2
  obtain ⟨at_, _⟩ := I.pin (a, oe) (List.mem_append_left _ List.mem_cons_self)
  obtain ⟨vs, hd⟩ := hf
  have ok : ObjOk X.prog X.w H sh.heap dd (.xd fs) := I.hok dd _ hx
  obtain ⟨mA, ns, _⟩ := ok
  obtain ⟨od, ho, _⟩ := lookIn_ns ns
  have J : PySem.W.InstAt sh.heap a oe C (some od) := ⟨at_, hz.1, by unfold PySem.W.notCls; rw [hd] <;> rfl, by rw [hz.2]; exact ho⟩
  exact PySem.W.kia_one (PySem.W.kitx_exc (cls_some T.hd) T.hg T.hk T.hs T.ha T.hn T.ht T.hm) I.kIn J e (fun z => nomatch z) fun tk => ⟨.bl b, H, I.kept (t' := tk) fun _ _ z => z, rfl, q⟩
end Gr
/-! A head by facts, with facts of error classes that have fields. -/
namespace Gr
open PySem PySem.Spec PyProof.Rows L2
/-- as hookD, one check more -/
def hookG (n : Nat) (fa : List He.Fa) (fn : List He.DefD) (more : PySem.W.Frag → Bool) : PySem.W.Hook where
  α := He.AlD × Bool
  obs := fun s => (He.obsDG n fa fn s.heap.get?, more (He.frG s.heap.get? (He.asD s.heap.get? n)))
  val := fun _ => (He.valD fn, true)
  says := fun _ h => ∃ K : PySem.W.Frag, K.In h ∧ He.SaysD fa fn K ∧ more K = true
  of := fun _ _ e => ⟨_, He.frG_in, congrArg Prod.fst e, congrArg Prod.snd e⟩
  keeps := fun _ _ _ ⟨K, i, c, m⟩ k => ⟨K, PySem.W.Frag.In.keeps i k, c, m⟩
def obG (n : Nat) (fa : List He.Fa) (fn : List He.DefD) (more : PySem.W.Frag → Bool) (s : PySem.W.SharedT) : He.AlD × Bool := (He.obsDG n fa fn (HandSHeadRun.getT s), more (He.frG (HandSHeadRun.getT s) (He.asD (HandSHeadRun.getT s) n)))
theorem obG_eq {n : Nat} {fa : List He.Fa} {fn : List He.DefD} {more : PySem.W.Frag → Bool} (s : PySem.W.SharedT) : obG n fa fn more s = (hookG n fa fn more).obs s.abs := by
  have e : HandSHeadRun.getT s = s.abs.heap.get? := funext (HandSHeadRun.getT_eq s)
  unfold obG
  rw [e]
  all_goals rfl
/-- the class's line, behind itself, ends as ValueError's does -/
def lineB (K : PySem.W.Frag) (C : Addr) : Bool := match K.lookup C with
  | some ⟨_, _, .cls cd, _⟩ => (match cd.mro with
    | _ :: bm => PySem.HandSPX.refsVE bm
    | [] => false)
  | _ => false
def oexB (K : PySem.W.Frag) (C : Addr) : Bool := PySem.W.excInitIn K C He.veBase "ValueError.__new__" && (PySem.W.hasDictIn K C && (lineB K C && (He.eqO (PySem.W.findIn K (.ref C) "__setattr__") (some (some (.builtin "object.__setattr__"))) &&
  (decide (PySem.W.subIn K (.ref C) (.type "BaseException") = some true) && (decide (PySem.W.typeIn K (.ref C) = some (.type "type")) && PySem.W.keepIn K (.ref C))))))
theorem oexB_ok {K : PySem.W.Frag} {h : Heap} {C : Addr} (X : K.In h) (c : oexB K C = true) : OexC K C := by
  obtain ⟨c1, c⟩ := He.ba c
  obtain ⟨c2, c⟩ := He.ba c
  obtain ⟨c3, c⟩ := He.ba c
  obtain ⟨c4, c⟩ := He.ba c
  obtain ⟨c5, c⟩ := He.ba c
  obtain ⟨c6, c7⟩ := He.ba c
  obtain ⟨nm, N, qn, bs, bm, hdct, sn, sub, ab, col, dd, k0, k1, k2, k3, k5, at_, _⟩ := PySem.W.excInit_of X c1
  have there : ∃ o, K.lookup C = some o := by
    unfold PySem.W.excInitIn at c1
    cases e : K.lookup C with
    | none => rw [e] at c1; cases c1
    | some o => exact ⟨o, rfl⟩
  obtain ⟨o, e⟩ := there
  have eo := X C o e
  rw [at_] at eo
  obtain rfl := Option.some.inj eo
  have hd : hdct = true := by
    unfold PySem.W.hasDictIn PySem.W.clsIn at c2
    rw [e] at c2
    exact c2
  subst hd
  have line : PySem.HandSPX.refsVE bm = true := by
    unfold lineB at c3
    rw [e] at c3
    exact c3
  exact ⟨⟨nm, qn, N, bs, bm, sn, sub, ab, col, dd, k0, k1, k2, k3, k5, e, line⟩, He.eqO_ok c4, of_decide_eq_true c5, of_decide_eq_true c6, c7⟩
def excB (K : PySem.W.Frag) (C : Addr) : Bool := He.eqO (PySem.W.findIn K (.ref C) "__getattribute__") (some (some (.builtin "BaseException.__getattribute__"))) && (He.eqO (PySem.W.findIn K (.ref C) "__getattr__") (some none) &&
  (decide (PySem.W.subIn K (.ref C) (.type "BaseException") = some true) && (PySem.W.hasDictIn K C && (He.eqO (PySem.W.findIn K (.ref C) "__class__") (some (some (.builtin "object.__class__"))) &&
  (He.eqO (PySem.W.specialIn K (.builtin "object.__class__") "__get__") (some (some (.builtin "getset_descriptor.__get__"))) && (decide (PySem.W.takesIn K (.builtin "object.__class__") = some true) && decide (PySem.W.mroIn K C (.type "object") = some true)))))))
theorem excB_ok {K : PySem.W.Frag} {C : Addr} (c : excB K C = true) : ExcC K C := by
  obtain ⟨c1, c⟩ := He.ba c
  obtain ⟨c2, c⟩ := He.ba c
  obtain ⟨c3, c⟩ := He.ba c
  obtain ⟨c4, c⟩ := He.ba c
  obtain ⟨c5, c⟩ := He.ba c
  obtain ⟨c6, c⟩ := He.ba c
  obtain ⟨c7, c8⟩ := He.ba c
  exact ⟨He.eqO_ok c1, He.eqO_ok c2, of_decide_eq_true c3, c4, He.eqO_ok c5, He.eqO_ok c6, of_decide_eq_true c7, of_decide_eq_true c8⟩
/-- an error class with its own __init__, of a family -/
def errB (C D : Str) (f : Str) (K : PySem.W.Frag) : Bool := oexB K (He.ga K C) && (He.eqO (PySem.W.findIn K (.ref (He.ga K C)) "__init__") (some (some (.ref (He.ma K (He.ga K C) "__init__")))) && (decide (PySem.W.typeIn K (.ref (He.ma K (He.ga K C) "__init__")) = some (.type "function")) &&
  (He.eqO (PySem.W.findIn K (.ref (He.ga K C)) f) (some none) && (excB K (He.ga K C) && (decide (PySem.W.kitOne K (.ref (He.ga K C)) (.ref (He.ga K D)) = some true) && decide (PySem.W.exmOne K (.ref (He.ga K C)) (.ref (He.ga K C)) = some true))))))
structure ErrF (K : PySem.W.Frag) (C D f : Str) : Prop where
  ox : OexC K (He.ga K C)
  iC : PySem.W.findIn K (.ref (He.ga K C)) "__init__" = some (some (.ref (He.ma K (He.ga K C) "__init__")))
  tI : PySem.W.typeIn K (.ref (He.ma K (He.ga K C) "__init__")) = some (.type "function")
  no : PySem.W.findIn K (.ref (He.ga K C)) f = some none
  ex : ExcC K (He.ga K C)
  is : PySem.W.kitOne K (.ref (He.ga K C)) (.ref (He.ga K D)) = some true
  take : PySem.W.exmOne K (.ref (He.ga K C)) (.ref (He.ga K C)) = some true
theorem errB_ok {K : PySem.W.Frag} {h : Heap} {C D f : Str} (X : K.In h) (c : errB C D f K = true) : ErrF K C D f := by
  obtain ⟨c1, c⟩ := He.ba c
  obtain ⟨c2, c⟩ := He.ba c
  obtain ⟨c3, c⟩ := He.ba c
  obtain ⟨c4, c⟩ := He.ba c
  obtain ⟨c5, c⟩ := He.ba c
  obtain ⟨c6, c7⟩ := He.ba c
  exact ⟨oexB_ok X c1, He.eqO_ok c2, of_decide_eq_true c3, He.eqO_ok c4, excB_ok c5, of_decide_eq_true c6, of_decide_eq_true c7⟩
end Gr
/-! Own errors of any family (LookupError's, too): their first field is kept, they are made and raised. -/
namespace PySem.HandSPX
open PySem PySem.Spec PyProof.Rows
open Builtin Builtin.ObjectAttr
section
variable {prog : Program} {w : World} {A : Around} {hp : Heap} {g : Array GenState} {d : Drawn} {t : Nat} {os : OsState} {R : Result → Shared → Prop}
/-- the first field of an exception that is being made, whatever its family -/
theorem gr_osa {K : W.Frag} {f : Str} {ft : Tok} {v : Value} {e C : Addr} {vs : Array Value} {cd : ClassData} (X : K.In hp) (he : hp.get? e = some { cls := .ref C, data := .fields vs }) (hc : W.clsIn K C = some cd)
    (some_ : cd.mro.isEmpty = false) (ob : cd.mro.contains (.type "object") = true) (free : refuseLoop (.ref e) "__setattr__" cd.mro = pure ()) (dict_ : cd.hasDict = true) (no : W.findIn K (.ref C) f = some none)
    (q : ∀ G t2 x, (∀ b o, b ≠ e → hp.get? b = some o → G.get? b = some o) → hp.objs.size ≤ x → x ≠ e → G.get? e = some { cls := .ref C, dict := some x, data := .fields vs } →
      G.Ns1 x (fun y => if y = f then some v else none) → R (.ok (.ret .none)) ⟨G, g, d, t2, os⟩) :
    codeAny (model prog w) A (.call (.builtin "object.__setattr__") ⟨[.ref e, .str f ft, v], []⟩) R ⟨hp, g, d, t, os⟩ := by
  have J : W.InstAt hp e { cls := .ref C, data := .fields vs } C none := ⟨he, rfl, rfl, trivial⟩
  have S := F.store_object
  have ne : e ≠ hp.objs.size := Nat.ne_of_lt (Heap.lt_size he)
  have is : W.Looks (model prog w) hp (isInstance (.ref e) (.type "object")) true := by
    refine J.type.andThen (W.looks_mroIn X ?_)
    unfold W.mroIn
    rw [hc, Option.bind_some, if_neg (by rw [some_]; decide), ob]
  refine codeAny_call_builtin S.slot.plain S.entry (@W.check_slot (model prog w) _ _ ⟨hp, g, d, t, os⟩ "object.__setattr__" "object" "__setattr__" (.ref e) [.str f ft, v] [] _ S.kind S.split is (S.args _ _ _) ?_)
  have along : W.Looks (model prog w) hp (mroOf (.ref C)) cd.mro := W.Looks.andThen (W.looks_clsIn X hc) .now
  have told : W.Looks (model prog w) hp (classData C) cd := W.looks_clsIn X hc
  have none_ : W.Looks (model prog w) hp (storeTaker? none) none := W.Looks.now
  rw [W.osa_eq, refuse_eq]
  refine wpAny_bind (wpAny_bind ?_)
  refine J.type.at (wpAny_bind (along.at ?_))
  rw [free]
  refine wpAny_pure (wpAny_bind ?_)
  refine J.type.at (wpAny_bind ?_)
  refine (W.looks_findIn X no).at (wpAny_bind ?_)
  refine none_.at ?_
  show wpAny _ _ (storeInOwnDict (.ref e) (.ref C) (.str f ft) f v false) _ _ _
  obtain ⟨c1, c2, c3, c4, c5, has, c7, c8, c9, c10, c11⟩ := cd
  dsimp only at dict_
  subst dict_
  unfold storeInOwnDict
  unfold ownDictForStores
  repeat (first | (with_reducible refine store_in_new ?_ ?_) | (with_reducible refine wpAny_loadPart_at he ?_) | (with_reducible refine told.at ?_) | wp_step)
  · exact ⟨_, #[], _, Eq.trans (Heap.get?_update_ne _ _ _ _ (Ne.symm ne)) (Heap.get?_push_at rfl rfl), rfl,
      fun z hz => absurd hz (by simp), fun _ => rfl⟩
  · intro G t2 ns same
    have he1 : (hp.push { cls := .type "dict", data := .dict #[] }).get? e = some { cls := .ref C, data := .fields vs } := by
      exact Heap.get?_push_of_some _ he
    refine q G t2 hp.objs.size (fun b o nb ob => ?_) (Nat.le_refl _) (Ne.symm ne) ?_ ns
    · rw [same.2 b (Nat.ne_of_lt (Heap.lt_size ob)), Heap.get?_update_ne _ _ _ _ nb]
      exact Heap.get?_push_of_some _ ob
    · rw [same.2 e ne]
      exact Heap.get?_update_self _ he1 rfl
end
end PySem.HandSPX
namespace L2
open PySem PySem.Spec PyProof.Rows
/-- what is told of an own error class over the built-in one whose line is bmB -/
structure OexF (K : PySem.W.Frag) (bmB : List Value) (newId : String) (C : Addr) : Prop where
  cls : ∃ nm qn N bs bm sn sub ab col dd k0 k1 k2 k3 k5, K.lookup C = some (excClassObj nm qn C N bs bm true sn sub ab col dd k0 k1 k2 k3 k5 newId) ∧ PySem.W.excTail bmB bm = true
  free : ∀ e : Addr, refuseLoop (.ref e) "__setattr__" bmB = pure ()
  obj : bmB.contains (.type "object") = true
  sa : PySem.W.findIn K (.ref C) "__setattr__" = some (some (.builtin "object.__setattr__"))
  exC : PySem.W.subIn K (.ref C) (.type "BaseException") = some true
  tyC : PySem.W.typeIn K (.ref C) = some (.type "type")
  kC : PySem.W.keepIn K (.ref C) = true
section
variable {X : Cx} {pins : List (Addr × Obj)} {σ : St} {H : Hp} {s : Shared} {bmB : List Value} {newId : String} {C a : Addr} {f : Str} {y : V} {u : Value}
theorem gr_ost (T : OexF X.K bmB newId C) (I : Inv X pins σ H s) (e : H a = some (exo a C none)) (no : PySem.W.findIn X.K (.ref C) f = some none) (ry : RelV y u) {A : Around} {E : Value → Shared → Prop} {Q : Unit → Shared → Prop}
    (h : ∀ x s', H x = none → x ≠ a → Inv X pins σ (upd (upd H x (exd x [(f, y)])) a (exo a C (some x))) s' → Q () s') : wpAny (model X.prog X.w) A (setAttr (.ref a) f u) Q E s := by
  obtain ⟨nm, qn, N, bs, bm, sn, sub, ab, col, dd, k0, k1, k2, k3, k5, look, tail⟩ := T.cls
  have cl : PySem.W.clsIn X.K C = some { name := nm, bases := bs, mro := .ref C :: bm, ns := N, qualname := qn, hasDict := true, slotNames := sn, subclasses := sub, abstract := ab, collection := col, hasDel := false } := by
    unfold PySem.W.clsIn
    rw [look]
    all_goals rfl
  have tl : PySem.W.excTail bmB (.ref C :: bm) = true := tail
  obtain ⟨t1, there⟩ := exo_at I.hok e
  obtain ⟨hp, g, dr, tk, os⟩ := s
  refine PySem.W.set_plain I.kIn (ox := ({ cls := .ref C, dict := none, data := .fields #[.ref t1, .none, .none, .none, .bool false, .none] } : Obj)) (od := none) ⟨there, rfl, rfl, trivial⟩ T.sa ?_
  refine PySem.HandSPX.gr_osa I.kIn there cl rfl ?_ (PySem.W.excTail_pass (.ref a) (T.free a) _ tl) rfl no (fun G t2 x keep above ne at_ ns => ?_)
  · exact (PySem.W.excTail_contains "object" _ tl).trans T.obj
  have hx0 : H x = none := I.hok.fresh above
  have apart : ∀ {b : Addr} {o : Obj}, hp.get? b = some o → b ≠ x := fun {b o} z => Nat.ne_of_lt (Nat.lt_of_lt_of_le (Heap.lt_size z) above)
  have not_a : ∀ {b : Addr}, H b = none → b ≠ a := fun {b} n z => by rw [z, e] at n; cases n
  have un : Un X.fs [] H (upd (upd H x (exd x [(f, y)])) a (exo a C (some x))) hp G := {
    keep := fun b o z n _ _ => keep b o (not_a n) z
    slot := fun b o z n _ _ => ⟨o.slots, keep b o (not_a n) z⟩
    free := fun b o z n _ => by
      rw [upd_ne (not_a n), upd_ne (apart z)]
      exact n
    there := fun b o z _ => by
      by_cases ba : b = a
      · exact ⟨_, by rw [ba]; exact at_⟩
      · exact ⟨o, keep b o ba z⟩
    tups := fun b xs z => by
      rw [upd_ne (at_ne e z exo_tup), upd_ne (ne_of_none z hx0)]
      exact z
    frzs := fun b o v z => by
      rw [upd_ne (at_ne e z exo_frz), upd_ne (ne_of_none z hx0)]
      exact z
    tbls := fun b ps z => ⟨#[], by
      rw [upd_ne (at_ne e z exo_tbl), upd_ne (ne_of_none z hx0), z]
      simp⟩ }
  refine h x _ hx0 ne (I.un (t' := t2) un fun b o z => ?_)
  by_cases ba : b = a
  · subst ba
    rw [upd_same] at z
    cases z
    exact exo_ok at_
  rw [upd_ne ba] at z
  by_cases bx : b = x
  · subst bx
    rw [upd_same] at z
    cases z
    exact exd_ok ns (relO_put (fs := []) ry fun _ => True.intro)
  rw [upd_ne bx] at z
  refine (I.hok b o z).stay (fun c v hc w => keep c v ?_ w) (fun c hc => ?_) (fun c xs hc => ?_)
  · rcases hc with hc | hc
    · rw [hc]
      exact ba
    · exact at_ne e hc exo_own
  · rw [upd_ne (at_ne e hc exo_own), upd_ne (ne_of_none hc hx0)]
    exact hc
  · rw [upd_ne (at_ne e hc exo_tup), upd_ne (ne_of_none hc hx0)]
    exact hc
/-- self.f = e, the first field of an error of a family -/
def tOsF (K : PySem.W.Frag) (bmB : List Value) (newId : String) (f : Str) (to te : TE) : TS := fun D σ H => te σ H fun y H1 => to σ H1 fun x H2 => ∃ b C : Addr, x = .ref b ∧ OexF K bmB newId C ∧ PySem.W.findIn K (.ref C) f = some none ∧
  H2 b = some (exo b C none) ∧ ∀ x, H2 x = none → x ≠ b → D.nx σ (upd (upd H2 x (exd x [(f, y)])) b (exo b C (some x)))
theorem ps_osF {o e : Expr} {to te : TE} {p' pos : Pos} (ho : PE X o to) (he : PE X e te) (hs : swapsWith e (some (.Attribute o f p')) pos.line X.env = pure false := by rfl) : PS X (.Assign [.Attribute o f p'] e pos) (tOsF X.K bmB newId f to te) := by
  constructor
  intro pl sh σ H D I h
  refine plainObj_wpAny_Assign_Attribute ?_ hs
  refine thn (he.run pl sh σ H _ I h) fun v s1 k1 => ?_
  obtain ⟨y, H1, I1, r1, q1⟩ := k1
  refine thn (ho.run pl s1 σ H1 _ I1 q1) fun w s2 k2 => ?_
  obtain ⟨x, H2, I2, r2, b, C, rfl, T, no, at_, q⟩ := k2
  obtain rfl : w = Value.ref b := r2
  exact gr_ost T I2 at_ no r1 fun x s' n ne J => ⟨σ, _, J, q x n ne⟩
end
end L2
/-! An error of any family with a field, made and raised, its context told; what the head tells of LookupError's. -/
namespace L2N
open PySem PySem.Spec PyProof.Rows L2
theorem gr_mkF {X : Cx} {CX : CXT} {x : Str} {C fI : Addr} {k : Nat} {fd : FuncData} {ps : List Str} {sp : Sp} {e : Expr} {es : List Expr} {ta : TA} {p pos : Pos} {bmB : List Value} {B newId initId : String} (FB : ExcBaseFacts B newId initId bmB) (T : OexF X.K bmB newId C)
    (iC : PySem.W.findIn X.K (.ref C) "__init__" = some (some (.ref fI)))
    (tI : PySem.W.typeIn X.K (.ref fI) = some (.type "function")) (F1 : FnOk X.prog X.w X.K X.mg X.base CX k fI fd ps sp) (hr : Room (k + 1) X.A) (hb : Binds X.K fd ps []) (px : Passes CX X (fun _ _ _ => False)) (gl : Gl X x) (at_ : X.mg x = some (.ref C)) (ha : PA X (e :: es) ta)
    (nd : (x == ("__debug__" : Str)) = false := by decide) (he : starEach (e :: es) X.env = (false, eval e X.env) :: starEach es X.env := by rfl) (hpl : (backTo pos (starEach es X.env)).any (·.1) = false := by rfl) :
    PMk X (.Call (.Name x p) (e :: es) [] pos) (tMkO C sp [] ta) := by
  intro pl sh σ H Q I h
  obtain ⟨_, _, _, _, bm, _, _, _, _, _, _, _, _, _, _, hC, tail⟩ := T.cls
  refine wpAny_Call_Name_kw (ld_glob I gl at_ ?_ nd)
  refine PySem.W.callWith_K (h₀ := X.base) I.ok.mod.kin T.kC (thn (ha.run pos pl sh σ H _ I h) ?_) he hpl
  rintro us s1 ⟨vs, G, J, rv, few, q⟩
  refine ⟨J.kIn, ?_⟩
  show wpAny _ _ (call (.ref C) us) _ _ _
  obtain ⟨hp, gs, dr, tk, os⟩ := s1
  generalize ea : hp.objs.size + 1 = a
  have lo : hp.objs.size ≤ a := by omega
  have free : G a = none := J.hok.fresh lo
  have q1 := q a free
  rw [List.append_nil] at q1
  generalize eh : (hp.push (PySem.W.kdv_tup us)).push (PySem.HandSPX.excO C hp.objs.size) = hp2
  have keep : ∀ b o, hp.get? b = some o → hp2.get? b = some o := by
    intro b o e
    rw [← eh]
    exact Heap.get?_push_of_some _ (Heap.get?_push_of_some _ e)
  have got : hp2.get? a = some (PySem.HandSPX.excO C hp.objs.size) := by
    rw [← eh, ← ea]
    heap_get
  have J2 : Inv X pl σ (upd G a (exo a C none)) ⟨hp2, gs, dr, tk, os⟩ := J.laid (t' := tk) (a := a) (o := exo a C none) (h' := hp2) keep lo (exo_ok got)
  have r2 : Vals (V.ref a :: vs) (Value.ref a :: us) := .cons rfl rv
  have len : (Value.ref a :: us ++ []).length = ps.length := by
    rw [List.append_nil, ← r2.length]
    exact F1.len _ _ _ _ q1
  have b2 := hb ⟨hp2, gs, dr, tk, os⟩ (Value.ref a :: us) J2.kIn len
  rw [List.append_nil] at b2
  have small : us.length ≤ sizeLine := by
    rw [← rv.length, sizeLine_eq]
    omega
  have fin : codeAny (model X.prog X.w) (X.A.under (.builtin "type.__call__" ⟨.ref C :: us, []⟩)) (.call (.ref fI) ⟨Value.ref a :: us, []⟩) _ ⟨hp2, gs, dr, tk, os⟩ :=
    F1.run (X.A.under (.builtin "type.__call__" ⟨.ref C :: us, []⟩)) X.stack ⟨hp2, gs, dr, tk, os⟩ _ ⟨Value.ref a :: us, []⟩ (Value.ref a :: us) _ _ (fun _ _ _ => False) (hr.make C us []) (J2.env0.make C us []) b2 r2 q1
  subst ea eh
  refine wpAny_call (PySem.HandSPX.call_own FB (fun Y => PySem.W.excTail_contains Y bm tail) (J.kIn _ _ hC) (PySem.W.looks_findIn J.kIn iC) (fun self => PySem.W.bind_fn J.kIn self tI) small (codeAny_mono fin ?_))
  intro r s' z
  match r, z with
  | .error er, z => exact px pl σ _ _ er s' J2 z
  | .ok .next, z => exact z.elim
  | .ok .brk, z => exact z.elim
  | .ok .cont, z => exact z.elim
  | .ok (.ret u), ⟨v, G2, eos, bare2, un2, hok2, rv2, ev, d, fs, e1, e2, e3, q2⟩ =>
    subst ev
    obtain ⟨h2, g2, d2, t2, os'⟩ := s'
    refine ⟨rv2, ?_⟩
    obtain ⟨t0, Z, J3, kZ, gone, here, free3⟩ := mk_end0 (d2 := d2) (t2 := t2) J lo keep un2 hok2 eos bare2 e1 e2 e3
    exact ⟨_, _, _, ⟨Z, g2, d2, t2, os'⟩, _, .ref C, some d, rfl, J3, kZ, gone, here, ⟨rfl, rfl, fun vs e => by cases e; rfl⟩, rfl, rfl, free3, rfl, bare2, raises_own T.exC T.tyC, q2⟩
end L2N
namespace Gr
open PySem PySem.Spec PyProof.Rows L2
def leBase : List Value := [.type "LookupError", .type "Exception", .type "BaseException", .type "object"]
abbrev OexL (K : PySem.W.Frag) (C : Addr) : Prop := OexF K leBase "LookupError.__new__" C
theorem le_free (e : Addr) : refuseLoop (.ref e) "__setattr__" leBase = pure () := by
  kernel_rfl
theorem le_facts : ExcBaseFacts "LookupError" "LookupError.__new__" "LookupError.__init__" leBase := F.excBase_LookupError
/-- the class's line, behind itself, ends as the built-in one's does -/
def lineF (bmB : List Value) (K : PySem.W.Frag) (C : Addr) : Bool := match K.lookup C with
  | some ⟨_, _, .cls cd, _⟩ => (match cd.mro with
    | _ :: bm => PySem.W.excTail bmB bm
    | [] => false)
  | _ => false
def oexLB (K : PySem.W.Frag) (C : Addr) : Bool := PySem.W.excInitIn K C leBase "LookupError.__new__" && (PySem.W.hasDictIn K C && (lineF leBase K C && (He.eqO (PySem.W.findIn K (.ref C) "__setattr__") (some (some (.builtin "object.__setattr__"))) &&
  (decide (PySem.W.subIn K (.ref C) (.type "BaseException") = some true) && (decide (PySem.W.typeIn K (.ref C) = some (.type "type")) && PySem.W.keepIn K (.ref C))))))
theorem oexLB_ok {K : PySem.W.Frag} {h : Heap} {C : Addr} (X : K.In h) (c : oexLB K C = true) : OexL K C := by
  obtain ⟨c1, c⟩ := He.ba c
  obtain ⟨c2, c⟩ := He.ba c
  obtain ⟨c3, c⟩ := He.ba c
  obtain ⟨c4, c⟩ := He.ba c
  obtain ⟨c5, c⟩ := He.ba c
  obtain ⟨c6, c7⟩ := He.ba c
  obtain ⟨nm, N, qn, bs, bm, hdct, sn, sub, ab, col, dd, k0, k1, k2, k3, k5, at_, _⟩ := PySem.W.excInit_of X c1
  have there : ∃ o, K.lookup C = some o := by
    unfold PySem.W.excInitIn at c1
    cases e : K.lookup C with
    | none => rw [e] at c1; cases c1
    | some o => exact ⟨o, rfl⟩
  obtain ⟨o, e⟩ := there
  have eo := X C o e
  rw [at_] at eo
  obtain rfl := Option.some.inj eo
  have hd : hdct = true := by
    unfold PySem.W.hasDictIn PySem.W.clsIn at c2
    rw [e] at c2
    exact c2
  subst hd
  have line : PySem.W.excTail leBase bm = true := by
    unfold lineF at c3
    rw [e] at c3
    exact c3
  exact ⟨⟨nm, qn, N, bs, bm, sn, sub, ab, col, dd, k0, k1, k2, k3, k5, e, line⟩, le_free, by decide +kernel, He.eqO_ok c4, of_decide_eq_true c5, of_decide_eq_true c6, c7⟩
end Gr
/-! An own error as a value: made by places, by names, by the built-in class's own start. -/
namespace PySem.HandSPX
open PySem PySem.Spec PyProof.Rows
/-- what is asked of the line behind a class whose maker is nB's -/
structure LineOk (nB : String) (bm : List Value) : Prop where
  mine : bm.contains (.type nB) = true
  noA : bm.contains (.type "AttributeError") = false
  noN : bm.contains (.type "NameError") = false
/-- what is asked of a built-in start -/
structure StartOk (B initId : String) : Prop where
  slot : Slot B "__init__" initId
  entry : entryFor table initId = some Builtin.«BaseException.__init__»
  split : splitId initId = some (B, "__init__")
  kind : builtinKind initId = some .slot
  row : Manifest.signature? initId = some ⟨.positional, "*", B, .self, [⟨"args", .varPos, false⟩]⟩
  star : (B != "*") = true
section
variable {M : Model} {A : Around} {E : Value → Shared → Prop} {hp : Heap} {gs : Array GenState} {dr : Drawn} {tk : Nat} {os : OsState}
variable {nm qn : Str} {C N : Addr} {bs bm bmN : List Value} {hdct ab : Bool} {sn : List Str} {sub : List Value} {col : Option Bool} {dd : Option Addr} {k0 k1 k2 k3 k5 : Option Value} {nB newId inN : String}
theorem gv_checkNew (Fn : ExcBaseFacts nB newId inN bmN) (L : LineOk nB bm) {us : List Value} {kw : List (Str × Value)} {Q : Unit → Shared → Prop}
    (at_ : hp.get? C = some (excClassObj nm qn C N bs bm hdct sn sub ab col dd k0 k1 k2 k3 k5 newId)) (q : Q () ⟨hp, gs, dr, tk, os⟩) : wpAny M A (checkBuiltinCall newId ⟨.ref C :: us, kw⟩) Q E ⟨hp, gs, dr, tk, os⟩ := by
  have c1 : (Value.ref C :: bm).contains (.type nB) = true := by
    rw [List.contains_cons, L.mine]
    exact Bool.or_true _
  have star := Fn.noStar
  simp only [checkBuiltinCall, Fn.newKind, Fn.newSplit, Fn.newRow]
  repeat
    first
      | refine wpAny_loadPart_at at_ ?_
      | (refine wpAny_isSubtype_exc at_ ?_; rw [c1])
      | refine wpAny_staticBase_exc at_ ?_
      | refine wpAny_madeBy_exc at_ ?_
      | simp only [bne_self_eq_false, Bool.false_eq_true, if_false]
      | wp_step
  exact q
theorem gv_checkType {us : List Value} {kw : List (Str × Value)} {Q : Unit → Shared → Prop} (at_ : hp.get? C = some (excClassObj nm qn C N bs bm hdct sn sub ab col dd k0 k1 k2 k3 k5 newId))
    (q : Q () ⟨hp, gs, dr, tk, os⟩) : wpAny M A (checkBuiltinCall "type.__call__" ⟨.ref C :: us, kw⟩) Q E ⟨hp, gs, dr, tk, os⟩ := by
  have t1 := tc_sub
  have ty : (⟨hp, gs, dr, tk, os⟩ : Shared).TypeIs (.ref C) "type" := ⟨_, at_, rfl⟩
  simp only [checkBuiltinCall, tc_kind, tc_split]
  repeat
    any_goals
      first
        | assumption
        | with_reducible refine wpAny_loadPart_at at_ ?_
        | with_reducible refine wpAny_onRaise ?_
        | with_reducible refine wpAny_map ?_
        | wp_step
theorem gv_checkInit {B initId : String} (S : StartOk B initId) (cB : bm.contains (.type B) = true) {e : Addr} {oe : Obj} {us : List Value} {Q : Unit → Shared → Prop}
    (at_ : hp.get? C = some (excClassObj nm qn C N bs bm hdct sn sub ab col dd k0 k1 k2 k3 k5 newId)) (ae : hp.get? e = some oe) (ce : oe.cls = .ref C) (q : Q () ⟨hp, gs, dr, tk, os⟩) :
    wpAny M A (checkBuiltinCall initId ⟨.ref e :: us, []⟩) Q E ⟨hp, gs, dr, tk, os⟩ := by
  have c1 : (Value.ref C :: bm).contains (.type B) = true := by
    rw [List.contains_cons, cB]
    exact Bool.or_true _
  have star := S.star
  simp only [checkBuiltinCall, S.kind, S.split, S.row]
  repeat
    first
      | (with_reducible refine wpAny_loadPart_at ae ?_; rw [ce])
      | with_reducible refine wpAny_loadPart_at at_ ?_
      | (with_reducible refine wpAny_isSubtype_exc at_ ?_; rw [c1])
      | wp_step
  refine wpAny_onRaise ?_
  have st : ∀ (a b : String) (n : Nat), Bind.check ⟨.positional, "*", B, .self, [⟨"args", .varPos, false⟩]⟩ a b n (({ pos := Value.ref e :: us } : Args).kw.map fun x => x.fst) = pure () :=
    fun _ _ _ => check_star_args _ _ _ _ _ _
  rw [st]
  exact wpAny_pure q
end
section
variable {prog : Program} {w : World} {A : Around} {E : Value → Shared → Prop} {R : Result → Shared → Prop} {hp : Heap} {gs : Array GenState} {dr : Drawn} {tk : Nat} {os : OsState}
variable {nm qn : Str} {C N : Addr} {bs bm bmN : List Value} {hdct ab : Bool} {sn : List Str} {sub : List Value} {col : Option Bool} {dd : Option Addr} {k0 k1 k2 k3 k5 : Option Value} {nB newId inN : String}
theorem gv_new (Fn : ExcBaseFacts nB newId inN bmN) (L : LineOk nB bm) {us : List Value} {kw : List (Str × Value)} (at_ : hp.get? C = some (excClassObj nm qn C N bs bm hdct sn sub ab col dd k0 k1 k2 k3 k5 newId))
    (q : R (.ok (.ret (.ref (hp.objs.size + 1)))) ⟨(hp.push (W.kdv_tup us)).push (excO C hp.objs.size), gs, dr, tk, os⟩) (few : us.length ≤ sizeLine) :
    codeAny (model prog w) A (.builtin newId ⟨.ref C :: us, kw⟩) R ⟨hp, gs, dr, tk, os⟩ := by
  have ends := Fn.ends
  have c1 : (Value.ref C :: bm).contains (.type nB) = true := by
    rw [List.contains_cons, L.mine]
    exact Bool.or_true _
  have c2 : (Value.ref C :: bm).contains (.type "AttributeError") = false := by
    rw [List.contains_cons, L.noA]
    rfl
  have c3 : (Value.ref C :: bm).contains (.type "NameError") = false := by
    rw [List.contains_cons, L.noN]
    rfl
  refine codeAny_builtinAt Fn.entry ?_
  unfold Builtin.«BaseException.__new__»
  refine wpAt_bind ?_
  show wpAt _ _ _ (stack >>= _) _ _ _
  refine wpAt_bind (wpAt_stack fun _ _ => wpAt_of_wpAny ?_)
  wp_walk
  refine wpAt_of_wpAny ?_
  rw [Fn.owner]
  repeat
    first
      | with_reducible refine wpAny_madeHere_exc Fn.canon at_ ?_
      | with_reducible refine wpAny_loadPart_at at_ ?_
      | (with_reducible refine wpAny_isSubtype_exc at_ ?_; first | rw [c1] | rw [c2] | rw [c3])
      | wp_step
  show R _ _
  rw [Heap.size_push]
  exact q
theorem gv_typeCall (Fn : ExcBaseFacts nB newId inN bmN) (L : LineOk nB bm) {us : List Value} {kw : List (Str × Value)} {fV : Value} {Q : Fin → Shared → Prop}
    (at_ : hp.get? C = some (excClassObj nm qn C N bs bm hdct sn sub ab col dd k0 k1 k2 k3 k5 newId)) (hi : W.Looks (model prog w) hp (typeLookup (.ref C) "__init__") (some fV))
    (bnd : ∀ self, W.Looks (model prog w) hp (bindSpecial fV self) (fV, [self])) (few : us.length ≤ sizeLine)
    (q : codeAny (model prog w) A (.call fV ⟨.ref (hp.objs.size + 1) :: us, kw⟩)
      (fun r s' => match r with | .ok (.ret v) => v = .none ∧ Q (.done (.ret (.ref (hp.objs.size + 1)))) s' | .ok _ => False | .error e => E e s')
      ⟨(hp.push (W.kdv_tup us)).push (excO C hp.objs.size), gs, dr, tk, os⟩) :
    wpAny (model prog w) A (Builtin.«type.__call__» ⟨.ref C :: us, kw⟩) Q E ⟨hp, gs, dr, tk, os⟩ := by
  repeat
    first
      | with_reducible refine wpAny_loadPart_at at_ ?_
      | with_reducible refine wpAny_madeBy_exc at_ ?_
      | wp_step
  refine codeAny_call_builtin_code (Code.quiet_builtin _ Fn.quiet) (gv_checkNew Fn L at_ ?_)
  refine gv_new Fn L at_ ?_ few
  show wpAny _ _ _ _ _ _
  have keep : ∀ b o, hp.get? b = some o → ((hp.push (W.kdv_tup us)).push (excO C hp.objs.size)).get? b = some o := by
    intro b o z
    exact Heap.get?_push_of_some _ (Heap.get?_push_of_some _ z)
  have at2 := keep _ _ at_
  have ae : ((hp.push (W.kdv_tup us)).push (excO C hp.objs.size)).get? (hp.objs.size + 1) = some (excO C hp.objs.size) := by
    heap_get
  have cC : (Value.ref C :: bm).contains (.ref C) = true := by
    simp
  have i2 := hi.keeps keep
  have b2 := (bnd (.ref (hp.objs.size + 1))).keeps keep
  unfold isInstance
  repeat
    first
      | with_reducible refine wpAny_loadPart_at ae ?_
      | (with_reducible refine wpAny_isSubtype_exc at2 ?_; rw [cC])
      | wp_step
  show wpAny _ _ (typeLookup (.ref C) _) _ _ _
  refine i2.at (wpAny_holding (wpAny_bind (b2.at (wpAny_bind (wpAny_call (codeAny_mono q ?_))))))
  intro r s' z
  match r, z with
  | .error e, z => exact z
  | .ok (.ret v), ⟨e1, z⟩ =>
    subst e1
    first
      | exact wpAny_pure (wpAny_pure z)
      | (wp_walk; exact z)
  | .ok .next, z => exact z.elim
  | .ok .brk, z => exact z.elim
  | .ok .cont, z => exact z.elim
theorem gv_call (Fn : ExcBaseFacts nB newId inN bmN) (L : LineOk nB bm) {us : List Value} {kw : List (Str × Value)} {fV : Value}
    (at_ : hp.get? C = some (excClassObj nm qn C N bs bm hdct sn sub ab col dd k0 k1 k2 k3 k5 newId)) (hi : W.Looks (model prog w) hp (typeLookup (.ref C) "__init__") (some fV))
    (bnd : ∀ self, W.Looks (model prog w) hp (bindSpecial fV self) (fV, [self])) (few : us.length ≤ sizeLine)
    (q : codeAny (model prog w) (A.under (.builtin "type.__call__" ⟨.ref C :: us, kw⟩)) (.call fV ⟨.ref (hp.objs.size + 1) :: us, kw⟩) (W.InitBack (hp.objs.size + 1) R)
      ⟨(hp.push (W.kdv_tup us)).push (excO C hp.objs.size), gs, dr, tk, os⟩) :
    codeAny (model prog w) A (.call (.ref C) ⟨us, kw⟩) R ⟨hp, gs, dr, tk, os⟩ := by
  have t1 := tc_lookup
  have t2 := tc_bind (.ref C)
  have ty : (⟨hp, gs, dr, tk, os⟩ : Shared).TypeIs (.ref C) "type" := ⟨_, at_, rfl⟩
  refine codeAny_of_tree ?_
  show wpAny _ _ (callAny (.ref C) _) _ _ _
  repeat
    any_goals
      first
        | assumption
        | with_reducible refine wpAny_loadPart_at at_ ?_
        | wp_step
  refine ⟨rfl, ?_⟩
  refine codeAny_call_builtin_at (Code.quiet_builtin _ (by decide +kernel)) entry_typeCall (gv_checkType at_ (gv_typeCall Fn L at_ hi bnd few (codeAny_mono q ?_)))
  intro r s' z
  match r, z with
  | .error e, z => exact z
  | .ok (.ret v), z => exact z
  | .ok .next, z => exact z
  | .ok .brk, z => exact z
  | .ok .cont, z => exact z
/-- the built-in start lays the things of the call anew -/
theorem gv_start {B initId : String} (S : StartOk B initId) (cB : bm.contains (.type B) = true) {e t0 : Addr} {us : List Value}
    (at_ : hp.get? C = some (excClassObj nm qn C N bs bm hdct sn sub ab col dd k0 k1 k2 k3 k5 newId)) (ae : hp.get? e = some (excO C t0)) (few : us.length ≤ sizeLine)
    (q : ∀ h2 t1, (∀ b o, b ≠ e → hp.get? b = some o → h2.get? b = some o) → h2.get? e = some (excO C t1) → R (.ok (.ret .none)) ⟨h2, gs, dr, tk, os⟩) :
    codeAny (model prog w) A (.call (.builtin initId) ⟨.ref e :: us, []⟩) R ⟨hp, gs, dr, tk, os⟩ := by
  refine codeAny_call_builtin S.slot.plain S.entry (gv_checkInit S cB at_ ae rfl ?_)
  wp_walk
  refine q _ hp.objs.size ?_ ?_
  · intro b o nb ob
    rw [Heap.get?_update_other _ _ (Ne.symm nb)]
    exact Heap.get?_push_of_some _ ob
  · rw [Heap.get?_update_self _ (Heap.get?_push_of_some _ ae) rfl]
    rfl
end
end PySem.HandSPX
namespace L2
open PySem PySem.Spec PyProof.Rows
/-- C(e, ..) of an own error class with its own start: the error stands in the heap -/
def tMkV (C : Addr) (sp : Sp) (ta : TA) : TE := fun σ H Q => ta σ H fun vs G => vs.length ≤ 1000 ∧ ∀ a, G a = none → sp (.ref a :: vs) (upd G a (exo a C none)) (fun v F => v = .non ∧ Q (.ref a) F) (fun _ _ _ => False)
/-- the same by names alone -/
def tMkVK (C : Addr) (m : Nat) (sp : Sp) (gV : List V → List V → List V) (tz : TA) : TE := fun σ H Q => tz σ H fun zs G => zs.length = m ∧ ∀ a, G a = none → sp (gV [.ref a] zs) (upd G a (exo a C none)) (fun v F => v = .non ∧ Q (.ref a) F) (fun _ _ _ => False)
/-- by the built-in class's start -/
def tMkV0 (C : Addr) (ta : TA) : TE := fun σ H Q => ta σ H fun vs G => vs.length ≤ 1000 ∧ ∀ a, G a = none → Q (.ref a) (upd G a (exo a C none))
section
variable {X : Cx} {CX : CXT} {k : Nat} {C fI : Addr} {fd : FuncData} {ps ks : List Str} {sp : Sp} {x : Str} {p pos : Pos} {bmB bmN : List Value} {nB newId inN : String}
theorem run_mkV {pl : List (Addr × Obj)} {σ : L2.St} {H : Hp} {s : Shared} {Q : VK} {us : List Value} {kw : List (Str × Value)} {aU : Value → List Value} {aV : Addr → List V} (Fn : ExcBaseFacts nB newId inN bmN) (L : PySem.HandSPX.LineOk nB bmB)
    (T : OexF X.K bmB newId C) (iC : PySem.W.findIn X.K (.ref C) "__init__" = some (some (.ref fI))) (tI : PySem.W.typeIn X.K (.ref fI) = some (.type "function")) (F1 : FnOk X.prog X.w X.K X.mg X.base CX k fI fd ps sp)
    (hr : Room (k + 1) X.A) (px : Passes CX X (fun _ _ _ => False)) (I : Inv X pl σ H s) (few : us.length ≤ sizeLine) (bt : ∀ (z : Shared) (self : Value), X.K.In z.heap → BindsTo z fd ⟨self :: us, kw⟩ (ps.zip (aU self)))
    (rel : ∀ a : Addr, Vals (aV a) (aU (.ref a))) (h : ∀ a, H a = none → sp (aV a) (upd H a (exo a C none)) (fun v F => v = .non ∧ Q (.ref a) F) (fun _ _ _ => False)) :
    wpAny (model X.prog X.w) X.A (call (.ref C) us kw) (EP X pl σ Q) X.xe s := by
  obtain ⟨_, _, _, _, bm, _, _, _, _, _, _, _, _, _, _, hC, tail⟩ := T.cls
  have Lm : PySem.HandSPX.LineOk nB bm := by
    constructor
    · rw [PySem.W.excTail_contains _ bm tail]
      exact L.mine
    · rw [PySem.W.excTail_contains _ bm tail]
      exact L.noA
    · rw [PySem.W.excTail_contains _ bm tail]
      exact L.noN
  obtain ⟨hp, gs, dr, tk, os⟩ := s
  generalize ea : hp.objs.size + 1 = a
  have lo : hp.objs.size ≤ a := by omega
  have free : H a = none := I.hok.fresh lo
  have q1 := h a free
  generalize eh : (hp.push (PySem.W.kdv_tup us)).push (PySem.HandSPX.excO C hp.objs.size) = hp2
  have keep : ∀ b o, hp.get? b = some o → hp2.get? b = some o := by
    intro b o e
    rw [← eh]
    exact Heap.get?_push_of_some _ (Heap.get?_push_of_some _ e)
  have got : hp2.get? a = some (PySem.HandSPX.excO C hp.objs.size) := by
    rw [← eh, ← ea]
    heap_get
  have J2 : Inv X pl σ (upd H a (exo a C none)) ⟨hp2, gs, dr, tk, os⟩ := I.laid (t' := tk) (a := a) (o := exo a C none) (h' := hp2) keep lo (exo_ok got)
  have fin : codeAny (model X.prog X.w) (X.A.under (.builtin "type.__call__" ⟨.ref C :: us, kw⟩)) (.call (.ref fI) ⟨Value.ref a :: us, kw⟩) _ ⟨hp2, gs, dr, tk, os⟩ :=
    F1.run (X.A.under (.builtin "type.__call__" ⟨.ref C :: us, kw⟩)) X.stack ⟨hp2, gs, dr, tk, os⟩ _ ⟨Value.ref a :: us, kw⟩ (aU (.ref a)) (aV a) _ (fun _ _ _ => False) (hr.make C us kw) (J2.env0.make C us kw) (bt _ _ J2.kIn) (rel a) q1
  subst ea eh
  refine wpAny_call (PySem.HandSPX.gv_call Fn Lm (I.kIn _ _ hC) (PySem.W.looks_findIn I.kIn iC) (fun self => PySem.W.bind_fn I.kIn self tI) few (codeAny_mono fin ?_))
  intro r s' z
  match r, z with
  | .error er, z => exact px pl σ _ _ er s' J2 z
  | .ok .next, z => exact z.elim
  | .ok .brk, z => exact z.elim
  | .ok .cont, z => exact z.elim
  | .ok (.ret u), z =>
    obtain ⟨v, G, J3, rv, ev, q3⟩ := J2.after z
    subst ev
    exact ⟨rv, ⟨V.ref _, G, J3, rfl, q3⟩⟩
theorem pe_mkV {e : Expr} {es : List Expr} {ta : TA} (Fn : ExcBaseFacts nB newId inN bmN) (L : PySem.HandSPX.LineOk nB bmB) (T : OexF X.K bmB newId C)
    (iC : PySem.W.findIn X.K (.ref C) "__init__" = some (some (.ref fI))) (tI : PySem.W.typeIn X.K (.ref fI) = some (.type "function")) (F1 : FnOk X.prog X.w X.K X.mg X.base CX k fI fd ps sp) (hr : Room (k + 1) X.A)
    (hb : Binds X.K fd ps []) (px : Passes CX X (fun _ _ _ => False)) (gl : Gl X x) (at_ : X.mg x = some (.ref C)) (ha : PA X (e :: es) ta)
    (nd : (x == ("__debug__" : Str)) = false := by decide) (he : starEach (e :: es) X.env = (false, eval e X.env) :: starEach es X.env := by rfl) (hpl : (backTo pos (starEach es X.env)).any (·.1) = false := by rfl) :
    PE X (.Call (.Name x p) (e :: es) [] pos) (tMkV C sp ta) := by
  constructor
  intro pl s σ H Q I h
  refine wpAny_Call_Name_kw (ld_glob I gl at_ ?_ nd)
  refine PySem.W.callWith_K (h₀ := X.base) I.ok.mod.kin T.kC (thn (ha.run pos pl s σ H _ I h) ?_) he hpl
  rintro us s1 ⟨vs, G, J, rv, few, q⟩
  refine ⟨J.kIn, ?_⟩
  have some_ := J.hok.fresh (Nat.le_refl _)
  have len : ∀ a : Value, (a :: us ++ []).length = ps.length := fun a => by
    have z := F1.len _ _ _ _ (q _ some_)
    rw [List.append_nil, ← z, List.length_cons, List.length_cons, rv.length]
  refine run_mkV (aU := fun a => a :: us) (aV := fun a => .ref a :: vs) Fn L T iC tI F1 hr px J ?_ (fun z self zi => ?_) (fun a => .cons rfl rv) q
  · show us.length ≤ sizeLine
    rw [← rv.length, sizeLine_eq]
    omega
  · have b2 := hb z (self :: us) zi (len self)
    rw [List.append_nil] at b2
    exact b2
theorem pe_mkVK {g : List Value → List Value → List Value} {gV : List V → List V → List V} {kws : List Keyword} {tz : TA} (Fn : ExcBaseFacts nB newId inN bmN) (L : PySem.HandSPX.LineOk nB bmB) (T : OexF X.K bmB newId C)
    (iC : PySem.W.findIn X.K (.ref C) "__init__" = some (some (.ref fI))) (tI : PySem.W.typeIn X.K (.ref fI) = some (.type "function")) (F1 : FnOk X.prog X.w X.K X.mg X.base CX k fI fd ps sp) (hr : Room (k + 1) X.A)
    (kb : KBn X.K fd ps 1 ks g gV) (px : Passes CX X (fun _ _ _ => False)) (gl : Gl X x) (at_ : X.mg x = some (.ref C)) (pk : PK X kws tz)
    (all : (backToKw pos (keywordEach kws X.env)).all (·.1.isSome) = true := by rfl) (named : (backToKw pos (keywordEach kws X.env)).filterMap (·.1) = ks := by rfl) (nd : (x == ("__debug__" : Str)) = false := by decide)
    (plain : ((backTo pos (starEach [] X.env)).any (·.1) || (backToKw pos (keywordEach kws X.env)).any (·.1.isNone)) = false := by rfl) :
    PE X (.Call (.Name x p) [] kws pos) (tMkVK C ks.length sp gV tz) := by
  constructor
  intro pl s σ H Q I h
  refine wpAny_Call_Name_kw (ld_glob I gl at_ ?_ nd)
  refine PySem.W.callWith_KW0 (h₀ := X.base) I.ok.mod.kin T.kC all (thn (pk.run pos pl s σ H _ I h) ?_) plain
  rintro ws s1 ⟨zs, G, J, rz, len, q⟩
  refine ⟨J.kIn, ?_⟩
  rw [named]
  refine run_mkV (aU := fun a => g [a] ws) (aV := fun a => gV [.ref a] zs) Fn L T iC tI F1 hr px J ?_ (fun z self zi => ?_) (fun a => kb.rel (.cons rfl .nil) rz) q
  · rw [sizeLine_eq]
    exact Nat.zero_le _
  · exact kb.to z [self] ws zi rfl (rz.length.symm.trans len)
theorem run_mkV0 {pl : List (Addr × Obj)} {σ : L2.St} {H : Hp} {s : Shared} {Q : VK} {us : List Value} {sB initId : String} (Fn : ExcBaseFacts nB newId inN bmN) (L : PySem.HandSPX.LineOk nB bmB) (S : PySem.HandSPX.StartOk sB initId) (cB : bmB.contains (.type sB) = true)
    (T : OexF X.K bmB newId C) (iC : PySem.W.findIn X.K (.ref C) "__init__" = some (some (.builtin initId))) (I : Inv X pl σ H s) (few : us.length ≤ sizeLine) (h : ∀ a, H a = none → Q (.ref a) (upd H a (exo a C none))) :
    wpAny (model X.prog X.w) X.A (call (.ref C) us) (EP X pl σ Q) X.xe s := by
  obtain ⟨_, _, _, _, bm, _, _, _, _, _, _, _, _, _, _, hC, tail⟩ := T.cls
  have Lm : PySem.HandSPX.LineOk nB bm := by
    constructor
    · rw [PySem.W.excTail_contains _ bm tail]
      exact L.mine
    · rw [PySem.W.excTail_contains _ bm tail]
      exact L.noA
    · rw [PySem.W.excTail_contains _ bm tail]
      exact L.noN
  have cb : bm.contains (.type sB) = true := by
    rw [PySem.W.excTail_contains _ bm tail]
    exact cB
  obtain ⟨hp, gs, dr, tk, os⟩ := s
  have lo : hp.objs.size ≤ hp.objs.size + 1 := Nat.le_succ _
  have free : H (hp.objs.size + 1) = none := I.hok.fresh lo
  have keep : ∀ b o, hp.get? b = some o → ((hp.push (PySem.W.kdv_tup us)).push (PySem.HandSPX.excO C hp.objs.size)).get? b = some o := by
    intro b o e
    exact Heap.get?_push_of_some _ (Heap.get?_push_of_some _ e)
  have got : ((hp.push (PySem.W.kdv_tup us)).push (PySem.HandSPX.excO C hp.objs.size)).get? (hp.objs.size + 1) = some (PySem.HandSPX.excO C hp.objs.size) := by
    heap_get
  refine wpAny_call (PySem.HandSPX.gv_call Fn Lm (I.kIn _ _ hC) (PySem.W.looks_findIn I.kIn iC) (fun self => .of_pure (S.slot.bind self)) few (PySem.HandSPX.gv_start S cb (keep _ _ (I.kIn _ _ hC)) got few ?_))
  intro h2 t1 k2 g2
  refine ⟨rfl, ⟨V.ref _, _, ?_, rfl, h _ free⟩⟩
  refine I.laid (t' := tk) (a := hp.objs.size + 1) (o := exo (hp.objs.size + 1) C none) (h' := h2) (fun b o e => ?_) lo (exo_ok g2)
  exact k2 b o (Nat.ne_of_lt (Nat.lt_of_lt_of_le (Heap.lt_size e) lo)) (keep b o e)
theorem pe_mkV1 {e : Expr} {es : List Expr} {ta : TA} {sB initId : String} (Fn : ExcBaseFacts nB newId inN bmN) (L : PySem.HandSPX.LineOk nB bmB) (S : PySem.HandSPX.StartOk sB initId) (cB : bmB.contains (.type sB) = true) (T : OexF X.K bmB newId C)
    (iC : PySem.W.findIn X.K (.ref C) "__init__" = some (some (.builtin initId))) (gl : Gl X x) (at_ : X.mg x = some (.ref C)) (ha : PA X (e :: es) ta)
    (nd : (x == ("__debug__" : Str)) = false := by decide) (he : starEach (e :: es) X.env = (false, eval e X.env) :: starEach es X.env := by rfl) (hpl : (backTo pos (starEach es X.env)).any (·.1) = false := by rfl) :
    PE X (.Call (.Name x p) (e :: es) [] pos) (tMkV0 C ta) := by
  constructor
  intro pl s σ H Q I h
  refine wpAny_Call_Name_kw (ld_glob I gl at_ ?_ nd)
  refine PySem.W.callWith_K (h₀ := X.base) I.ok.mod.kin T.kC (thn (ha.run pos pl s σ H _ I h) ?_) he hpl
  rintro us s1 ⟨vs, G, J, rv, few, q⟩
  refine ⟨J.kIn, ?_⟩
  refine run_mkV0 Fn L S cB T iC J ?_ q
  show us.length ≤ sizeLine
  rw [← rv.length, sizeLine_eq]
  omega
theorem pe_mkV00 {sB initId : String} (Fn : ExcBaseFacts nB newId inN bmN) (L : PySem.HandSPX.LineOk nB bmB) (S : PySem.HandSPX.StartOk sB initId) (cB : bmB.contains (.type sB) = true) (T : OexF X.K bmB newId C)
    (iC : PySem.W.findIn X.K (.ref C) "__init__" = some (some (.builtin initId))) (gl : Gl X x) (at_ : X.mg x = some (.ref C)) (nd : (x == ("__debug__" : Str)) = false := by decide) :
    PE X (.Call (.Name x p) [] [] pos) (fun σ H Q => ∀ a, H a = none → Q (.ref a) (upd H a (exo a C none))) := by
  constructor
  intro pl s σ H Q I h
  refine wpAny_Call_Name_kw (ld_glob I gl at_ ?_ nd)
  refine PySem.W.callWith_K0 I.kIn T.kC ?_
  refine run_mkV0 (us := []) Fn L S cB T iC I ?_ h
  rw [sizeLine_eq]
  exact Nat.zero_le _
end
end L2
/-! Of the exception that the suite holds, one of several classes: isinstance by one class and by a tuple of them, a field. -/
namespace Gr
open PySem PySem.Spec PyProof.Rows L2
/-- the exception is of C, its fields fs -/
def Of (K : PySem.W.Frag) (cls : Value) (d : Option Addr) (H : Hp) (C : Addr) (fs : List (Str × V)) : Prop := ExcC K C ∧ cls = .ref C ∧ ∃ dd : Addr, d = some dd ∧ H dd = some (.xd fs)
def rIsG (K : PySem.W.Frag) (a : Addr) (cls : Value) (d : Option Addr) : List V → Hp → VK → Prop := fun xs H Q => ∃ (C D : Addr) (fs : List (Str × V)) (b : Bool), xs = [.ref a, .ref D] ∧ Of K cls d H C fs ∧ PySem.W.kitOne K (.ref C) (.ref D) = some b ∧ Q (.bl b) H
def rIsGT (K : PySem.W.Frag) (a : Addr) (cls : Value) (d : Option Addr) : List V → Hp → VK → Prop := fun xs H Q => ∃ (C tp : Addr) (fs : List (Str × V)) (cs : List V) (us : List Value) (b : Bool), xs = [.ref a, .ref tp] ∧ H tp = some (.tup cs) ∧ Paired ClsV cs us ∧ Of K cls d H C fs ∧
  PySem.W.kitAny K (.ref C) us = some b ∧ Q (.bl b) H
def tXfG (K : PySem.W.Frag) (a : Addr) (cls : Value) (d : Option Addr) (f : Str) (te : TE) : TE := fun σ H Q => te σ H fun x H1 => x = .ref a ∧ ∃ (C : Addr) (fs : List (Str × V)) (v : V), Of K cls d H1 C fs ∧ PySem.W.findIn K (.ref C) f = some none ∧ fs.lookup f = some v ∧ Q v H1
section
variable {X : Cx} {a : Addr} {oe : Obj} {cls : Value} {d : Option Addr} {pn : List (Addr × Obj)}
theorem of_inst {pins : List (Addr × Obj)} {σ : L2.St} {H : Hp} {s : Shared} {C : Addr} {fs : List (Str × V)} (I : Inv (X.suite a ((a, oe) :: pn)) pins σ H s) (hz : Zc cls d oe) (hf : ∃ vs, oe.data = .fields vs) (h : Of X.K cls d H C fs) :
    ∃ od, PySem.W.InstAt s.heap a oe C (some od) := by
  obtain ⟨T, rfl, dd, rfl, hx⟩ := h
  obtain ⟨at_, _⟩ := I.pin (a, oe) (List.mem_append_left _ List.mem_cons_self)
  obtain ⟨vs, hd⟩ := hf
  have ok : ObjOk X.prog X.w H s.heap dd (.xd fs) := I.hok dd _ hx
  obtain ⟨mA, ns, _⟩ := ok
  obtain ⟨od, ho, _⟩ := lookIn_ns ns
  exact ⟨od, at_, hz.1, by unfold PySem.W.notCls; rw [hd] <;> rfl, by rw [hz.2]; exact ho⟩
theorem call_isG (hz : Zc cls d oe) (hf : ∃ vs, oe.data = .fields vs) : CallR (X.suite a ((a, oe) :: pn)) (.builtin "isinstance") (rIsG X.K a cls d) := by
  intro pl sh σ H xs us Q I r h
  obtain ⟨C, D, fs, b, rfl, of_, e, q⟩ := h
  obtain ⟨u1, u2, rfl, r1, r2⟩ := vals2 r
  cases r1
  cases r2
  obtain ⟨od, J⟩ := of_inst I hz hf of_
  have T := of_.1
  exact PySem.W.kia_one (PySem.W.kitx_exc (cls_some T.hd) T.hg T.hk T.hs T.ha T.hn T.ht T.hm) I.kIn J e (fun z => nomatch z) fun tk => ⟨.bl b, H, I.kept (t' := tk) fun _ _ z => z, rfl, q⟩
theorem call_isGT (hz : Zc cls d oe) (hf : ∃ vs, oe.data = .fields vs) : CallR (X.suite a ((a, oe) :: pn)) (.builtin "isinstance") (rIsGT X.K a cls d) := by
  intro pl sh σ H xs us Q I r h
  obtain ⟨C, tp, fs, cs, ws, b, rfl, hT, k, of_, e, q⟩ := h
  obtain ⟨u1, u2, rfl, r1, r2⟩ := vals2 r
  cases r1
  cases (show u2 = Value.ref tp from r2)
  obtain ⟨od, J⟩ := of_inst I hz hf of_
  have T := of_.1
  obtain ⟨_, its, rv, o, h1, h2, n, h3⟩ := (show ObjOk X.prog X.w H sh.heap tp (.tup cs) from I.hok tp _ hT)
  have e3 := ClsV.all k rv
  subst e3
  obtain ⟨oc, od2, dt, sl⟩ := o
  simp only at h2 h3
  subst h2 h3
  exact PySem.W.kia_tup (PySem.W.kitx_exc (cls_some T.hd) T.hg T.hk T.hs T.ha T.hn T.ht T.hm) I.kIn J h1 e (fun z => nomatch z) fun tk => ⟨.bl b, H, I.kept (t' := tk) fun _ _ z => z, rfl, q⟩
theorem pe_xfG {e : Expr} {te : TE} {pos : Pos} {n : Str} (hz : Zc cls d oe) (hf : ∃ vs, oe.data = .fields vs) (he : PE (X.suite a ((a, oe) :: pn)) e te) (hb : attributeBase e n X.env (eval e X.env) = eval e X.env := by rfl) :
    PE (X.suite a ((a, oe) :: pn)) (.Attribute e n pos) (tXfG X.K a cls d n te) := by
  refine ⟨fun pins s σ H Q I h => ?_⟩
  refine attr_of hb (thn (he.run pins s σ H _ I h) fun u s1 hh => ?_)
  obtain ⟨x, H1, I1, rx, ex, C, fs, v, of_, hno, l, q⟩ := hh
  subst ex
  obtain rfl : u = Value.ref a := rx
  have T := of_.1
  obtain ⟨T', rfl, dd, rfl, ea⟩ := of_
  obtain ⟨ha, _⟩ := I1.pin (a, oe) (List.mem_append_left _ List.mem_cons_self)
  obtain ⟨vs, hd⟩ := hf
  have hx : ObjOk X.prog X.w H1 s1.heap dd (.xd fs) := I1.hok dd _ ea
  obtain ⟨mA, hns, hr⟩ := hx
  obtain ⟨od, ho, hl⟩ := lookIn_ns hns
  obtain ⟨u, hu, ru⟩ := RelO.some_of (v := v) (o := mA n) (by rw [← l]; exact hr n)
  have J : PySem.W.InstAt s1.heap a oe C (some od) := ⟨ha, hz.1, by unfold PySem.W.notCls; rw [hd] <;> rfl, by rw [hz.2]; exact ho⟩
  have F := xf_of T
  exact HandSPX.exc_get I1.kIn J F.ga F.gg F.exC (PySem.W.findObj_own F.hdC hno rfl (by rw [hl, hu])) (handed_of ru) ⟨v, H1, I1.tok _, ru, q⟩
end
end Gr
/-! Of an error that stands in the heap: isinstance, its fields, a further field. -/
namespace PySem.HandSPX
open PySem PySem.Spec PyProof.Rows
open Builtin Builtin.ObjectAttr
section
variable {prog : Program} {w : World} {A : Around} {hp : Heap} {g : Array GenState} {d : Drawn} {t : Nat} {os : OsState} {R : Result → Shared → Prop}
/-- a further field of an exception that is being made, whatever its family -/
theorem gr_osb {K : W.Frag} {f : Str} {ft : Tok} {v : Value} {e C dx : Addr} {vs : Array Value} {cd : ClassData} {m0 : Str → Option Value} {nl : List Str} (X : K.In hp) (he : hp.get? e = some { cls := .ref C, dict := some dx, data := .fields vs })
    (ns : hp.Ns1 dx m0) (wi : Within m0 nl) (few : nl.length ≤ 1000) (hc : W.clsIn K C = some cd)
    (some_ : cd.mro.isEmpty = false) (ob : cd.mro.contains (.type "object") = true) (free : refuseLoop (.ref e) "__setattr__" cd.mro = pure ()) (dict_ : cd.hasDict = true) (no : W.findIn K (.ref C) f = some none)
    (q : ∀ G t2, (∀ b o, b ≠ dx → hp.get? b = some o → G.get? b = some o) → G.Ns1 dx (fun y => if y = f then some v else m0 y) → R (.ok (.ret .none)) ⟨G, g, d, t2, os⟩) :
    codeAny (model prog w) A (.call (.builtin "object.__setattr__") ⟨[.ref e, .str f ft, v], []⟩) R ⟨hp, g, d, t, os⟩ := by
  obtain ⟨oD, _, _, hoD, _, _⟩ := ns.count wi
  have J : W.InstAt hp e { cls := .ref C, dict := some dx, data := .fields vs } C (some oD) := ⟨he, rfl, rfl, hoD⟩
  have S := F.store_object
  have is : W.Looks (model prog w) hp (isInstance (.ref e) (.type "object")) true := by
    refine J.type.andThen (W.looks_mroIn X ?_)
    unfold W.mroIn
    rw [hc, Option.bind_some, if_neg (by rw [some_]; decide), ob]
  refine codeAny_call_builtin S.slot.plain S.entry (@W.check_slot (model prog w) _ _ ⟨hp, g, d, t, os⟩ "object.__setattr__" "object" "__setattr__" (.ref e) [.str f ft, v] [] _ S.kind S.split is (S.args _ _ _) ?_)
  have along : W.Looks (model prog w) hp (mroOf (.ref C)) cd.mro := W.Looks.andThen (W.looks_clsIn X hc) .now
  have told : W.Looks (model prog w) hp (classData C) cd := W.looks_clsIn X hc
  have none_ : W.Looks (model prog w) hp (storeTaker? none) none := W.Looks.now
  rw [W.osa_eq, refuse_eq]
  refine wpAny_bind (wpAny_bind ?_)
  refine J.type.at (wpAny_bind (along.at ?_))
  rw [free]
  refine wpAny_pure (wpAny_bind ?_)
  refine J.type.at (wpAny_bind ?_)
  refine (W.looks_findIn X no).at (wpAny_bind ?_)
  refine none_.at ?_
  show wpAny _ _ (storeInOwnDict (.ref e) (.ref C) (.str f ft) f v false) _ _ _
  obtain ⟨c1, c2, c3, c4, c5, has, c7, c8, c9, c10, c11⟩ := cd
  dsimp only at dict_
  subst dict_
  unfold storeInOwnDict
  unfold ownDictForStores
  repeat (first | (with_reducible refine PySem.OEX.store_in_old ns wi few ?_) | (with_reducible refine wpAny_loadPart_at he ?_) | (with_reducible refine told.at ?_) | wp_step)
  intro G t2 n2 same
  exact q G t2 (fun b o nb ho => (same.2 b nb).trans ho) n2
end
end PySem.HandSPX
namespace L2
open PySem PySem.Spec PyProof.Rows
section
variable {X : Cx} {pins : List (Addr × Obj)} {σ : St} {H : Hp} {s : Shared} {bmB : List Value} {newId : String} {C a dx : Addr} {f : Str} {y : V} {u : Value} {fs : List (Str × V)}
theorem gr_osu (T : OexF X.K bmB newId C) (I : Inv X pins σ H s) (e : H a = some (exo a C (some dx))) (ed : H dx = some (exd dx fs)) (few : fs.length ≤ 900) (no : PySem.W.findIn X.K (.ref C) f = some none) (ry : RelV y u) {A : Around} {E : Value → Shared → Prop} {Q : Unit → Shared → Prop}
    (h : ∀ s', Inv X pins σ (upd H dx (exd dx ((f, y) :: fs))) s' → Q () s') : wpAny (model X.prog X.w) A (setAttr (.ref a) f u) Q E s := by
  obtain ⟨nm, qn, N, bs, bm, sn, sub, ab, col, dd, k0, k1, k2, k3, k5, look, tail⟩ := T.cls
  have cl : PySem.W.clsIn X.K C = some { name := nm, bases := bs, mro := .ref C :: bm, ns := N, qualname := qn, hasDict := true, slotNames := sn, subclasses := sub, abstract := ab, collection := col, hasDel := false } := by
    unfold PySem.W.clsIn
    rw [look]
    all_goals rfl
  have tl : PySem.W.excTail bmB (.ref C :: bm) = true := tail
  obtain ⟨t1, there⟩ := exo_at I.hok e
  obtain ⟨mA, ns, rel⟩ := exd_at I.hok ed
  have wi := within_of rel
  obtain ⟨hp, g, dr, tk, os⟩ := s
  obtain ⟨oD, _, _, hoD, _, _⟩ := ns.count wi
  refine PySem.W.set_plain I.kIn (ox := ({ cls := .ref C, dict := some dx, data := .fields #[.ref t1, .none, .none, .none, .bool false, .none] } : Obj)) (od := some oD) ⟨there, rfl, rfl, hoD⟩ T.sa ?_
  refine PySem.HandSPX.gr_osb I.kIn there ns wi (by rw [List.length_map]; omega) cl rfl ?_ (PySem.W.excTail_pass (.ref a) (T.free a) _ tl) rfl no (fun G t2 keep n2 => ?_)
  · exact (PySem.W.excTail_contains "object" _ tl).trans T.obj
  have some_ : ∃ o, G.get? dx = some o := by
    obtain ⟨o, _, _, eo, _⟩ := n2
    exact ⟨o, eo⟩
  refine h _ (I.write (t' := t2) (x := dx) (e := dx) (o := exd dx ((f, y) :: fs)) ?_ (.inl rfl) keep some_ (exd_ok n2 (relO_put ry rel)))
  rw [ed]
  exact True.intro
/-- self.f = e, a further field of an error of a family -/
def tOsG (K : PySem.W.Frag) (bmB : List Value) (newId : String) (f : Str) (to te : TE) : TS := fun D σ H => te σ H fun y H1 => to σ H1 fun x H2 => ∃ (b C dx : Addr) (fs : List (Str × V)), x = .ref b ∧ OexF K bmB newId C ∧ PySem.W.findIn K (.ref C) f = some none ∧
  H2 b = some (exo b C (some dx)) ∧ H2 dx = some (exd dx fs) ∧ fs.length ≤ 900 ∧ D.nx σ (upd H2 dx (exd dx ((f, y) :: fs)))
theorem ps_osG {o e : Expr} {to te : TE} {p' pos : Pos} (ho : PE X o to) (he : PE X e te) (hs : swapsWith e (some (.Attribute o f p')) pos.line X.env = pure false := by rfl) : PS X (.Assign [.Attribute o f p'] e pos) (tOsG X.K bmB newId f to te) := by
  constructor
  intro pl sh σ H D I h
  refine plainObj_wpAny_Assign_Attribute ?_ hs
  refine thn (he.run pl sh σ H _ I h) fun v s1 k1 => ?_
  obtain ⟨y, H1, I1, r1, q1⟩ := k1
  refine thn (ho.run pl s1 σ H1 _ I1 q1) fun w s2 k2 => ?_
  obtain ⟨x, H2, I2, r2, b, C, dx, fs, rfl, T, no, at_, ad, few, q⟩ := k2
  obtain rfl : w = Value.ref b := r2
  exact gr_osu T I2 at_ ad few no r1 fun s' J => ⟨σ, _, J, q⟩
end
end L2
namespace Gr
open PySem PySem.Spec PyProof.Rows L2
/-- at a stands an error of the class at C, with these fields -/
def ErAt (H : Hp) (a C : Addr) (fs : List (Str × V)) : Prop := ∃ d : Option Addr, H a = some (exo a C d) ∧ ((fs = [] ∧ d = none) ∨ ∃ x, d = some x ∧ H x = some (exd x fs))
theorem ErAt.same {H G : Hp} {a C : Addr} {fs : List (Str × V)} (h : ErAt H a C fs) (e : ∀ b o, H b = some o → (∀ xs, o ≠ .lst xs) → (∀ ps, o ≠ .dK ps) → G b = some o) : ErAt G a C fs := by
  obtain ⟨d, h1, h2⟩ := h
  have l : ∀ {P : Heap → Prop}, (∀ xs, HO.ext P ≠ .lst xs) ∧ ∀ ps, HO.ext P ≠ .dK ps := fun {P} => ⟨fun xs z => (by cases z), fun ps z => (by cases z)⟩
  refine ⟨d, e _ _ h1 l.1 l.2, ?_⟩
  rcases h2 with h2 | ⟨x, e1, e2⟩
  · exact .inl h2
  · exact .inr ⟨x, e1, e _ _ e2 l.1 l.2⟩
theorem ErAt.le {H G : Hp} {a C : Addr} {fs : List (Str × V)} (h : ErAt H a C fs) (e : Same H G) : ErAt G a C fs := h.same fun b o z _ _ => e b o z
section
variable {X : Cx}
theorem ErAt.inst {pins : List (Addr × Obj)} {σ : L2.St} {H : Hp} {s : Shared} {a C : Addr} {fs : List (Str × V)} (I : Inv X pins σ H s) (h : ErAt H a C fs) :
    ∃ oe od, PySem.W.InstAt s.heap a oe C od ∧ ∀ f u, fs.lookup f = some u → ∃ uv, RelV u uv ∧ ∃ o2, od = some o2 ∧ PySem.W.lookIn f o2 = some (some uv) := by
  obtain ⟨d, h1, h2⟩ := h
  obtain ⟨t1, there⟩ := exo_at I.hok h1
  rcases h2 with ⟨rfl, rfl⟩ | ⟨x, rfl, hx⟩
  · exact ⟨_, none, ⟨there, rfl, rfl, trivial⟩, fun f u z => by cases z⟩
  · obtain ⟨mA, ns, rel⟩ := exd_at I.hok hx
    obtain ⟨od, ho, hl⟩ := lookIn_ns ns
    refine ⟨_, some od, ⟨there, rfl, rfl, ho⟩, fun f u z => ?_⟩
    obtain ⟨uv, e1, e2⟩ := RelO.some_of (v := u) (o := mA f) (by rw [← z]; exact rel f)
    exact ⟨uv, e2, od, rfl, by rw [hl f, e1]⟩
def rIsH (K : PySem.W.Frag) : List V → Hp → VK → Prop := fun xs H Q => ∃ (a C : Addr) (fs : List (Str × V)) (c : V) (u : Value) (b : Bool), xs = [.ref a, c] ∧ ClsV c u ∧ ErAt H a C fs ∧ ExcC K C ∧ PySem.W.kitOne K (.ref C) u = some b ∧ Q (.bl b) H
def rIsHT (K : PySem.W.Frag) : List V → Hp → VK → Prop := fun xs H Q => ∃ (a C tp : Addr) (fs : List (Str × V)) (cs : List V) (us : List Value) (b : Bool), xs = [.ref a, .ref tp] ∧ H tp = some (.tup cs) ∧ Paired ClsV cs us ∧ ErAt H a C fs ∧ ExcC K C ∧
  PySem.W.kitAny K (.ref C) us = some b ∧ Q (.bl b) H
def tFld (K : PySem.W.Frag) (f : Str) (te : TE) : TE := fun σ H Q => te σ H fun x H1 => ∃ (a C : Addr) (fs : List (Str × V)) (v : V), x = .ref a ∧ ErAt H1 a C fs ∧ ExcC K C ∧ PySem.W.findIn K (.ref C) f = some none ∧ fs.lookup f = some v ∧ Q v H1
theorem call_isH : CallR X (.builtin "isinstance") (rIsH X.K) := by
  intro pl sh σ H xs us Q I r h
  obtain ⟨a, C, fs, c, u, b, rfl, kc, at_, T, e, q⟩ := h
  obtain ⟨u1, u2, rfl, r1, r2⟩ := vals2 r
  cases r1
  obtain rfl := kc.eq r2
  obtain ⟨oe, od, J, _⟩ := at_.inst I
  exact PySem.W.kia_one (PySem.W.kitx_exc (cls_some T.hd) T.hg T.hk T.hs T.ha T.hn T.ht T.hm) I.kIn J e (fun z => nomatch z) fun tk => ⟨.bl b, H, I.kept (t' := tk) fun _ _ z => z, rfl, q⟩
theorem call_isHT : CallR X (.builtin "isinstance") (rIsHT X.K) := by
  intro pl sh σ H xs us Q I r h
  obtain ⟨a, C, tp, fs, cs, ws, b, rfl, hT, k, at_, T, e, q⟩ := h
  obtain ⟨u1, u2, rfl, r1, r2⟩ := vals2 r
  cases r1
  cases (show u2 = Value.ref tp from r2)
  obtain ⟨oe, od, J, _⟩ := at_.inst I
  obtain ⟨_, its, rv, o, h1, h2, n, h3⟩ := (show ObjOk X.prog X.w H sh.heap tp (.tup cs) from I.hok tp _ hT)
  have e3 := ClsV.all k rv
  subst e3
  obtain ⟨oc, od2, dt, sl⟩ := o
  simp only at h2 h3
  subst h2 h3
  exact PySem.W.kia_tup (PySem.W.kitx_exc (cls_some T.hd) T.hg T.hk T.hs T.ha T.hn T.ht T.hm) I.kIn J h1 e (fun z => nomatch z) fun tk => ⟨.bl b, H, I.kept (t' := tk) fun _ _ z => z, rfl, q⟩
theorem pe_fld {e : Expr} {te : TE} {pos : Pos} {n : Str} (he : PE X e te) (hb : attributeBase e n X.env (eval e X.env) = eval e X.env := by rfl) : PE X (.Attribute e n pos) (tFld X.K n te) := by
  constructor
  intro pl s σ H Q I h
  refine attr_of hb (thn (he.run pl s σ H _ I h) fun u s1 hh => ?_)
  obtain ⟨x, H1, I1, rx, a, C, fs, v, rfl, at_, T, no, l, q⟩ := hh
  obtain rfl : u = Value.ref a := rx
  obtain ⟨oe, od, J, get⟩ := at_.inst I1
  obtain ⟨uv, ru, o2, rfl, lk⟩ := get n v l
  have F := xf_of T
  exact HandSPX.exc_get I1.kIn J F.ga F.gg F.exC (PySem.W.findObj_own F.hdC no rfl lk) (handed_of ru) ⟨v, H1, I1.tok _, ru, q⟩
end
/-! ### how a class makes its errors -/
/-- the maker of the class at C, whatever its family -/
structure MkOk (K : PySem.W.Frag) (C : Addr) (bmB : List Value) (newId : String) : Prop where
  fn : ∃ nB inN bmN, ExcBaseFacts nB newId inN bmN ∧ PySem.HandSPX.LineOk nB bmB
  ox : OexF K bmB newId C
/-- __init__ of one field -/
def spI1 (K : PySem.W.Frag) (f : Str) : Sp := fun vs H Q _ => ∃ (a C : Addr) (x : V) (bmB : List Value) (newId : String), vs = [.ref a, x] ∧ H a = some (exo a C none) ∧ OexF K bmB newId C ∧ PySem.W.findIn K (.ref C) f = some none ∧
  ∀ dx, H dx = none → dx ≠ a → Q .non (upd (upd H dx (exd dx [(f, x)])) a (exo a C (some dx)))
/-- of two -/
def spI2 (K : PySem.W.Frag) (f g : Str) : Sp := fun vs H Q _ => ∃ (a C : Addr) (x y : V) (bmB : List Value) (newId : String), vs = [.ref a, x, y] ∧ H a = some (exo a C none) ∧ OexF K bmB newId C ∧ PySem.W.findIn K (.ref C) f = some none ∧ PySem.W.findIn K (.ref C) g = some none ∧
  ∀ dx, H dx = none → dx ≠ a → Q .non (upd (upd (upd H dx (exd dx [(f, x)])) a (exo a C (some dx))) dx (exd dx [(g, y), (f, x)]))
theorem upd_keeps {H : Hp} {a : Addr} {o : HO} (h : H a = none) : Same H (upd H a o) := fun b u e => by
  rw [upd_ne (ne_of_none e h)]
  exact e
/-- a class with one field -/
structure ErrV (P : Program) (w : World) (K : PySem.W.Frag) (mg : Str → Option Value) (base : Heap) (x f : Str) (fdI : FuncData) : Prop where
  how : ∃ bmB newId, MkOk K (He.ga K x) bmB newId
  gC : mg x = some (.ref (He.ga K x))
  iC : PySem.W.findIn K (.ref (He.ga K x)) "__init__" = some (some (.ref (He.ma K (He.ga K x) "__init__")))
  tI : PySem.W.typeIn K (.ref (He.ma K (He.ga K x) "__init__")) = some (.type "function")
  no : PySem.W.findIn K (.ref (He.ga K x)) f = some none
  ok : FnOk P w K mg base CX0 1 (He.ma K (He.ga K x) "__init__") fdI ["self", f] (spI1 K f)
  bI : Binds K fdI ["self", f] []
  kI : KBn K fdI ["self", f] 1 [f] (fun us ws => us ++ ws) (fun vs zs => vs ++ zs)
/-- the new error, told -/
def tNew (K : PySem.W.Frag) (x f : Str) (te : TE) : TE := fun σ H Q => te σ H fun y G => ∀ a F, Same G F → G a = none → ErAt F a (He.ga K x) [(f, y)] → Q (.ref a) F
section
variable {X : Cx} {x f : Str} {fdI : FuncData} {p pos : Pos} {e : Expr} {te : TE}
theorem new_one {G : Hp} {C : Addr} {y : V} {a : Addr} {Q : VK} {bmB : List Value} {newId : String} {K : PySem.W.Frag} (T : OexF K bmB newId C) (no : PySem.W.findIn K (.ref C) f = some none) (ha : G a = none) (q : ∀ a F, Same G F → G a = none → ErAt F a C [(f, y)] → Q (.ref a) F) :
    spI1 K f [.ref a, y] (upd G a (exo a C none)) (fun v F => v = .non ∧ Q (.ref a) F) (fun _ _ _ => False) := by
  refine ⟨a, C, y, bmB, newId, rfl, upd_same, T, no, fun dx h1 h2 => ⟨rfl, ?_⟩⟩
  have hd : G dx = none := by
    rw [upd_ne h2] at h1
    exact h1
  refine q a _ (fun b o z => ?_) ha ⟨some dx, upd_same, .inr ⟨dx, rfl, by rw [upd_ne h2, upd_same]⟩⟩
  rw [upd_ne (ne_of_none z ha), upd_ne (ne_of_none z hd), upd_ne (ne_of_none z ha)]
  exact z
/-- a promise, weakened -/
def tUp (te : TE) : TE := fun σ H Q => ∃ R : VK, te σ H R ∧ ∀ v G, R v G → Q v G
theorem pe_up (he : PE X e te) : PE X e (tUp te) := by
  constructor
  intro pl s σ H Q I h
  obtain ⟨R, h, q⟩ := h
  refine thn (he.run pl s σ H R I h) fun u s1 z => ?_
  obtain ⟨v, G, J, r, z⟩ := z
  exact ⟨v, G, J, r, q _ _ z⟩
theorem pe_new (E : ErrV X.prog X.w X.K X.mg X.base x f fdI) (hr : Room 2 X.A) (gl : Gl X x) (he : PE X e te) (nd : (x == ("__debug__" : Str)) = false := by decide)
    (hs : starEach [e] X.env = (false, eval e X.env) :: starEach [] X.env := by rfl) : PE X (.Call (.Name x p) [e] [] pos) (tNew X.K x f te) := by
  obtain ⟨bmB, newId, ⟨nB, inN, bmN, Fn, L⟩, T⟩ := E.how
  have r := pe_mkV (p := p) (pos := pos) Fn L T E.iC E.tI E.ok hr E.bI pass0 gl E.gC (pa_cons (pe_up he) pa_nil hs) nd hs rfl
  constructor
  intro pl s σ H Q I h
  refine r.run pl s σ H Q I ?_
  exact ⟨_, h, fun y G q => ⟨(by show 1 ≤ 1000; decide), fun a ha => new_one T E.no ha q⟩⟩
theorem pe_newK {kw : List Keyword} (E : ErrV X.prog X.w X.K X.mg X.base x f fdI) (hr : Room 2 X.A) (gl : Gl X x) (he : PK X kw (tCons (tUp te) tNil))
    (all : (backToKw pos (keywordEach kw X.env)).all (·.1.isSome) = true := by rfl) (named : (backToKw pos (keywordEach kw X.env)).filterMap (·.1) = [f] := by rfl) (nd : (x == ("__debug__" : Str)) = false := by decide)
    (plain : ((backTo pos (starEach [] X.env)).any (·.1) || (backToKw pos (keywordEach kw X.env)).any (·.1.isNone)) = false := by rfl) : PE X (.Call (.Name x p) [] kw pos) (tNew X.K x f te) := by
  obtain ⟨bmB, newId, ⟨nB, inN, bmN, Fn, L⟩, T⟩ := E.how
  have r := pe_mkVK (p := p) (pos := pos) Fn L T E.iC E.tI E.ok hr E.kI pass0 gl E.gC he all named nd plain
  constructor
  intro pl s σ H Q I h
  refine r.run pl s σ H Q I ?_
  exact ⟨_, h, fun y G q => ⟨rfl, fun a ha => new_one T E.no ha q⟩⟩
/-- f(x, y) of two fields, the names by places -/
theorem new_two {G : Hp} {C : Addr} {y z : V} {a : Addr} {Q : VK} {g : Str} {bmB : List Value} {newId : String} {K : PySem.W.Frag} (T : OexF K bmB newId C) (no : PySem.W.findIn K (.ref C) f = some none) (no2 : PySem.W.findIn K (.ref C) g = some none) (ha : G a = none)
    (q : ∀ a F, Same G F → G a = none → ErAt F a C [(g, z), (f, y)] → Q (.ref a) F) :
    spI2 K f g [.ref a, y, z] (upd G a (exo a C none)) (fun v F => v = .non ∧ Q (.ref a) F) (fun _ _ _ => False) := by
  refine ⟨a, C, y, z, bmB, newId, rfl, upd_same, T, no, no2, fun dx h1 h2 => ⟨rfl, ?_⟩⟩
  have hd : G dx = none := by
    rw [upd_ne h2] at h1
    exact h1
  refine q a _ (fun b o k => ?_) ha ⟨some dx, by rw [upd_ne (Ne.symm h2), upd_same], .inr ⟨dx, rfl, upd_same⟩⟩
  rw [upd_ne (ne_of_none k hd), upd_ne (ne_of_none k ha), upd_ne (ne_of_none k hd), upd_ne (ne_of_none k ha)]
  exact k
end
end Gr
namespace K2
open PySem L2 Gr
def top (i : Nat) : Stmt := PySem.Challenge.pw_greatrows_k02_refusals_apart.main.body.getD i (.Pass ⟨0, 0, 0, 0⟩)
/-- __init__ of the class in the row i -/
abbrev sInit (i : Nat) : Stmt := inClass (top i) 0
abbrev lCell : Stmt := top 32
abbrev lMix : Stmt := top 33
abbrev lBegun : Stmt := top 34
abbrev lPull : Stmt := top 35
abbrev lAny : Stmt := top 36
abbrev lGrown : Stmt := top 37
abbrev lMade : Stmt := top 38
abbrev lByName : Stmt := top 39
abbrev lKinds : Stmt := top 40
abbrev lAbove : Stmt := top 41
abbrev lFields : Stmt := top 42
abbrev lDue : Stmt := top 43
abbrev lLaw : Stmt := top 44
end K2
namespace K2
open PySem PySem.Spec PyProof.Rows L2 Gr
/-! ### draws -/
/-- the heap without the state -/
def off (H : Hp) (st : Addr) : Hp := fun b => if b = st then none else H b
theorem off_ne {H : Hp} {st b : Addr} (h : b ≠ st) : off H st b = H b := if_neg h
theorem off_le {H : Hp} {st : Addr} : Same (off H st) H := fun b o e => by
  unfold off at e
  split at e
  · cases e
  · exact e
/-- the state's list, of three ints -/
def StAt (H : Hp) (st : Addr) : Prop := ∃ a b c : Int, H st = some (.lst [.int a, .int b, .int c])
/-- all but the state stays, and that is three ints still -/
structure Turn (st : Addr) (H G : Hp) : Prop where
  now : StAt G st
  rest : Same (off H st) (off G st)
theorem Turn.keep {st : Addr} {H G : Hp} (t : Turn st H G) {b : Addr} {o : HO} (n : b ≠ st) (e : H b = some o) : G b = some o := by
  have q := t.rest b o (by rw [off_ne n]; exact e)
  rw [off_ne n] at q
  exact q
theorem Turn.trans {st : Addr} {H G F : Hp} (a : Turn st H G) (b : Turn st G F) : Turn st H F := ⟨b.now, a.rest.trans b.rest⟩
theorem Turn.refl {st : Addr} {H : Hp} (h : StAt H st) : Turn st H H := ⟨h, Same.refl _⟩
theorem StAt.some {st : Addr} {H : Hp} (h : StAt H st) : H st ≠ none := by
  obtain ⟨_, _, _, e⟩ := h
  rw [e]
  exact fun z => nomatch z
theorem StAt.same {st : Addr} {H G : Hp} (h : StAt H st) (e : Same H G) : StAt G st := by
  obtain ⟨a, b, c, q⟩ := h
  exact ⟨a, b, c, e _ _ q⟩
theorem Turn.of_same {st : Addr} {H G : Hp} (h : StAt H st) (e : Same H G) : Turn st H G := ⟨h.same e, fun b o q => by
  by_cases z : b = st
  · rw [z] at q
    unfold off at q
    rw [if_pos rfl] at q
    cases q
  · rw [off_ne z] at q ⊢
    exact e _ _ q⟩
theorem same_upd {H : Hp} {p : Addr} (h : H p = none) (o : HO) : Same H (upd H p o) := fun b u q => by rw [upd_ne (ne_of_none q h)]; exact q
theorem Turn.set {st : Addr} {H : Hp} (a b c : Int) : Turn st H (upd H st (.lst [.int a, .int b, .int c])) :=
  ⟨⟨a, b, c, upd_same⟩, fun d o q => by
    by_cases z : d = st
    · rw [z] at q
      unfold off at q
      rw [if_pos rfl] at q
      cases q
    · rw [off_ne z] at q ⊢
      rw [upd_ne z]
      exact q⟩

def spCell (K : PySem.W.Frag) : Sp := fun vs H Q _ => ∃ (a : Addr) (ns : List Int) (k : Int), vs = [.ref a, .int k] ∧ SqL K H a (ns.map V.int) ∧ 0 ≤ k ∧ ∀ n, Q (.int n) H
def spMix : Sp := fun vs H Q _ => ∃ a k : Int, vs = [.int a, .int k] ∧ ∀ n : Int, 0 ≤ n → n < 2 ^ 31 → Q (.int n) H
def spBegun : Sp := fun vs H Q _ => ∃ a : Int, vs = [.int a] ∧ ∀ (p : Addr) (H' : Hp), H p = none → StAt H' p → Same H H' → Q (.ref p) H'
def spPull : Sp := fun vs H Q _ => ∃ (st : Addr) (m : Int), vs = [.ref st, .int m] ∧ StAt H st ∧ 0 < m ∧ m < 2 ^ 64 ∧ ∀ (r : Int) (H' : Hp), 0 ≤ r → r < m → Turn st H H' → Q (.int r) H'
section
variable {P : Program} {w : World} {K : PySem.W.Frag} {mg : Str → Option Value} {base : Heap} {f fM fP : Addr} {fd fdM fdP : FuncData}
theorem scCell : FnScope ["_law_script", "_law_k"] ["_law_script", "_law_k"] (defScope lCell) := ⟨rfl, rfl, rfl, by decide +kernel, rfl, by decide +kernel, by decide +kernel⟩
theorem ok_cell (F : Fun K "_law_cell" "_law_cell" lCell f fd) (ml : mg "len" = none) : FnOk P w K mg base CX0 1 f fd ["_law_script", "_law_k"] (spCell K) := by
  refine F.ok scCell (fun vs H Q E h => ?_) (fun cdv A outer s H vs Q E hr h => ?_)
  · obtain ⟨a, ns, k, rfl, _⟩ := h
    rfl
  obtain ⟨a, ns, k, rfl, hS, h0, q⟩ := h
  refine ⟨_, pss_cons (ps_if (pt_cmpR op_lt (pv 1) (pe_callB call_len_seq rfl ml PySem.boot_len (pa_cons (pv 0) pa_nil)) (nomark _)) (pss_one (ps_ret (pe_ix ix_list (pv 0) (pv 1) (fun _ _ => rfl)))) pss_nil)
    (pss_one (ps_ret (pe_op op_add (pe_op op_mul pe_int (pv 1)) pe_int))), ?_⟩
  refine ⟨_, rfl, _, rfl, a, _, rfl, .inl hS, _, _, rfl, rfl, _, rfl, ?_⟩
  refine ite2 (fun c => ?_) (fun c => ?_)
  · have c' : k < (((ns.map V.int).length : Nat) : Int) := of_decide_eq_true c
    rw [List.length_map] at c'
    have hk : k.toNat < ns.length := by omega
    have ek : k = ((k.toNat : Nat) : Int) := by omega
    have at_ : atI (ns.map V.int) ((k.toNat : Nat) : Int) = some (.int ns[k.toNat]) := atI_nat (by rw [List.getElem?_map, List.getElem?_eq_getElem hk] <;> rfl)
    rw [← ek] at at_
    exact ⟨_, rfl, _, rfl, a, _, _, _, rfl, rfl, hS, at_, q _⟩
  · exact ⟨_, rfl, _, _, rfl, rfl, .inl ⟨by decide, by decide⟩, _, _, rfl, rfl, q _⟩
theorem scMix : FnScope ["_law_cell_here", "_law_k", "_law_number"] ["_law_cell_here", "_law_k"] (defScope lMix) := ⟨rfl, rfl, rfl, by decide +kernel, rfl, by decide +kernel, by decide +kernel⟩
theorem modBounds (a : Int) (m : Int) (h : 0 < m) : 0 ≤ a % m ∧ a % m < m := ⟨Int.emod_nonneg _ (by omega), Int.emod_lt_of_pos _ h⟩
theorem ok_mix (F : Fun K "_law_mix" "_law_mix" lMix f fd) : FnOk P w K mg base CX0 1 f fd ["_law_cell_here", "_law_k"] spMix := by
  refine F.ok scMix (fun vs H Q E h => ?_) (fun cdv A outer s H vs Q E hr h => ?_)
  · obtain ⟨a, k, rfl, _⟩ := h
    rfl
  obtain ⟨a, k, rfl, q⟩ := h
  refine ⟨_, pss_cons (ps_set (i := 2) scMix.nd rfl (Or.inl rfl) (pe_op op_mod (pe_op op_add (pe_op op_add (pv 0) (pe_op op_mul pe_int (pv 1))) pe_int) pe_int))
    (pss_cons (ps_set (i := 2) scMix.nd rfl (Or.inl rfl) (pe_op op_mod (pe_op op_mul (pe_op op_mod (pe_op op_mul (pv 2) (pv 2)) pe_int) pe_int) pe_int))
    (pss_one (ps_ret (pe_op op_fdiv (pe_op op_mod (pe_op op_mul (pv 2) (pe_op op_add (pv 2) pe_int)) pe_int) pe_int)))), ?_⟩
  refine ⟨_, rfl, _, rfl, _, _, rfl, rfl, .inl ⟨by decide, by decide⟩, _, _, rfl, rfl, _, _, rfl, rfl, _, _, rfl, rfl, (by show (0 : Int) < 2147483629; decide), ?_⟩
  have b1 := modBounds (a + 7919 * k + 65101) 2147483629 (by decide)
  refine ⟨_, rfl, _, rfl, _, _, rfl, rfl, .inl ⟨by omega, by omega⟩, _, _, rfl, rfl, (by show (0 : Int) < 2147483587; decide), ?_⟩
  have b2 := modBounds ((a + 7919 * k + 65101) % 2147483629 * ((a + 7919 * k + 65101) % 2147483629)) 2147483587 (by decide)
  refine ⟨_, _, rfl, rfl, .inl ⟨by omega, by omega⟩, _, _, rfl, rfl, (by show (0 : Int) < 2147483549; decide), ?_⟩
  have b3 := modBounds ((a + 7919 * k + 65101) % 2147483629 * ((a + 7919 * k + 65101) % 2147483629) % 2147483587 * 48271) 2147483549 (by decide)
  refine ⟨_, rfl, _, rfl, _, _, rfl, rfl, _, _, rfl, rfl, .inl ⟨by omega, by omega⟩, _, _, rfl, rfl, (by show (0 : Int) < 2147483543; decide), _, _, rfl, rfl, ⟨by decide, by decide⟩, ?_⟩
  generalize ((a + 7919 * k + 65101) % 2147483629 * ((a + 7919 * k + 65101) % 2147483629) % 2147483587 * 48271) % 2147483549 = z
  have b4 := modBounds (z * (z + 31)) 2147483543 (by decide)
  exact q _ (by omega) (by omega)
theorem scBegun : FnScope ["_law_cell_here"] ["_law_cell_here"] (defScope lBegun) := ⟨rfl, rfl, rfl, by decide +kernel, rfl, by decide +kernel, by decide +kernel⟩
theorem ok_begun (F : Fun K "_law_begun" "_law_begun" lBegun f fd) (mm : mg "max" = none) : FnOk P w K mg base CX0 1 f fd ["_law_cell_here"] spBegun := by
  refine F.ok scBegun (fun vs H Q E h => ?_) (fun cdv A outer s H vs Q E hr h => ?_)
  · obtain ⟨a, rfl, _⟩ := h
    rfl
  obtain ⟨a, rfl, q⟩ := h
  refine ⟨_, pss_one (ps_ret (pe_lst (pa_cons (pe_callB (call_max2 rfl) rfl mm (by decide +kernel) (pa_cons pe_int (pa_cons (pe_op op_sub (pv 0) (pe_op op_pow pe_int pe_int)) pa_nil)))
    (pa_cons (pe_op op_mod (pv 0) pe_int) (pa_cons pe_int pa_nil))))), ?_⟩
  refine ⟨_, rfl, _, _, rfl, rfl, ⟨by decide, by decide, by decide⟩, _, _, rfl, rfl, _, _, rfl, _, rfl, _, _, rfl, rfl, (by show (0 : Int) < 2147483629; decide), (by show 3 ≤ sizeLine; decide), fun p hp => ?_⟩
  exact q p _ hp ⟨_, _, _, upd_same⟩ (same_upd hp _)
theorem scPull : FnScope ["_law_state", "_law_so_many", "_law_digit", "_law_high", "_law_low"] ["_law_state", "_law_so_many"] (defScope lPull) := ⟨rfl, rfl, rfl, by decide +kernel, rfl, by decide +kernel, by decide +kernel⟩
theorem ok_pull (F : Fun K "_law_pull" "_law_pull" lPull f fd) (FM : FnOk P w K mg base CX0 1 fM fdM ["_law_cell_here", "_law_k"] spMix) (bM : Binds K fdM ["_law_cell_here", "_law_k"] []) (kM : PySem.W.keepIn K (.ref fM) = true) (mM : mg "_law_mix" = some (.ref fM)) :
    FnOk P w K mg base CX0 2 f fd ["_law_state", "_law_so_many"] spPull := by
  refine F.ok scPull (fun vs H Q E h => ?_) (fun cdv A outer s H vs Q E hr h => ?_)
  · obtain ⟨st, m, rfl, _⟩ := h
    rfl
  obtain ⟨st, m, rfl, ⟨a, b, c, hS⟩, m0, m1, q⟩ := h
  have lm : m.natAbs < 2 ^ 64 := by omega
  refine ⟨_, pss_cons (ps_if (pt_cmpR op_gt (pe_ix ix_list (pv 0) pe_int (fun _ _ => rfl)) pe_int (nomark _))
      (pss_cons (ps_set (i := 2) scPull.nd rfl (Or.inl rfl) (pe_op op_mod (pe_ix ix_list (pv 0) pe_int (fun _ _ => rfl)) (pv 1)))
      (pss_cons (ps_asg (pe_op op_fdivW (pe_ix ix_list (pv 0) pe_int (fun _ _ => rfl)) (pv 1)) (pg_sub (pv 0) pe_int set_list))
      (pss_one (ps_ret (pv 2))))) pss_nil)
    (pss_cons (ps_asg (pe_op op_add (pe_ix ix_list (pv 0) pe_int (fun _ _ => rfl)) pe_int) (pg_sub (pv 0) pe_int set_list))
    (pss_cons (ps_set (i := 3) scPull.nd rfl (Or.inl rfl) (pe_call FM (hr.mono (by decide)) rfl mM kM bM .nil pass0 (pa_cons (pe_ix ix_list (pv 0) pe_int (fun _ _ => rfl)) (pa_cons (pe_op op_mul pe_int (pe_ix ix_list (pv 0) pe_int (fun _ _ => rfl))) pa_nil))))
    (pss_cons (ps_set (i := 4) scPull.nd rfl (Or.inl rfl) (pe_call FM (hr.mono (by decide)) rfl mM kM bM .nil pass0 (pa_cons (pe_ix ix_list (pv 0) pe_int (fun _ _ => rfl)) (pa_cons (pe_op op_add (pe_op op_mul pe_int (pe_ix ix_list (pv 0) pe_int (fun _ _ => rfl))) pe_int) pa_nil))))
    (pss_one (ps_ret (pe_op op_mod (pe_op op_add (pe_op op_mul (pv 3) pe_int) (pv 4)) (pv 1))))))), ?_⟩
  refine ⟨_, rfl, st, _, _, _, rfl, rfl, SqL.of hS, rfl, _, _, rfl, rfl, _, rfl, ?_⟩
  refine ite2 (fun cc => ?_) (fun cc => ?_)
  · have c0 : a > 0 := of_decide_eq_true cc
    have bm := modBounds a m m0
    refine ⟨_, rfl, st, _, _, _, rfl, rfl, SqL.of hS, rfl, _, rfl, _, _, rfl, rfl, m0, ?_⟩
    refine ⟨_, rfl, st, _, _, _, rfl, rfl, SqL.of hS, rfl, _, rfl, _, _, rfl, rfl, wide_div m0 lm (by decide) (by decide), ?_⟩
    refine ⟨_, rfl, st, _, 0, 0, rfl, rfl, hS, rfl, ?_⟩
    refine ⟨_, rfl, ?_⟩
    exact q _ _ bm.1 bm.2 (Turn.set (a / m) b c)
  · refine ⟨_, rfl, st, _, _, _, rfl, rfl, SqL.of hS, rfl, _, _, rfl, rfl, ?_⟩
    refine ⟨_, rfl, st, _, 2, 2, rfl, rfl, hS, rfl, ?_⟩
    have h2 : (upd H st (.lst [.int a, .int b, .int (c + 1)])) st = some (.lst [.int a, .int b, .int (c + 1)]) := upd_same
    refine ⟨_, rfl, st, _, _, _, rfl, rfl, SqL.of h2, rfl, _, rfl, st, _, _, _, rfl, rfl, SqL.of h2, rfl, _, _, rfl, rfl, .inl ⟨by decide, by decide⟩, ?_⟩
    refine ⟨_, _, rfl, fun n1 n1a n1b => ?_⟩
    refine ⟨_, rfl, st, _, _, _, rfl, rfl, SqL.of h2, rfl, _, rfl, st, _, _, _, rfl, rfl, SqL.of h2, rfl, _, _, rfl, rfl, .inl ⟨by decide, by decide⟩, _, _, rfl, rfl, ?_⟩
    refine ⟨_, _, rfl, fun n2 n2a n2b => ?_⟩
    have bm := modBounds (n1 * 268435399 + n2) m m0
    refine ⟨_, rfl, _, _, rfl, rfl, .inl ⟨by omega, by omega⟩, _, rfl, _, _, rfl, rfl, _, rfl, _, _, rfl, rfl, m0, ?_⟩
    exact q _ _ bm.1 bm.2 (Turn.set a b (c + 1))
end
end K2
/-! repr of data that is tracked: None, truths, ints, texts, lists, tuples, dicts of one text key. -/
namespace Gr
open PySem PySem.Spec PyProof.Rows L2

mutual
/-- the value reads as a datum -/
inductive Dq (K : PySem.W.Frag) (H : Hp) : V → PyData → Prop
  | non : Dq K H .non .none
  | bl (b : Bool) : Dq K H (.bl b) (.bool b)
  | int (i : Int) : Dq K H (.int i) (.int i)
  | str (x : Str) : Dq K H (.str x) (.str x)
  | lst {a : Addr} {xs : List V} {ds : List PyData} : SqL K H a xs → DqAll K H xs ds → Dq K H (.ref a) (.list ds)
  | tup {a : Addr} {xs : List V} {ds : List PyData} : SqT K H a xs → DqAll K H xs ds → Dq K H (.ref a) (.tuple ds)
  | dic {a : Addr} {x : Str} {v : V} {d : PyData} : H a = some (.dK [(Sum.inr x, v)]) → Dq K H v d → Dq K H (.ref a) (.dict [(.str x, d)])
inductive DqAll (K : PySem.W.Frag) (H : Hp) : List V → List PyData → Prop
  | nil : DqAll K H [] []
  | cons {v : V} {vs : List V} {d : PyData} {ds : List PyData} : Dq K H v d → DqAll K H vs ds → DqAll K H (v :: vs) (d :: ds)
end

theorem same_seqT {K : PySem.W.Frag} {H G : Hp} {a : Addr} {xs : List V} (e : Same H G) (h : SqT K H a xs) : SqT K G a xs := by
  rcases h with (h | ⟨o, h⟩) | h
  · exact .inl (.inl (e _ _ h))
  · exact .inl (.inr ⟨o, e _ _ h⟩)
  · exact .inr h

mutual
theorem Dq.same {K : PySem.W.Frag} {H G : Hp} (e : Same H G) : ∀ (d : PyData) (v : V), Dq K H v d → Dq K G v d
  | .none, _, h => by cases h; exact .non
  | .bool b, _, h => by cases h; exact .bl b
  | .int i, _, h => by cases h; exact .int i
  | .str x, _, h => by cases h; exact .str x
  | .list ds, _, h => by
    cases h with
    | lst hs ha => exact .lst (e.seq hs) (DqAll.same e ds _ ha)
  | .tuple ds, _, h => by
    cases h with
    | tup hs ha => exact .tup (same_seqT e hs) (DqAll.same e ds _ ha)
  | .dict kvs, _, h => by
    cases h with
    | dic hd hv => exact .dic (e _ _ hd) (Dq.same e _ _ hv)
theorem DqAll.same {K : PySem.W.Frag} {H G : Hp} (e : Same H G) : ∀ (ds : List PyData) (vs : List V), DqAll K H vs ds → DqAll K G vs ds
  | [], _, h => by cases h; exact .nil
  | d :: ds, _, h => by
    cases h with
    | cons h1 h2 => exact .cons (Dq.same e d _ h1) (DqAll.same e ds _ h2)
end

theorem DqAll.len {K : PySem.W.Frag} {H : Hp} : ∀ {ds : List PyData} {vs : List V}, DqAll K H vs ds → vs.length = ds.length
  | _, _, .nil => rfl
  | _, _, .cons _ h => by rw [List.length_cons, List.length_cons, h.len]

section
variable {X : Cx} {pins : List (Addr × Obj)} {σ : L2.St} {H : Hp} {s : Shared}
/-- one text key: the dict's object, its entries' texts -/
theorem dic_shows {a : Addr} {x : Str} {v : V} {d : PyData} (I : Inv X pins σ H s) (hd : H a = some (.dK [(Sum.inr x, v)]))
    (ih : ∀ u, RelV v u → ∃ as bs, Reads s.heap u d as ∧ ReadAtMost s.heap d.depth bs ∧ ReprK X.prog X.w bs s.heap d.depth u d.shown)
    (zk : (PyData.shown (.str x)).length ≤ sizeLine) :
    ∃ (o : Obj) (l : List DictEntry) (n : Nat) (as bs : List Addr), s.heap.get? a = some o ∧ o.cls = .type "dict" ∧ o.data = .dict ⟨l⟩ n ∧ (a == sysModules) = false ∧
      Reads s.heap (.ref a) (.dict [(.str x, d)]) as ∧ ReadAtMost s.heap d.depth bs ∧ a ∉ bs ∧
      ReprEntriesK X.prog X.w bs s.heap d.depth l (PyData.shownKv [(.str x, d)]) := by
  obtain ⟨_, sys, vs, rel, o, es, ep, ho, hx, hes, hko, hp, nd⟩ := dk_of I.hok hd
  obtain ⟨l⟩ := es
  cases rel with
  | @cons _ q _ _ r1 rt =>
    cases rt
    obtain ⟨e1, rv⟩ := r1
    obtain ⟨qk, qv⟩ := q
    dsimp only at e1 rv
    subst e1
    have hp' : Pairs (mixKind X.prog X.w) l [(Sum.inr x, qv)] := hp
    cases hp' with
    | @cons e0 _ es' _ hk hv0 ht =>
      cases ht
      dsimp only at hv0 hk
      obtain ⟨t, ek⟩ := Value.isStrOf_shape (x := x) (v := e0.key) hk
      obtain ⟨as, bs, hr, hb, hkk⟩ := ih qv rv
      have rk : ReprK X.prog X.w bs s.heap d.depth e0.key (PyData.shown (.str x)) := by
        rw [ek]
        simp only [PyData.shown]
        exact .of_is (ReprIs.str x t (by simpa only [PyData.shown] using zk)) _ _ _
      have r1 : ReadsAll s.heap ([e0].map (·.key)) ([((.str x : PyData), d)].map (·.1)) ([] ++ []) := by
        simp only [List.map_cons, List.map_nil]
        rw [ek]
        exact .cons (Reads.str x t) .nil
      have r2 : ReadsAll s.heap ([e0].map (·.val)) ([((.str x : PyData), d)].map (·.2)) (as ++ []) := by
        simp only [List.map_cons, List.map_nil]
        rw [hv0]
        exact .cons hr .nil
      have rd : Reads s.heap (.ref a) (.dict [(.str x, d)]) _ := Reads.dict ho hx.1 hes r1 r2
      have dk : PyData.depthKv [((.str x : PyData), d)] = d.depth := by simp [PyData.depthKv, PyData.depth]
      have out := not_mem_of_deeper rd (n := d.depth) (by simp only [PyData.depth, dk]; omega) hb
      refine ⟨o, _, ep, _, bs, ho, hx.1, hes, sys, rd, hb, out, ?_⟩
      simp only [PyData.shownKv]
      refine .cons ?_ ?_ .nil
      · simpa only [PyData.shown] using rk
      · rw [hv0]
        exact hkk
theorem dic_parts {x : Str} {d : PyData} (hs : (PyData.dict [(.str x, d)]).showable = true) (hz : (PyData.dict [(.str x, d)]).shown.length ≤ sizeLine) :
    d.showable = true ∧ d.shown.length ≤ sizeLine ∧ (PyData.shown (.str x)).length ≤ sizeLine ∧ PyData.depth (.dict [(.str x, d)]) = d.depth + 1 := by
  have z1 : (dictText (PyData.shownKv [(.str x, d)])).length ≤ sizeLine := by simpa only [PyData.shown] using hz
  refine ⟨?_, ?_, ?_, by simp [PyData.depth, PyData.depthKv]⟩
  · have h1 : PyData.showableKv [(.str x, d)] = true := by simpa only [PyData.showable] using hs
    simp only [PyData.showableKv, PyData.showable, Bool.true_and, Bool.and_true] at h1
    exact h1
  · obtain ⟨p, hp1, hp2⟩ := PyData.shownKv_val_le [(.str x, d)] d.shown (by simp only [List.map_cons, List.map_nil, PyData.shownAll]; exact List.mem_cons_self ..)
    exact Nat.le_trans hp2 (Nat.le_trans (dictText_mem_le hp1) z1)
  · obtain ⟨p, hp1, hp2⟩ := PyData.shownKv_key_le [(.str x, d)] (PyData.shown (.str x)) (by simp only [List.map_cons, List.map_nil, PyData.shownAll]; exact List.mem_cons_self ..)
    exact Nat.le_trans hp2 (Nat.le_trans (dictText_mem_le hp1) z1)
mutual
/-- what a datum's text leans on -/
theorem Dq.shows (I : Inv X pins σ H s) : ∀ (d : PyData) (v : V) (u : Value), Dq X.K H v d → RelV v u → d.showable = true → d.shown.length ≤ sizeLine →
    ∃ as bs, Reads s.heap u d as ∧ ReadAtMost s.heap d.depth bs ∧ ReprK X.prog X.w bs s.heap d.depth u d.shown
  | .none, _, _, h, r, _, _ => by
    cases h
    cases r
    exact ⟨_, [], Reads.none, (fun _ z => nomatch z), by simp only [PyData.shown]; exact .of_is ReprIs.none _ _ _⟩
  | .bool b, _, _, h, r, _, _ => by
    cases h
    cases r
    exact ⟨_, [], Reads.bool b, (fun _ z => nomatch z), by simp only [PyData.shown]; exact .of_is (ReprIs.bool b) _ _ _⟩
  | .int i, _, _, h, r, hs, _ => by
    cases h
    obtain ⟨t, rfl⟩ := r
    exact ⟨_, [], Reads.int i t, (fun _ z => nomatch z), by simp only [PyData.shown]; exact .of_is (ReprIs.int t (by simpa [PyData.showable] using hs)) _ _ _⟩
  | .str x, _, _, h, r, _, hz => by
    cases h
    obtain ⟨t, rfl⟩ := r
    exact ⟨_, [], Reads.str x t, (fun _ z => nomatch z), by simp only [PyData.shown]; exact .of_is (ReprIs.str x t (by simpa only [PyData.shown] using hz)) _ _ _⟩
  | .list ds, _, _, h, r, hs, hz => by
    cases h with
    | lst hl ha =>
      cases r
      obtain ⟨its, rv, ⟨o, n, ho, hc, _, hd⟩, _⟩ := I.list hl
      have z1 : (listText (PyData.shownAll ds)).length ≤ sizeLine := by simpa only [PyData.shown] using hz
      obtain ⟨as, bs, hr, hb, hk⟩ := DqAll.shows I ds _ its ha rv (by simpa [PyData.showable] using hs) fun t ht => Nat.le_trans (listText_mem_le ht) z1
      have rd := Reads.list ho hc hd hr
      have out := not_mem_of_deeper rd (by simp only [PyData.depth]; omega) hb
      refine ⟨_, _, rd, ReadAtMost.cons rd (by simp only [PyData.depth]; omega) hb, ?_⟩
      simp only [PyData.depth, PyData.shown]
      cases its with
      | nil =>
        cases ds with
        | nil =>
          simp only [PyData.shownAll, listText_nil]
          exact ReprK.listEmpty ho hc hd
        | cons d ds => cases hr
      | cons x l => exact ReprK.list ho hc hd out (by simpa using hk.length_eq) fun i y e => hk.item i y (by simpa using e)
  | .tuple ds, _, _, h, r, hs, hz => by
    cases h with
    | tup hl ha =>
      cases r
      obtain ⟨its, rv, ⟨o, ho, hc, n, hd⟩, _⟩ := I.tuple hl
      have z1 : (tupleText (PyData.shownAll ds)).length ≤ sizeLine := by simpa only [PyData.shown] using hz
      obtain ⟨as, bs, hr, hb, hk⟩ := DqAll.shows I ds _ its ha rv (by simpa [PyData.showable] using hs) fun t ht => Nat.le_trans (tupleText_mem_le ht) z1
      have rd := Reads.tuple ho hc hd hr
      have out := not_mem_of_deeper rd (by simp only [PyData.depth]; omega) hb
      refine ⟨_, _, rd, ReadAtMost.cons rd (by simp only [PyData.depth]; omega) hb, ?_⟩
      simp only [PyData.depth, PyData.shown]
      exact ReprK.tuple ho hc hd out hk
  | .dict kvs, _, _, h, r, hs, hz => by
    cases h with
    | @dic a x v d hd hv =>
      cases r
      obtain ⟨hs', zv, zk, hdep⟩ := dic_parts hs hz
      obtain ⟨o, l, n, as, bs, ho, hc, hes, sys, rd, hb, out, hE⟩ := dic_shows I hd (fun u ru => Dq.shows I d v u hv ru hs' zv) zk
      refine ⟨_, _, rd, ReadAtMost.cons rd (n := d.depth) (by rw [hdep]; omega) hb, ?_⟩
      rw [hdep]
      simp only [PyData.shown]
      exact ReprK.dict ho hc hes sys out hE
theorem DqAll.shows (I : Inv X pins σ H s) : ∀ (ds : List PyData) (vs : List V) (us : List Value), DqAll X.K H vs ds → Vals vs us → PyData.showableAll ds = true → (∀ t ∈ PyData.shownAll ds, t.length ≤ sizeLine) →
    ∃ as bs, ReadsAll s.heap us ds as ∧ ReadAtMost s.heap (PyData.depthAll ds) bs ∧ ReprAllK X.prog X.w bs s.heap (PyData.depthAll ds) us (PyData.shownAll ds)
  | [], _, _, h, r, _, _ => by
    cases h
    cases r
    exact ⟨_, [], ReadsAll.nil, (fun _ z => nomatch z), by simp only [PyData.shownAll]; exact .nil⟩
  | d :: ds, _, _, h, r, hs, hz => by
    cases h with
    | cons h1 h2 =>
      cases r with
      | cons r1 r2 =>
        have hs' : d.showable = true ∧ PyData.showableAll ds = true := by simpa [PyData.showableAll] using hs
        obtain ⟨as, bs, q1, b1, k1⟩ := Dq.shows I d _ _ h1 r1 hs'.1 (hz _ (by simp only [PyData.shownAll]; exact List.mem_cons_self ..))
        obtain ⟨cs, ds', q2, b2, k2⟩ := DqAll.shows I ds _ _ h2 r2 hs'.2 fun t ht => hz t (by simp only [PyData.shownAll]; exact List.mem_cons_of_mem _ ht)
        refine ⟨_, bs ++ ds', ReadsAll.cons q1 q2, ?_, ?_⟩
        · simp only [PyData.depthAll]
          exact (b1.mono (Nat.le_max_left _ _)).append (b2.mono (Nat.le_max_right _ _))
        · simp only [PyData.depthAll, PyData.shownAll]
          exact .cons ((k1.more fun b hb => List.mem_append_left _ hb).level_le (Nat.le_max_left _ _)) (k2.more_le (fun b hb => List.mem_append_right _ hb) (Nat.le_max_right _ _))
end
end
end Gr
/-! repr(x) as a rule. -/
namespace Gr
open PySem PySem.Spec PyProof.Rows L2
section
variable {X : Cx}
def rShow (K : PySem.W.Frag) : List V → Hp → VK → Prop := fun xs H Q => ∃ v d, xs = [v] ∧ Dq K H v d ∧ d.showable = true ∧ d.shown.length ≤ sizeLine ∧ d.depth ≤ 60 ∧ Q (.str d.shown) H
theorem call_repr (hg : X.A.guards = some []) (hu : X.A.units + 64 < cLine) : CallR X (.builtin "repr") (rShow X.K) := by
  intro pins s σ H xs us Q I r h
  obtain ⟨v, d, rfl, hd, hs, hz, hp, q⟩ := h
  obtain ⟨u, rfl, r0⟩ := vals1 r
  obtain ⟨as, bs, rd, hb, hk⟩ := Dq.shows I d v u hd r0 hs hz
  have fin : ∀ h' t tk, (∀ b o, s.heap.get? b = some o → h'.get? b = some o) → EP X pins σ Q (.str d.shown t) { s with heap := h', toks := tk } := fun h' t tk k => ⟨.str d.shown, H, I.kept k, ⟨_, rfl⟩, q⟩
  cases rd with
  | none => exact PySem.P.repr_of_none (by simpa only [PyData.shown] using fin s.heap s.toks _ fun _ _ e => e)
  | bool b => exact PySem.P.repr_of_bool (by simpa only [PyData.shown] using fin s.heap s.toks _ fun _ _ e => e)
  | int i t => exact PySem.P.repr_of_int (by simpa [PyData.showable] using hs) (by simpa only [PyData.shown] using fin s.heap s.toks _ fun _ _ e => e)
  | str x t => exact PySem.P.repr_of_str (by simpa only [PyData.shown] using fin s.heap s.toks _ fun _ _ e => e) (by simpa only [PyData.shown] using hz)
  | list h1 h2 h3 h4 =>
    rename_i a o vs n ds as'
    have z1 : (listText (PyData.shownAll ds)).length ≤ sizeLine := by simpa only [PyData.shown] using hz
    cases hd with
    | lst hl ha =>
    cases r0
    obtain ⟨its, rv, ⟨o2, n2, ho2, _, _, hd2⟩, _⟩ := I.list hl
    obtain ⟨as2, bs2, hr2, hb2, hk2⟩ := DqAll.shows I ds _ its ha rv (by simpa [PyData.showable] using hs) fun t ht => Nat.le_trans (listText_mem_le ht) z1
    rw [h1] at ho2
    obtain rfl := Option.some.inj ho2
    rw [h3] at hd2
    injection hd2 with hd3 _
    have out := not_mem_of_deeper (.list h1 h2 h3 h4) (n := PyData.depthAll ds) (by simp only [PyData.depth]; omega) hb2
    simp only [PyData.depth] at hp
    simp only [PyData.shown] at fin
    refine call_repr_slot (by omega) ⟨_, h1, h2⟩ PySem.F.slot_list_repr.toG ?_
    subst hd3
    cases its with
    | nil =>
      cases ds with
      | nil =>
        simp only [PyData.shownAll, listText_nil] at fin
        exact call_list_repr_empty ⟨_, h1, h2⟩ h1 h3 ⟨_, _, rfl, fin s.heap _ _ fun _ _ e => e⟩
      | cons d ds => cases hr2
    | cons x l =>
      exact call_list_reprK h1 h2 h3 out (by simpa using hk2.length_eq) (fun i y e => hk2.item i y (by simpa using e)) hg (fun b _ => Clear.nil b) (by show X.A.units + 1 + _ < cLine; omega) (fun _ _ e => e) (fun h' u tk k => ⟨_, _, rfl, fin h' _ _ k⟩) z1
  | tuple h1 h2 h3 h4 =>
    rename_i a o vs n ds
    have z1 : (tupleText (PyData.shownAll ds)).length ≤ sizeLine := by simpa only [PyData.shown] using hz
    cases hd with
    | tup hl ha =>
    cases r0
    obtain ⟨its, rv, ⟨o2, ho2, _, n2, hd2⟩, _⟩ := I.tuple hl
    obtain ⟨as2, bs2, hr2, hb2, hk2⟩ := DqAll.shows I ds _ its ha rv (by simpa [PyData.showable] using hs) fun t ht => Nat.le_trans (tupleText_mem_le ht) z1
    rw [h1] at ho2
    obtain rfl := Option.some.inj ho2
    rw [h3] at hd2
    injection hd2 with hd3 _
    subst hd3
    have out := not_mem_of_deeper (.tuple h1 h2 h3 h4) (n := PyData.depthAll ds) (by simp only [PyData.depth]; omega) hb2
    simp only [PyData.depth] at hp
    simp only [PyData.shown] at fin
    refine call_repr_slot (by omega) ⟨_, h1, h2⟩ PySem.F.slot_tuple_repr ?_
    exact call_tuple_reprK h1 h2 h3 out hk2 hg (fun b _ => Clear.nil b) (by show X.A.units + 1 + _ < cLine; omega) (fun _ _ e => e) (fun h' u tk k => ⟨_, _, rfl, fin h' _ _ k⟩) z1
  | dict h1 h2 h3 h4 h5 =>
    cases hd with
    | dic ha hv =>
    cases r0
    obtain ⟨hs', zv, zk, hdep⟩ := dic_parts hs hz
    obtain ⟨o, l, n, as, bs, ho, hc, hes, sys, rd, hb, out, hE⟩ := dic_shows I ha (fun u ru => Dq.shows I _ _ u hv ru hs' zv) zk
    rw [hdep] at hp
    simp only [PyData.shown] at fin hz
    refine call_repr_slot (by omega) ⟨_, ho, hc⟩ PySem.F.slot_dict_repr ?_
    exact call_dict_reprK ho hc hes sys out hE hg (fun b _ => Clear.nil b) (by show X.A.units + 1 + _ < cLine; omega) (fun _ _ e => e) (fun h' u tk k => ⟨_, _, rfl, fin h' _ _ k⟩) hz
end
end Gr
/-! Small data: how many parts, how deep; small atoms. Their texts are short. -/
namespace Gr
open PySem PySem.Spec PyProof.Rows L2
mutual
def nodes : PyData → Nat
  | .list xs => nodesAll xs + 1
  | .tuple xs => nodesAll xs + 1
  | .dict kvs => nodesKv kvs + 1
  | .none => 1
  | .bool _ => 1
  | .int _ => 1
  | .str _ => 1
def nodesAll : List PyData → Nat
  | [] => 0
  | x :: xs => nodes x + nodesAll xs
def nodesKv : List (PyData × PyData) → Nat
  | [] => 0
  | (a, b) :: r => nodes a + nodes b + nodesKv r
end
def fineStr (x : Str) : Bool := decide (x.length ≤ 40) && x.cps.toList.all fun c => decide (c < 128)
mutual
def fine : PyData → Bool
  | .list xs => fineAll xs
  | .tuple xs => fineAll xs
  | .dict kvs => fineKv kvs
  | .none => true
  | .bool _ => true
  | .int i => decide (i.natAbs < 10 ^ 40)
  | .str x => fineStr x
def fineAll : List PyData → Bool
  | [] => true
  | x :: xs => fine x && fineAll xs
def fineKv : List (PyData × PyData) → Bool
  | [] => true
  | (a, b) :: r => fine a && fine b && fineKv r
end
theorem log_small {n : Nat} (h : n < 10 ^ 40) : n.log2 < 1920 := by
  have z : n < 2 ^ 133 := Nat.lt_of_lt_of_le h (by decide)
  have q : n.log2 < 133 := PySem.Flt.log2_lt_of (by decide) z
  omega
mutual
theorem showable_fine : ∀ d : PyData, fine d = true → d.showable = true
  | .none, _ => by simp only [PyData.showable]
  | .bool _, _ => by simp only [PyData.showable]
  | .str _, _ => by simp only [PyData.showable]
  | .int i, h => by
    simp only [fine] at h
    simp only [PyData.showable]
    exact decide_eq_true (log_small (of_decide_eq_true h))
  | .list xs, h => by simp only [PyData.showable]; exact showableAll_fine xs (by simpa only [fine] using h)
  | .tuple xs, h => by simp only [PyData.showable]; exact showableAll_fine xs (by simpa only [fine] using h)
  | .dict kvs, h => by simp only [PyData.showable]; exact showableKv_fine kvs (by simpa only [fine] using h)
theorem showableAll_fine : ∀ xs : List PyData, fineAll xs = true → PyData.showableAll xs = true
  | [], _ => by simp only [PyData.showableAll]
  | x :: xs, h => by
    simp only [fineAll, Bool.and_eq_true] at h
    simp only [PyData.showableAll, showable_fine x h.1, showableAll_fine xs h.2, Bool.and_self]
theorem showableKv_fine : ∀ kvs : List (PyData × PyData), fineKv kvs = true → PyData.showableKv kvs = true
  | [], _ => by simp only [PyData.showableKv]
  | (a, b) :: r, h => by
    simp only [fineKv, Bool.and_eq_true] at h
    simp only [PyData.showableKv, showable_fine a h.1.1, showable_fine b h.1.2, showableKv_fine r h.2, Bool.and_self]
end
theorem textFrom_sum : ∀ (ts : List Str) (k : Nat) (acc : Str), (textFrom k acc ts).length ≤ acc.length + (ts.map fun t => t.length + 2).sum
  | [], k, acc => by simp [textFrom]
  | t :: r, k, acc => by
    have q := textFrom_sum r (k + 1) (acc ++ (if k > 0 then ", " else "" : String) ++ t)
    have e : (acc ++ (if k > 0 then ", " else "" : String) ++ t).length ≤ acc.length + 2 + t.length := by
      rw [strLen_append, strLen_append]
      split
      · exact Nat.le_refl _
      · show acc.length + 0 + t.length ≤ _
        omega
    show (textFrom (k + 1) (acc ++ (if k > 0 then ", " else "" : String) ++ t) r).length ≤ _
    simp only [List.map_cons, List.sum_cons]
    omega
theorem listText_sum (ts : List Str) : (listText ts).length ≤ 2 + (ts.map fun t => t.length + 2).sum := by
  have q := textFrom_sum ts 0 "["
  unfold listText
  rw [strLen_append]
  have e1 : ((("[" : String) : Str)).length = 1 := rfl
  have e2 : ((("]" : String) : Str)).length = 1 := rfl
  rw [e1] at q
  rw [e2]
  omega
theorem join_sum : ∀ ts : List Str, (Str.join ", " ts).length ≤ (ts.map fun t => t.length + 2).sum
  | [] => by show 0 ≤ _; exact Nat.zero_le _
  | [x] => by show x.length ≤ _; simp
  | x :: y :: r => by
    have q := join_sum (y :: r)
    show (x ++ ", " ++ Str.join ", " (y :: r)).length ≤ _
    rw [strLen_append, strLen_append]
    have e2 : ((", " : String) : Str).length = 2 := rfl
    rw [e2, List.map_cons, List.sum_cons]
    omega
theorem tupleText_sum (ts : List Str) : (tupleText ts).length ≤ 3 + (ts.map fun t => t.length + 2).sum := by
  have q := join_sum ts
  unfold tupleText
  rw [strLen_append, strLen_append]
  have e1 : ((("(" : String) : Str)).length = 1 := rfl
  have e2 : (((if ts.length == 1 then ",)" else ")" : String) : Str)).length ≤ 2 := by split <;> decide
  rw [e1]
  omega
theorem dictText_sum (ts : List Str) : (dictText ts).length ≤ 2 + (ts.map fun t => t.length + 2).sum := by
  have q := join_sum ts
  unfold dictText
  rw [strLen_append, strLen_append]
  have e1 : ((("{" : String) : Str)).length = 1 := rfl
  have e2 : ((("}" : String) : Str)).length = 1 := rfl
  rw [e1, e2]
  omega
theorem nodes_pos : ∀ d : PyData, 1 ≤ nodes d
  | .none => by simp [nodes]
  | .bool _ => by simp [nodes]
  | .int _ => by simp [nodes]
  | .str _ => by simp [nodes]
  | .list _ => by simp [nodes]
  | .tuple _ => by simp [nodes]
  | .dict _ => by simp [nodes]
theorem fineStr_len {x : Str} (h : fineStr x = true) : (reprText x).length ≤ 402 := by
  unfold fineStr at h
  rw [Bool.and_eq_true] at h
  have h1 : x.length ≤ 40 := of_decide_eq_true h.1
  have q := PySem.StrLaws.reprText_len x fun c hc => by
    have z := List.all_eq_true.mp h.2 c hc
    have z' : c < 128 := of_decide_eq_true z
    exact Nat.lt_of_lt_of_le z' (by decide)
  omega
mutual
theorem shown_len : ∀ d : PyData, fine d = true → d.shown.length ≤ 500 * nodes d - 40
  | .none, _ => by simp only [PyData.shown, nodes]; decide
  | .bool b, _ => by cases b <;> (simp only [PyData.shown, nodes]; decide)
  | .int i, h => by
    simp only [fine] at h
    have q := int_text_length_le10 (k := 40) (by decide) (of_decide_eq_true h)
    have e : (PyData.shown (.int i)).length = (toString i).length := by
      simp only [PyData.shown]
      exact PySem.ofString_length _
    rw [e]
    simp only [nodes]
    omega
  | .str x, h => by
    have q := fineStr_len (x := x) (by simpa only [fine] using h)
    simp only [PyData.shown, nodes]
    omega
  | .list xs, h => by
    have q := shownAll_len xs (by simpa only [fine] using h)
    have z := listText_sum (PyData.shownAll xs)
    simp only [PyData.shown, nodes]
    omega
  | .tuple xs, h => by
    have q := shownAll_len xs (by simpa only [fine] using h)
    have z := tupleText_sum (PyData.shownAll xs)
    simp only [PyData.shown, nodes]
    omega
  | .dict kvs, h => by
    have q := shownKv_len kvs (by simpa only [fine] using h)
    have z := dictText_sum (PyData.shownKv kvs)
    simp only [PyData.shown, nodes]
    omega
theorem shownAll_len : ∀ xs : List PyData, fineAll xs = true → ((PyData.shownAll xs).map fun t => t.length + 2).sum ≤ 500 * nodesAll xs
  | [], _ => by simp [PyData.shownAll, nodesAll]
  | x :: xs, h => by
    simp only [fineAll, Bool.and_eq_true] at h
    have q1 := shown_len x h.1
    have q2 := shownAll_len xs h.2
    have q3 := nodes_pos x
    simp only [PyData.shownAll, nodesAll, List.map_cons, List.sum_cons]
    omega
theorem shownKv_len : ∀ kvs : List (PyData × PyData), fineKv kvs = true → ((PyData.shownKv kvs).map fun t => t.length + 2).sum ≤ 500 * nodesKv kvs
  | [], _ => by simp [PyData.shownKv, nodesKv]
  | (a, b) :: r, h => by
    simp only [fineKv, Bool.and_eq_true] at h
    have q1 := shown_len a h.1.1
    have q2 := shown_len b h.1.2
    have q3 := shownKv_len r h.2
    have q4 := nodes_pos a
    have q5 := nodes_pos b
    simp only [PyData.shownKv, nodesKv, List.map_cons, List.sum_cons]
    rw [strLen_append, strLen_append]
    have e2 : ((": " : String) : Str).length = 2 := rfl
    rw [e2]
    omega
end
/-- fine, of at most n parts, at most p deep -/
structure Fit (n p : Nat) (d : PyData) : Prop where
  ok : fine d = true
  few : nodes d ≤ n
  deep : d.depth ≤ p
theorem Fit.mono {n p n' p' : Nat} {d : PyData} (h : Fit n p d) (hn : n ≤ n') (hp : p ≤ p') : Fit n' p' d := ⟨h.ok, Nat.le_trans h.few hn, Nat.le_trans h.deep hp⟩
theorem Fit.shown {n p : Nat} {d : PyData} (h : Fit n p d) (hn : n ≤ 30000) : d.shown.length ≤ sizeLine := by
  have q := shown_len d h.ok
  have z := h.few
  have e := sizeLine_eq
  omega
/-- a list of such -/
structure FitAll (n p : Nat) (ds : List PyData) : Prop where
  ok : fineAll ds = true
  few : nodesAll ds ≤ n
  deep : PyData.depthAll ds ≤ p
theorem FitAll.nil {p : Nat} : FitAll 0 p [] := ⟨by simp [fineAll], by simp [nodesAll], by simp [PyData.depthAll]⟩
theorem FitAll.snoc {n m p : Nat} : ∀ {ds : List PyData} {d : PyData}, FitAll n p ds → Fit m p d → FitAll (n + m) p (ds ++ [d])
  | [], d, h, k => ⟨by simp [fineAll, k.ok], by simp [nodesAll]; have := k.few; omega, by simp [PyData.depthAll]; exact k.deep⟩
  | x :: xs, d, h, k => by
    obtain ⟨h1, h2, h3⟩ := h
    simp only [fineAll, Bool.and_eq_true] at h1
    simp only [nodesAll] at h2
    simp only [PyData.depthAll] at h3
    have q := FitAll.snoc (n := nodesAll xs) (ds := xs) ⟨h1.2, Nat.le_refl _, by omega⟩ k
    refine ⟨?_, ?_, ?_⟩
    · simp only [List.cons_append, fineAll, h1.1, q.ok, Bool.and_self]
    · have := q.few
      simp only [List.cons_append, nodesAll]
      omega
    · have := q.deep
      simp only [List.cons_append, PyData.depthAll]
      omega
theorem FitAll.list {n p : Nat} {ds : List PyData} (h : FitAll n p ds) : Fit (n + 1) (p + 1) (.list ds) := ⟨by simpa only [fine] using h.ok, by simp only [nodes]; have := h.few; omega, by simp only [PyData.depth]; have := h.deep; omega⟩
theorem FitAll.tuple {n p : Nat} {ds : List PyData} (h : FitAll n p ds) : Fit (n + 1) (p + 1) (.tuple ds) := ⟨by simpa only [fine] using h.ok, by simp only [nodes]; have := h.few; omega, by simp only [PyData.depth]; have := h.deep; omega⟩
theorem Fit.dict {n p : Nat} {x : Str} {d : PyData} (hx : fineStr x = true) (h : Fit n p d) : Fit (n + 2) (p + 1) (.dict [(.str x, d)]) :=
  ⟨by simp only [fine, fineKv, hx, h.ok, Bool.and_self], by simp only [nodes, nodesKv]; have := h.few; omega, by simp only [PyData.depth, PyData.depthKv]; have := h.deep; omega⟩
theorem DqAll.snoc {K : PySem.W.Frag} {H : Hp} : ∀ {ds : List PyData} {vs : List V} {d : PyData} {v : V}, DqAll K H vs ds → Dq K H v d → DqAll K H (vs ++ [v]) (ds ++ [d])
  | _, _, _, _, .nil, k => .cons k .nil
  | _, _, _, _, .cons h t, k => .cons h (t.snoc k)
end Gr
namespace K2
open PySem PySem.Spec PyProof.Rows L2 Gr
/-- an item of a written list of ints -/
theorem at_ints (ns : List Int) (k : Int) (h0 : 0 ≤ k) (h : k < (ns.length : Int)) : ∃ n, n ∈ ns ∧ atI (ns.map V.int) k = some (.int n) := by
  have hk : k.toNat < ns.length := by omega
  have ek : k = ((k.toNat : Nat) : Int) := by omega
  refine ⟨ns[k.toNat], List.getElem_mem hk, ?_⟩
  have q : atI (ns.map V.int) ((k.toNat : Nat) : Int) = some (.int ns[k.toNat]) := atI_nat (by rw [List.getElem?_map, List.getElem?_eq_getElem hk] <;> rfl)
  rw [← ek] at q
  exact q
/-- at any written list -/
theorem at_any (vs : List V) (k : Int) (h0 : 0 ≤ k) (h : k < (vs.length : Int)) : ∃ v, v ∈ vs ∧ atI vs k = some v := by
  have hk : k.toNat < vs.length := by omega
  have ek : k = ((k.toNat : Nat) : Int) := by omega
  refine ⟨vs[k.toNat], List.getElem_mem hk, ?_⟩
  have q : atI vs ((k.toNat : Nat) : Int) = some vs[k.toNat] := atI_nat (List.getElem?_eq_getElem hk)
  rw [← ek] at q
  exact q
theorem StAt.ne {st p : Addr} {H : Hp} (h : StAt H st) (hp : H p = none) : p ≠ st := fun z => h.some (by rw [← z]; exact hp)
/-- a new object beside the state -/
theorem Turn.new {st p : Addr} {H : Hp} (h : StAt H st) (hp : H p = none) (o : HO) : Turn st H (upd H p o) := Turn.of_same h (same_upd hp o)

/-- a def as a callee: its promise, how it binds, where it stands -/
structure Cal (P : Program) (w : World) (K : PySem.W.Frag) (mg : Str → Option Value) (base : Heap) (k : Nat) (x : Str) (ps : List Str) (sp : Sp) (f : Addr) (fd : FuncData) : Prop where
  ok : FnOk P w K mg base CX0 k f fd ps sp
  bd : Binds K fd ps []
  kp : PySem.W.keepIn K (.ref f) = true
  at_ : mg x = some (.ref f)
end K2
/-! repr of data that is tracked, dicts of one text key or of two, the second value an int, among them. -/
namespace Gr
open PySem PySem.Spec PyProof.Rows L2

mutual
/-- the value reads as a datum -/
inductive Dw (K : PySem.W.Frag) (H : Hp) : V → PyData → Prop
  | non : Dw K H .non .none
  | bl (b : Bool) : Dw K H (.bl b) (.bool b)
  | int (i : Int) : Dw K H (.int i) (.int i)
  | str (x : Str) : Dw K H (.str x) (.str x)
  | lst {a : Addr} {xs : List V} {ds : List PyData} : SqL K H a xs → DwAll K H xs ds → Dw K H (.ref a) (.list ds)
  | tup {a : Addr} {xs : List V} {ds : List PyData} : SqT K H a xs → DwAll K H xs ds → Dw K H (.ref a) (.tuple ds)
  | dic {a : Addr} {x : Str} {v : V} {d : PyData} : H a = some (.dK [(Sum.inr x, v)]) → Dw K H v d → Dw K H (.ref a) (.dict [(.str x, d)])
  | dic2 {a : Addr} {x y : Str} {i : Int} {v : V} {d : PyData} : H a = some (.dK [(Sum.inr x, v), (Sum.inr y, .int i)]) → Dw K H v d → Dw K H (.ref a) (.dict [(.str x, d), (.str y, .int i)])
inductive DwAll (K : PySem.W.Frag) (H : Hp) : List V → List PyData → Prop
  | nil : DwAll K H [] []
  | cons {v : V} {vs : List V} {d : PyData} {ds : List PyData} : Dw K H v d → DwAll K H vs ds → DwAll K H (v :: vs) (d :: ds)
end

mutual
theorem Dw.same {K : PySem.W.Frag} {H G : Hp} (e : Same H G) : ∀ (d : PyData) (v : V), Dw K H v d → Dw K G v d
  | .none, _, h => by cases h; exact .non
  | .bool b, _, h => by cases h; exact .bl b
  | .int i, _, h => by cases h; exact .int i
  | .str x, _, h => by cases h; exact .str x
  | .list ds, _, h => by
    cases h with
    | lst hs ha => exact .lst (e.seq hs) (DwAll.same e ds _ ha)
  | .tuple ds, _, h => by
    cases h with
    | tup hs ha => exact .tup (same_seqT e hs) (DwAll.same e ds _ ha)
  | .dict kvs, _, h => by
    cases h with
    | dic hd hv => exact .dic (e _ _ hd) (Dw.same e _ _ hv)
    | dic2 hd hv => exact .dic2 (e _ _ hd) (Dw.same e _ _ hv)
theorem DwAll.same {K : PySem.W.Frag} {H G : Hp} (e : Same H G) : ∀ (ds : List PyData) (vs : List V), DwAll K H vs ds → DwAll K G vs ds
  | [], _, h => by cases h; exact .nil
  | d :: ds, _, h => by
    cases h with
    | cons h1 h2 => exact .cons (Dw.same e d _ h1) (DwAll.same e ds _ h2)
end

theorem DwAll.len {K : PySem.W.Frag} {H : Hp} : ∀ {ds : List PyData} {vs : List V}, DwAll K H vs ds → vs.length = ds.length
  | _, _, .nil => rfl
  | _, _, .cons _ h => by rw [List.length_cons, List.length_cons, h.len]

section
variable {X : Cx} {pins : List (Addr × Obj)} {σ : L2.St} {H : Hp} {s : Shared}
/-- two text keys, the second value an int -/
theorem dic2_shows {a : Addr} {x y : Str} {i : Int} {v : V} {d : PyData} (I : Inv X pins σ H s) (hd : H a = some (.dK [(Sum.inr x, v), (Sum.inr y, .int i)]))
    (ih : ∀ u, RelV v u → ∃ as bs, Reads s.heap u d as ∧ ReadAtMost s.heap d.depth bs ∧ ReprK X.prog X.w bs s.heap d.depth u d.shown)
    (zk : (PyData.shown (.str x)).length ≤ sizeLine) (zy : (PyData.shown (.str y)).length ≤ sizeLine) (zi : (PyData.int i).showable = true) :
    ∃ (o : Obj) (l : List DictEntry) (n : Nat) (as bs : List Addr), s.heap.get? a = some o ∧ o.cls = .type "dict" ∧ o.data = .dict ⟨l⟩ n ∧ (a == sysModules) = false ∧
      Reads s.heap (.ref a) (.dict [(.str x, d), (.str y, .int i)]) as ∧ ReadAtMost s.heap d.depth bs ∧ a ∉ bs ∧
      ReprEntriesK X.prog X.w bs s.heap d.depth l (PyData.shownKv [(.str x, d), (.str y, .int i)]) := by
  obtain ⟨_, sys, vs, rel, o, es, ep, ho, hx, hes, hko, hp, nd⟩ := dk_of I.hok hd
  obtain ⟨l⟩ := es
  cases rel with
  | @cons _ q _ _ r1 rt =>
    cases rt with
    | @cons _ q2 _ _ r2 rt2 =>
    cases rt2
    obtain ⟨e1, rv⟩ := r1
    obtain ⟨e2, rv2⟩ := r2
    obtain ⟨qk, qv⟩ := q
    obtain ⟨qk2, qv2⟩ := q2
    dsimp only at e1 rv e2 rv2
    subst e1 e2
    obtain ⟨t2, rfl⟩ := rv2
    have hp' : Pairs (mixKind X.prog X.w) l [(Sum.inr x, qv), (Sum.inr y, .int i t2)] := hp
    cases hp' with
    | @cons e0 _ es' _ hk hv0 ht =>
    cases ht with
    | @cons e3 _ es3 _ hk3 hv3 ht3 =>
      cases ht3
      dsimp only at hv0 hk hv3 hk3
      obtain ⟨t, ek⟩ := Value.isStrOf_shape (x := x) (v := e0.key) hk
      obtain ⟨t3, ek3⟩ := Value.isStrOf_shape (x := y) (v := e3.key) hk3
      obtain ⟨as, bs, hr, hb, hkk⟩ := ih qv rv
      have rk : ReprK X.prog X.w bs s.heap d.depth e0.key (PyData.shown (.str x)) := by
        rw [ek]
        simp only [PyData.shown]
        exact .of_is (ReprIs.str x t (by simpa only [PyData.shown] using zk)) _ _ _
      have rk3 : ReprK X.prog X.w bs s.heap d.depth e3.key (PyData.shown (.str y)) := by
        rw [ek3]
        simp only [PyData.shown]
        exact .of_is (ReprIs.str y t3 (by simpa only [PyData.shown] using zy)) _ _ _
      have ri : ReprK X.prog X.w bs s.heap d.depth (.int i t2) (PyData.shown (.int i)) := by
        simp only [PyData.shown]
        exact .of_is (ReprIs.int t2 (by simpa [PyData.showable] using zi)) _ _ _
      have r1 : ReadsAll s.heap ([e0, e3].map (·.key)) ([((.str x : PyData), d), (.str y, .int i)].map (·.1)) ([] ++ ([] ++ [])) := by
        simp only [List.map_cons, List.map_nil]
        rw [ek, ek3]
        exact .cons (Reads.str x t) (.cons (Reads.str y t3) .nil)
      have r2 : ReadsAll s.heap ([e0, e3].map (·.val)) ([((.str x : PyData), d), (.str y, .int i)].map (·.2)) (as ++ ([] ++ [])) := by
        simp only [List.map_cons, List.map_nil]
        rw [hv0, hv3]
        exact .cons hr (.cons (Reads.int i t2) .nil)
      have rd : Reads s.heap (.ref a) (.dict [(.str x, d), (.str y, .int i)]) _ := Reads.dict ho hx.1 hes r1 r2
      have dk : PyData.depthKv [((.str x : PyData), d), (.str y, .int i)] = d.depth := by simp [PyData.depthKv, PyData.depth]
      have out := not_mem_of_deeper rd (n := d.depth) (by simp only [PyData.depth, dk]; omega) hb
      refine ⟨o, _, ep, _, bs, ho, hx.1, hes, sys, rd, hb, out, ?_⟩
      simp only [PyData.shownKv]
      refine .cons ?_ ?_ (.cons ?_ ?_ .nil)
      · simpa only [PyData.shown] using rk
      · rw [hv0]
        exact hkk
      · simpa only [PyData.shown] using rk3
      · rw [hv3]
        simpa only [PyData.shown] using ri
theorem dic2_parts {x y : Str} {i : Int} {d : PyData} (hs : (PyData.dict [(.str x, d), (.str y, .int i)]).showable = true) (hz : (PyData.dict [(.str x, d), (.str y, .int i)]).shown.length ≤ sizeLine) :
    d.showable = true ∧ d.shown.length ≤ sizeLine ∧ (PyData.shown (.str x)).length ≤ sizeLine ∧ (PyData.shown (.str y)).length ≤ sizeLine ∧ (PyData.int i).showable = true ∧ PyData.depth (.dict [(.str x, d), (.str y, .int i)]) = d.depth + 1 := by
  have z1 : (dictText (PyData.shownKv [(.str x, d), (.str y, .int i)])).length ≤ sizeLine := by simpa only [PyData.shown] using hz
  have h1 : PyData.showableKv [(.str x, d), (.str y, .int i)] = true := by simpa only [PyData.showable] using hs
  simp only [PyData.showableKv, Bool.and_true, Bool.and_eq_true] at h1
  refine ⟨h1.1.2, ?_, ?_, ?_, h1.2.2, by simp [PyData.depth, PyData.depthKv]⟩
  · obtain ⟨p, hp1, hp2⟩ := PyData.shownKv_val_le [(.str x, d), (.str y, .int i)] d.shown (by simp only [List.map_cons, List.map_nil, PyData.shownAll]; exact List.mem_cons_self ..)
    exact Nat.le_trans hp2 (Nat.le_trans (dictText_mem_le hp1) z1)
  · obtain ⟨p, hp1, hp2⟩ := PyData.shownKv_key_le [(.str x, d), (.str y, .int i)] (PyData.shown (.str x)) (by simp only [List.map_cons, List.map_nil, PyData.shownAll]; exact List.mem_cons_self ..)
    exact Nat.le_trans hp2 (Nat.le_trans (dictText_mem_le hp1) z1)
  · obtain ⟨p, hp1, hp2⟩ := PyData.shownKv_key_le [(.str x, d), (.str y, .int i)] (PyData.shown (.str y)) (by simp only [List.map_cons, List.map_nil, PyData.shownAll]; exact List.mem_cons_of_mem _ (List.mem_cons_self ..))
    exact Nat.le_trans hp2 (Nat.le_trans (dictText_mem_le hp1) z1)
mutual
/-- what a datum's text leans on -/
theorem Dw.shows (I : Inv X pins σ H s) : ∀ (d : PyData) (v : V) (u : Value), Dw X.K H v d → RelV v u → d.showable = true → d.shown.length ≤ sizeLine →
    ∃ as bs, Reads s.heap u d as ∧ ReadAtMost s.heap d.depth bs ∧ ReprK X.prog X.w bs s.heap d.depth u d.shown
  | .none, _, _, h, r, _, _ => by
    cases h
    cases r
    exact ⟨_, [], Reads.none, (fun _ z => nomatch z), by simp only [PyData.shown]; exact .of_is ReprIs.none _ _ _⟩
  | .bool b, _, _, h, r, _, _ => by
    cases h
    cases r
    exact ⟨_, [], Reads.bool b, (fun _ z => nomatch z), by simp only [PyData.shown]; exact .of_is (ReprIs.bool b) _ _ _⟩
  | .int i, _, _, h, r, hs, _ => by
    cases h
    obtain ⟨t, rfl⟩ := r
    exact ⟨_, [], Reads.int i t, (fun _ z => nomatch z), by simp only [PyData.shown]; exact .of_is (ReprIs.int t (by simpa [PyData.showable] using hs)) _ _ _⟩
  | .str x, _, _, h, r, _, hz => by
    cases h
    obtain ⟨t, rfl⟩ := r
    exact ⟨_, [], Reads.str x t, (fun _ z => nomatch z), by simp only [PyData.shown]; exact .of_is (ReprIs.str x t (by simpa only [PyData.shown] using hz)) _ _ _⟩
  | .list ds, _, _, h, r, hs, hz => by
    cases h with
    | lst hl ha =>
      cases r
      obtain ⟨its, rv, ⟨o, n, ho, hc, _, hd⟩, _⟩ := I.list hl
      have z1 : (listText (PyData.shownAll ds)).length ≤ sizeLine := by simpa only [PyData.shown] using hz
      obtain ⟨as, bs, hr, hb, hk⟩ := DwAll.shows I ds _ its ha rv (by simpa [PyData.showable] using hs) fun t ht => Nat.le_trans (listText_mem_le ht) z1
      have rd := Reads.list ho hc hd hr
      have out := not_mem_of_deeper rd (by simp only [PyData.depth]; omega) hb
      refine ⟨_, _, rd, ReadAtMost.cons rd (by simp only [PyData.depth]; omega) hb, ?_⟩
      simp only [PyData.depth, PyData.shown]
      cases its with
      | nil =>
        cases ds with
        | nil =>
          simp only [PyData.shownAll, listText_nil]
          exact ReprK.listEmpty ho hc hd
        | cons d ds => cases hr
      | cons x l => exact ReprK.list ho hc hd out (by simpa using hk.length_eq) fun i y e => hk.item i y (by simpa using e)
  | .tuple ds, _, _, h, r, hs, hz => by
    cases h with
    | tup hl ha =>
      cases r
      obtain ⟨its, rv, ⟨o, ho, hc, n, hd⟩, _⟩ := I.tuple hl
      have z1 : (tupleText (PyData.shownAll ds)).length ≤ sizeLine := by simpa only [PyData.shown] using hz
      obtain ⟨as, bs, hr, hb, hk⟩ := DwAll.shows I ds _ its ha rv (by simpa [PyData.showable] using hs) fun t ht => Nat.le_trans (tupleText_mem_le ht) z1
      have rd := Reads.tuple ho hc hd hr
      have out := not_mem_of_deeper rd (by simp only [PyData.depth]; omega) hb
      refine ⟨_, _, rd, ReadAtMost.cons rd (by simp only [PyData.depth]; omega) hb, ?_⟩
      simp only [PyData.depth, PyData.shown]
      exact ReprK.tuple ho hc hd out hk
  | .dict kvs, _, _, h, r, hs, hz => by
    cases h with
    | @dic a x v d hd hv =>
      cases r
      obtain ⟨hs', zv, zk, hdep⟩ := dic_parts hs hz
      obtain ⟨o, l, n, as, bs, ho, hc, hes, sys, rd, hb, out, hE⟩ := dic_shows I hd (fun u ru => Dw.shows I d v u hv ru hs' zv) zk
      refine ⟨_, _, rd, ReadAtMost.cons rd (n := d.depth) (by rw [hdep]; omega) hb, ?_⟩
      rw [hdep]
      simp only [PyData.shown]
      exact ReprK.dict ho hc hes sys out hE
    | @dic2 a x y i v d hd hv =>
      cases r
      obtain ⟨hs', zv, zk, zy, zi, hdep⟩ := dic2_parts hs hz
      obtain ⟨o, l, n, as, bs, ho, hc, hes, sys, rd, hb, out, hE⟩ := dic2_shows I hd (fun u ru => Dw.shows I d v u hv ru hs' zv) zk zy zi
      refine ⟨_, _, rd, ReadAtMost.cons rd (n := d.depth) (by rw [hdep]; omega) hb, ?_⟩
      rw [hdep]
      simp only [PyData.shown]
      exact ReprK.dict ho hc hes sys out hE
theorem DwAll.shows (I : Inv X pins σ H s) : ∀ (ds : List PyData) (vs : List V) (us : List Value), DwAll X.K H vs ds → Vals vs us → PyData.showableAll ds = true → (∀ t ∈ PyData.shownAll ds, t.length ≤ sizeLine) →
    ∃ as bs, ReadsAll s.heap us ds as ∧ ReadAtMost s.heap (PyData.depthAll ds) bs ∧ ReprAllK X.prog X.w bs s.heap (PyData.depthAll ds) us (PyData.shownAll ds)
  | [], _, _, h, r, _, _ => by
    cases h
    cases r
    exact ⟨_, [], ReadsAll.nil, (fun _ z => nomatch z), by simp only [PyData.shownAll]; exact .nil⟩
  | d :: ds, _, _, h, r, hs, hz => by
    cases h with
    | cons h1 h2 =>
      cases r with
      | cons r1 r2 =>
        have hs' : d.showable = true ∧ PyData.showableAll ds = true := by simpa [PyData.showableAll] using hs
        obtain ⟨as, bs, q1, b1, k1⟩ := Dw.shows I d _ _ h1 r1 hs'.1 (hz _ (by simp only [PyData.shownAll]; exact List.mem_cons_self ..))
        obtain ⟨cs, ds', q2, b2, k2⟩ := DwAll.shows I ds _ _ h2 r2 hs'.2 fun t ht => hz t (by simp only [PyData.shownAll]; exact List.mem_cons_of_mem _ ht)
        refine ⟨_, bs ++ ds', ReadsAll.cons q1 q2, ?_, ?_⟩
        · simp only [PyData.depthAll]
          exact (b1.mono (Nat.le_max_left _ _)).append (b2.mono (Nat.le_max_right _ _))
        · simp only [PyData.depthAll, PyData.shownAll]
          exact .cons ((k1.more fun b hb => List.mem_append_left _ hb).level_le (Nat.le_max_left _ _)) (k2.more_le (fun b hb => List.mem_append_right _ hb) (Nat.le_max_right _ _))
end
end
end Gr
/-! repr(x) as a rule. -/
namespace Gr
open PySem PySem.Spec PyProof.Rows L2
section
variable {X : Cx}
def rShow2 (K : PySem.W.Frag) : List V → Hp → VK → Prop := fun xs H Q => ∃ v d, xs = [v] ∧ Dw K H v d ∧ d.showable = true ∧ d.shown.length ≤ sizeLine ∧ d.depth ≤ 60 ∧ Q (.str d.shown) H
theorem call_repr2 (hg : X.A.guards = some []) (hu : X.A.units + 64 < cLine) : CallR X (.builtin "repr") (rShow2 X.K) := by
  intro pins s σ H xs us Q I r h
  obtain ⟨v, d, rfl, hd, hs, hz, hp, q⟩ := h
  obtain ⟨u, rfl, r0⟩ := vals1 r
  obtain ⟨as, bs, rd, hb, hk⟩ := Dw.shows I d v u hd r0 hs hz
  have fin : ∀ h' t tk, (∀ b o, s.heap.get? b = some o → h'.get? b = some o) → EP X pins σ Q (.str d.shown t) { s with heap := h', toks := tk } := fun h' t tk k => ⟨.str d.shown, H, I.kept k, ⟨_, rfl⟩, q⟩
  cases rd with
  | none => exact PySem.P.repr_of_none (by simpa only [PyData.shown] using fin s.heap s.toks _ fun _ _ e => e)
  | bool b => exact PySem.P.repr_of_bool (by simpa only [PyData.shown] using fin s.heap s.toks _ fun _ _ e => e)
  | int i t => exact PySem.P.repr_of_int (by simpa [PyData.showable] using hs) (by simpa only [PyData.shown] using fin s.heap s.toks _ fun _ _ e => e)
  | str x t => exact PySem.P.repr_of_str (by simpa only [PyData.shown] using fin s.heap s.toks _ fun _ _ e => e) (by simpa only [PyData.shown] using hz)
  | list h1 h2 h3 h4 =>
    rename_i a o vs n ds as'
    have z1 : (listText (PyData.shownAll ds)).length ≤ sizeLine := by simpa only [PyData.shown] using hz
    cases hd with
    | lst hl ha =>
    cases r0
    obtain ⟨its, rv, ⟨o2, n2, ho2, _, _, hd2⟩, _⟩ := I.list hl
    obtain ⟨as2, bs2, hr2, hb2, hk2⟩ := DwAll.shows I ds _ its ha rv (by simpa [PyData.showable] using hs) fun t ht => Nat.le_trans (listText_mem_le ht) z1
    rw [h1] at ho2
    obtain rfl := Option.some.inj ho2
    rw [h3] at hd2
    injection hd2 with hd3 _
    have out := not_mem_of_deeper (.list h1 h2 h3 h4) (n := PyData.depthAll ds) (by simp only [PyData.depth]; omega) hb2
    simp only [PyData.depth] at hp
    simp only [PyData.shown] at fin
    refine call_repr_slot (by omega) ⟨_, h1, h2⟩ PySem.F.slot_list_repr.toG ?_
    subst hd3
    cases its with
    | nil =>
      cases ds with
      | nil =>
        simp only [PyData.shownAll, listText_nil] at fin
        exact call_list_repr_empty ⟨_, h1, h2⟩ h1 h3 ⟨_, _, rfl, fin s.heap _ _ fun _ _ e => e⟩
      | cons d ds => cases hr2
    | cons x l =>
      exact call_list_reprK h1 h2 h3 out (by simpa using hk2.length_eq) (fun i y e => hk2.item i y (by simpa using e)) hg (fun b _ => Clear.nil b) (by show X.A.units + 1 + _ < cLine; omega) (fun _ _ e => e) (fun h' u tk k => ⟨_, _, rfl, fin h' _ _ k⟩) z1
  | tuple h1 h2 h3 h4 =>
    rename_i a o vs n ds
    have z1 : (tupleText (PyData.shownAll ds)).length ≤ sizeLine := by simpa only [PyData.shown] using hz
    cases hd with
    | tup hl ha =>
    cases r0
    obtain ⟨its, rv, ⟨o2, ho2, _, n2, hd2⟩, _⟩ := I.tuple hl
    obtain ⟨as2, bs2, hr2, hb2, hk2⟩ := DwAll.shows I ds _ its ha rv (by simpa [PyData.showable] using hs) fun t ht => Nat.le_trans (tupleText_mem_le ht) z1
    rw [h1] at ho2
    obtain rfl := Option.some.inj ho2
    rw [h3] at hd2
    injection hd2 with hd3 _
    subst hd3
    have out := not_mem_of_deeper (.tuple h1 h2 h3 h4) (n := PyData.depthAll ds) (by simp only [PyData.depth]; omega) hb2
    simp only [PyData.depth] at hp
    simp only [PyData.shown] at fin
    refine call_repr_slot (by omega) ⟨_, h1, h2⟩ PySem.F.slot_tuple_repr ?_
    exact call_tuple_reprK h1 h2 h3 out hk2 hg (fun b _ => Clear.nil b) (by show X.A.units + 1 + _ < cLine; omega) (fun _ _ e => e) (fun h' u tk k => ⟨_, _, rfl, fin h' _ _ k⟩) z1
  | dict h1 h2 h3 h4 h5 =>
    cases hd with
    | dic ha hv =>
      cases r0
      obtain ⟨hs', zv, zk, hdep⟩ := dic_parts hs hz
      obtain ⟨o, l, n, as, bs, ho, hc, hes, sys, rd, hb, out, hE⟩ := dic_shows I ha (fun u ru => Dw.shows I _ _ u hv ru hs' zv) zk
      rw [hdep] at hp
      simp only [PyData.shown] at fin hz
      refine call_repr_slot (by omega) ⟨_, ho, hc⟩ PySem.F.slot_dict_repr ?_
      exact call_dict_reprK ho hc hes sys out hE hg (fun b _ => Clear.nil b) (by show X.A.units + 1 + _ < cLine; omega) (fun _ _ e => e) (fun h' u tk k => ⟨_, _, rfl, fin h' _ _ k⟩) hz
    | dic2 ha hv =>
      cases r0
      obtain ⟨hs', zv, zk, zy, zi, hdep⟩ := dic2_parts hs hz
      obtain ⟨o, l, n, as, bs, ho, hc, hes, sys, rd, hb, out, hE⟩ := dic2_shows I ha (fun u ru => Dw.shows I _ _ u hv ru hs' zv) zk zy zi
      rw [hdep] at hp
      simp only [PyData.shown] at fin hz
      refine call_repr_slot (by omega) ⟨_, ho, hc⟩ PySem.F.slot_dict_repr ?_
      exact call_dict_reprK ho hc hes sys out hE hg (fun b _ => Clear.nil b) (by show X.A.units + 1 + _ < cLine; omega) (fun _ _ e => e) (fun h' u tk k => ⟨_, _, rfl, fin h' _ _ k⟩) hz
end
end Gr
namespace K2
open PySem PySem.Spec PyProof.Rows L2 Gr
/-! ### data with the places of what can change in them -/
mutual
inductive Df (H : Hp) : V → PyData → List Addr → Prop
  | non : Df H .non .none []
  | bl (b : Bool) : Df H (.bl b) (.bool b) []
  | int (i : Int) : Df H (.int i) (.int i) []
  | str (x : Str) : Df H (.str x) (.str x) []
  | lst {a : Addr} {xs : List V} {ds : List PyData} {F : List Addr} : H a = some (.lst xs) → DfAll H xs ds F → a ∉ F → Df H (.ref a) (.list ds) (a :: F)
  | tup {a : Addr} {xs : List V} {ds : List PyData} {F : List Addr} : H a = some (.tup xs) → DfAll H xs ds F → Df H (.ref a) (.tuple ds) F
  | dic {a : Addr} {v : V} {d : PyData} {F : List Addr} : H a = some (.dK [(Sum.inr "a", v)]) → Df H v d F → a ∉ F → Df H (.ref a) (.dict [(.str "a", d)]) (a :: F)
  | dic2 {a : Addr} {v : V} {d : PyData} {F : List Addr} : H a = some (.dK [(Sum.inr "a", v), (Sum.inr "more", .int 1)]) → Df H v d F → a ∉ F → Df H (.ref a) (.dict [(.str "a", d), (.str "more", .int 1)]) (a :: F)
inductive DfAll (H : Hp) : List V → List PyData → List Addr → Prop
  | nil : DfAll H [] [] []
  | cons {v : V} {vs : List V} {d : PyData} {ds : List PyData} {F G : List Addr} : Df H v d F → DfAll H vs ds G → (∀ b ∈ F, b ∉ G) → DfAll H (v :: vs) (d :: ds) (F ++ G)
end
/-- what is at these places, and all tuples, stay -/
def Keep (F : List Addr) (H G : Hp) : Prop := ∀ b o, (b ∈ F ∨ ∃ xs, o = HO.tup xs) → H b = some o → G b = some o
theorem Keep.of_same {F : List Addr} {H G : Hp} (e : Same H G) : Keep F H G := fun b o _ z => e b o z
theorem Keep.sub {F F' : List Addr} {H G : Hp} (e : Keep F H G) (s : ∀ b ∈ F', b ∈ F) : Keep F' H G := fun b o z => e b o (z.imp (s b) id)
mutual
theorem Df.keep {H G : Hp} : ∀ (d : PyData) (v : V) (F : List Addr), Df H v d F → Keep F H G → Df G v d F
  | .none, _, _, h, _ => by cases h; exact .non
  | .bool b, _, _, h, _ => by cases h; exact .bl b
  | .int i, _, _, h, _ => by cases h; exact .int i
  | .str x, _, _, h, _ => by cases h; exact .str x
  | .list ds, _, _, h, e => by
    cases h with
    | lst h1 h2 h3 => exact .lst (e _ _ (.inl List.mem_cons_self) h1) (DfAll.keep ds _ _ h2 (e.sub fun b m => List.mem_cons_of_mem _ m)) h3
  | .tuple ds, _, _, h, e => by
    cases h with
    | tup h1 h2 => exact .tup (e _ _ (.inr ⟨_, rfl⟩) h1) (DfAll.keep ds _ _ h2 e)
  | .dict kvs, _, _, h, e => by
    cases h with
    | dic h1 h2 h3 => exact .dic (e _ _ (.inl List.mem_cons_self) h1) (Df.keep _ _ _ h2 (e.sub fun b m => List.mem_cons_of_mem _ m)) h3
    | dic2 h1 h2 h3 => exact .dic2 (e _ _ (.inl List.mem_cons_self) h1) (Df.keep _ _ _ h2 (e.sub fun b m => List.mem_cons_of_mem _ m)) h3
theorem DfAll.keep {H G : Hp} : ∀ (ds : List PyData) (vs : List V) (F : List Addr), DfAll H vs ds F → Keep F H G → DfAll G vs ds F
  | [], _, _, h, _ => by cases h; exact .nil
  | d :: ds, _, _, h, e => by
    cases h with
    | cons h1 h2 h3 => exact .cons (Df.keep d _ _ h1 (e.sub fun b m => List.mem_append_left _ m)) (DfAll.keep ds _ _ h2 (e.sub fun b m => List.mem_append_right _ m)) h3
end
theorem Df.le {H G : Hp} {d : PyData} {v : V} {F : List Addr} (h : Df H v d F) (e : Same H G) : Df G v d F := h.keep _ _ _ (.of_same e)
theorem DfAll.le {H G : Hp} {ds : List PyData} {vs : List V} {F : List Addr} (h : DfAll H vs ds F) (e : Same H G) : DfAll G vs ds F := h.keep _ _ _ (.of_same e)
/-- what can change: a list, a dict -/
def Chg (o : HO) : Prop := (∃ xs, o = .lst xs) ∨ ∃ ks, o = .dK ks
mutual
theorem Df.there {H : Hp} : ∀ (d : PyData) (v : V) (F : List Addr), Df H v d F → ∀ b ∈ F, ∃ o, H b = some o ∧ Chg o
  | .none, _, _, h => by cases h; exact fun b z => nomatch z
  | .bool _, _, _, h => by cases h; exact fun b z => nomatch z
  | .int _, _, _, h => by cases h; exact fun b z => nomatch z
  | .str _, _, _, h => by cases h; exact fun b z => nomatch z
  | .list ds, _, _, h => by
    cases h with
    | lst h1 h2 h3 =>
      intro b m
      rcases List.mem_cons.mp m with rfl | m
      · exact ⟨_, h1, .inl ⟨_, rfl⟩⟩
      · exact DfAll.there ds _ _ h2 b m
  | .tuple ds, _, _, h => by
    cases h with
    | tup h1 h2 => exact DfAll.there ds _ _ h2
  | .dict kvs, _, _, h => by
    cases h with
    | dic h1 h2 h3 =>
      intro b m
      rcases List.mem_cons.mp m with rfl | m
      · exact ⟨_, h1, .inr ⟨_, rfl⟩⟩
      · exact Df.there _ _ _ h2 b m
    | dic2 h1 h2 h3 =>
      intro b m
      rcases List.mem_cons.mp m with rfl | m
      · exact ⟨_, h1, .inr ⟨_, rfl⟩⟩
      · exact Df.there _ _ _ h2 b m
theorem DfAll.there {H : Hp} : ∀ (ds : List PyData) (vs : List V) (F : List Addr), DfAll H vs ds F → ∀ b ∈ F, ∃ o, H b = some o ∧ Chg o
  | [], _, _, h => by cases h; exact fun b z => nomatch z
  | d :: ds, _, _, h => by
    cases h with
    | cons h1 h2 h3 =>
      intro b m
      rcases List.mem_append.mp m with m | m
      · exact Df.there d _ _ h1 b m
      · exact DfAll.there ds _ _ h2 b m
end
mutual
theorem Df.dw {K : PySem.W.Frag} {H : Hp} : ∀ (d : PyData) (v : V) (F : List Addr), Df H v d F → Dw K H v d
  | .none, _, _, h => by cases h; exact .non
  | .bool b, _, _, h => by cases h; exact .bl b
  | .int i, _, _, h => by cases h; exact .int i
  | .str x, _, _, h => by cases h; exact .str x
  | .list ds, _, _, h => by
    cases h with
    | lst h1 h2 h3 => exact .lst (SqL.of h1) (DfAll.dw ds _ _ h2)
  | .tuple ds, _, _, h => by
    cases h with
    | tup h1 h2 => exact .tup (SqT.of h1) (DfAll.dw ds _ _ h2)
  | .dict kvs, _, _, h => by
    cases h with
    | dic h1 h2 h3 => exact .dic h1 (Df.dw _ _ _ h2)
    | dic2 h1 h2 h3 => exact .dic2 h1 (Df.dw _ _ _ h2)
theorem DfAll.dw {K : PySem.W.Frag} {H : Hp} : ∀ (ds : List PyData) (vs : List V) (F : List Addr), DfAll H vs ds F → DwAll K H vs ds
  | [], _, _, h => by cases h; exact .nil
  | d :: ds, _, _, h => by
    cases h with
    | cons h1 h2 h3 => exact .cons (Df.dw d _ _ h1) (DfAll.dw ds _ _ h2)
end
theorem DfAll.snoc {H : Hp} : ∀ {ds : List PyData} {vs : List V} {F F2 : List Addr} {v : V} {d : PyData}, DfAll H vs ds F → Df H v d F2 → (∀ b ∈ F, b ∉ F2) → DfAll H (vs ++ [v]) (ds ++ [d]) (F ++ F2)
  | [], _, _, F2, v, d, h, q, _ => by
    cases h
    have z : DfAll H [v] [d] (F2 ++ []) := .cons q .nil fun _ _ m => nomatch m
    rw [List.append_nil] at z
    exact z
  | e :: ds, _, _, F2, v, d, h, q, n => by
    cases h with
    | @cons _ _ _ _ A B h1 h2 h3 =>
      have z := h2.snoc q fun b m => n b (List.mem_append_right _ m)
      rw [List.append_assoc]
      refine .cons h1 z fun b m k => ?_
      rcases List.mem_append.mp k with k | k
      · exact h3 b m k
      · exact n b (List.mem_append_left _ m) k
theorem DfAll.len {H : Hp} : ∀ {ds : List PyData} {vs : List V} {F : List Addr}, DfAll H vs ds F → vs.length = ds.length
  | [], _, _, h => by cases h; rfl
  | d :: ds, _, _, h => by
    cases h with
    | cons _ h2 _ => rw [List.length_cons, List.length_cons, h2.len]
/-! ### grown -/
mutual
def grow : PyData → PyData
  | .list ds => .list (growAll ds ++ [.str "more"])
  | .tuple ds => .tuple (growAll ds)
  | .dict kvs => .dict (growKv kvs ++ [(.str "more", .int 1)])
  | .none => .none
  | .bool b => .bool b
  | .int i => .int i
  | .str x => .str x
def growAll : List PyData → List PyData
  | [] => []
  | d :: ds => grow d :: growAll ds
def growKv : List (PyData × PyData) → List (PyData × PyData)
  | [] => []
  | (k, d) :: r => (k, grow d) :: growKv r
end
mutual
/-- no dict has two keys -/
def raw : PyData → Bool
  | .list ds => rawAll ds
  | .tuple ds => rawAll ds
  | .dict kvs => rawKv kvs
  | .none => true
  | .bool _ => true
  | .int _ => true
  | .str _ => true
def rawAll : List PyData → Bool
  | [] => true
  | d :: ds => raw d && rawAll ds
def rawKv : List (PyData × PyData) → Bool
  | [] => true
  | [(_, d)] => raw d
  | _ :: _ :: _ => false
end
theorem rawAll_snoc : ∀ {ds : List PyData} {d : PyData}, rawAll ds = true → raw d = true → rawAll (ds ++ [d]) = true
  | [], d, _, h => by simp only [List.nil_append, rawAll, h, Bool.and_self]
  | e :: ds, d, h1, h2 => by
    simp only [rawAll, Bool.and_eq_true] at h1
    simp only [List.cons_append, rawAll, h1.1, rawAll_snoc h1.2 h2, Bool.and_self]
/-- the first i are grown -/
def growTo : Nat → List PyData → List PyData
  | 0, ds => ds
  | _ + 1, [] => []
  | i + 1, d :: ds => grow d :: growTo i ds
theorem growTo_all : ∀ ds : List PyData, growTo ds.length ds = growAll ds
  | [] => rfl
  | d :: ds => by
    show grow d :: growTo ds.length ds = grow d :: growAll ds
    rw [growTo_all ds]
/-- all but these places stays -/
def Stays (F : List Addr) (H G : Hp) : Prop := ∀ b o, b ∉ F → H b = some o → G b = some o
theorem Stays.refl {F : List Addr} {H : Hp} : Stays F H H := fun _ _ _ e => e
theorem Stays.trans {F : List Addr} {A B C : Hp} (x : Stays F A B) (y : Stays F B C) : Stays F A C := fun b o n e => y b o n (x b o n e)
theorem Stays.more {F F' : List Addr} {A B : Hp} (x : Stays F A B) (s : ∀ b ∈ F, b ∈ F') : Stays F' A B := fun b o n e => x b o (fun m => n (s b m)) e
theorem Stays.of_same {F : List Addr} {A B : Hp} (x : Same A B) : Stays F A B := fun b o _ e => x b o e
/-- what lies apart of the places stays -/
theorem Stays.keep {F G : List Addr} {A B : Hp} (x : Stays F A B) (c : ∀ b ∈ F, ∃ o, A b = some o ∧ Chg o) (n : ∀ b ∈ G, b ∉ F) : Keep G A B := by
  intro b o h e
  refine x b o (fun m => ?_) e
  rcases h with h | ⟨xs, rfl⟩
  · exact n b h m
  · obtain ⟨u, e2, z⟩ := c b m
    rw [e] at e2
    cases e2
    rcases z with ⟨_, z⟩ | ⟨_, z⟩ <;> cases z
theorem DfAll.step {H : Hp} : ∀ (ds : List PyData) (i : Nat) (vs : List V) (F : List Addr), DfAll H vs (growTo i ds) F → i < ds.length →
    ∃ (v : V) (d : PyData) (B : List Addr), vs[i]? = some v ∧ ds[i]? = some d ∧ Df H v d B ∧ (∀ b ∈ B, b ∈ F) ∧ ∀ G, Stays B H G → Df G v (grow d) B → DfAll G vs (growTo (i + 1) ds) F
  | [], _, _, _, _, l => absurd l (Nat.not_lt_zero _)
  | d :: ds, 0, vs, F, h, _ => by
    cases h with
    | @cons v ws _ _ A B h1 h2 h3 =>
      refine ⟨v, d, A, rfl, rfl, h1, fun b m => List.mem_append_left _ m, fun G s z => ?_⟩
      refine .cons z (h2.keep _ _ _ (s.keep (h1.there _ _ _) fun b m k => h3 b k m)) h3
  | d :: ds, i + 1, vs, F, h, l => by
    have h' : DfAll H vs (grow d :: growTo i ds) F := h
    cases h' with
    | @cons v ws _ _ A B h1 h2 h3 =>
      obtain ⟨v2, d2, C, e1, e2, e3, sub, next⟩ := h2.step ds i _ _ (Nat.lt_of_succ_lt_succ l)
      refine ⟨v2, d2, C, e1, e2, e3, fun b m => List.mem_append_right _ (sub b m), fun G s z => ?_⟩
      refine .cons (h1.keep _ _ _ (s.keep (e3.there _ _ _) fun b m k => h3 b m (sub b k))) (next G s z) h3
/-! sizes -/
theorem fineAll_snoc : ∀ {ds : List PyData} {d : PyData}, fineAll ds = true → fine d = true → fineAll (ds ++ [d]) = true
  | [], d, _, h => by simp only [List.nil_append, fineAll, h, Bool.and_self]
  | e :: ds, d, h1, h2 => by
    simp only [fineAll, Bool.and_eq_true] at h1
    simp only [List.cons_append, fineAll, h1.1, fineAll_snoc h1.2 h2, Bool.and_self]
theorem nodesAll_snoc : ∀ (ds : List PyData) (d : PyData), nodesAll (ds ++ [d]) = nodesAll ds + nodes d
  | [], d => by simp only [List.nil_append, nodesAll]; omega
  | e :: ds, d => by
    simp only [List.cons_append, nodesAll, nodesAll_snoc ds d]
    omega
theorem depthAll_snoc : ∀ (ds : List PyData) (d : PyData), PyData.depthAll (ds ++ [d]) = max (PyData.depthAll ds) d.depth
  | [], d => by simp only [List.nil_append, PyData.depthAll]; omega
  | e :: ds, d => by
    simp only [List.cons_append, PyData.depthAll, depthAll_snoc ds d]
    omega
mutual
theorem grow_fine : ∀ d : PyData, fine d = true → fine (grow d) = true
  | .none, _ => by simp only [grow, fine]
  | .bool _, _ => by simp only [grow, fine]
  | .int i, h => by simpa only [grow] using h
  | .str x, h => by simpa only [grow] using h
  | .list ds, h => by
    have q := growAll_fine ds (by simpa only [fine] using h)
    simp only [grow, fine]
    exact fineAll_snoc q (by decide +kernel)
  | .tuple ds, h => by
    have q := growAll_fine ds (by simpa only [fine] using h)
    simpa only [grow, fine] using q
  | .dict kvs, h => by
    have q := growKv_fine kvs (by simpa only [fine] using h)
    simp only [grow, fine]
    exact q
theorem growAll_fine : ∀ ds : List PyData, fineAll ds = true → fineAll (growAll ds) = true
  | [], _ => by simp only [growAll, fineAll]
  | d :: ds, h => by
    simp only [fineAll, Bool.and_eq_true] at h
    simp only [growAll, fineAll, grow_fine d h.1, growAll_fine ds h.2, Bool.and_self]
theorem growKv_fine : ∀ kvs : List (PyData × PyData), fineKv kvs = true → fineKv (growKv kvs ++ [(.str "more", .int 1)]) = true
  | [], _ => by decide +kernel
  | (k, d) :: r, h => by
    simp only [fineKv, Bool.and_eq_true] at h
    simp only [growKv, List.cons_append, fineKv, h.1.1, grow_fine d h.1.2, growKv_fine r h.2, Bool.and_self]
end
mutual
theorem grow_nodes : ∀ d : PyData, nodes (grow d) ≤ 3 * nodes d
  | .none => by simp only [grow, nodes]; omega
  | .bool _ => by simp only [grow, nodes]; omega
  | .int i => by simp only [grow, nodes]; omega
  | .str x => by simp only [grow, nodes]; omega
  | .list ds => by
    have q := growAll_nodes ds
    simp only [grow, nodes, nodesAll_snoc]
    omega
  | .tuple ds => by
    have q := growAll_nodes ds
    simp only [grow, nodes]
    omega
  | .dict kvs => by
    have q := growKv_nodes kvs
    simp only [grow, nodes]
    omega
theorem growAll_nodes : ∀ ds : List PyData, nodesAll (growAll ds) ≤ 3 * nodesAll ds
  | [] => by simp only [growAll, nodesAll]; omega
  | d :: ds => by
    have q := growAll_nodes ds
    have r := grow_nodes d
    simp only [growAll, nodesAll]
    omega
theorem growKv_nodes : ∀ kvs : List (PyData × PyData), nodesKv (growKv kvs ++ [(.str "more", .int 1)]) ≤ 3 * nodesKv kvs + 2
  | [] => by simp only [growKv, List.nil_append, nodesKv, nodes]; omega
  | (k, d) :: r => by
    have q := growKv_nodes r
    have z := grow_nodes d
    simp only [growKv, List.cons_append, nodesKv]
    omega
end
mutual
theorem grow_depth : ∀ d : PyData, (grow d).depth ≤ d.depth
  | .none => by simp only [grow]; exact Nat.le_refl _
  | .bool _ => by simp only [grow]; exact Nat.le_refl _
  | .int i => by simp only [grow]; exact Nat.le_refl _
  | .str x => by simp only [grow]; exact Nat.le_refl _
  | .list ds => by
    have q := growAll_depth ds
    simp only [grow, PyData.depth, depthAll_snoc]
    omega
  | .tuple ds => by
    have q := growAll_depth ds
    simp only [grow, PyData.depth]
    omega
  | .dict kvs => by
    have q := growKv_depth kvs
    simp only [grow, PyData.depth]
    omega
theorem growAll_depth : ∀ ds : List PyData, PyData.depthAll (growAll ds) ≤ PyData.depthAll ds
  | [] => by simp only [growAll]; exact Nat.le_refl _
  | d :: ds => by
    have q := growAll_depth ds
    have r := grow_depth d
    simp only [growAll, PyData.depthAll]
    omega
theorem growKv_depth : ∀ kvs : List (PyData × PyData), PyData.depthKv (growKv kvs ++ [(.str "more", .int 1)]) ≤ PyData.depthKv kvs
  | [] => by simp [growKv, PyData.depthKv, PyData.depth]
  | (k, d) :: r => by
    have q := growKv_depth r
    have z := grow_depth d
    simp only [growKv, List.cons_append, PyData.depthKv]
    omega
end
theorem grow_fit {n p : Nat} {d : PyData} (h : Fit n p d) : Fit (3 * n) p (grow d) := by
  refine ⟨grow_fine d h.ok, ?_, Nat.le_trans (grow_depth d) h.deep⟩
  have q := grow_nodes d
  have := h.few
  omega
end K2
namespace K2
open PySem PySem.Spec PyProof.Rows L2 Gr
/-! ### data that a call has made -/
/-- what stands in G and wasn't in H -/
def fresh (H G : Hp) : Hp := fun b => match H b with | none => G b | some _ => none
theorem fresh_of {H G : Hp} {b : Addr} (h : H b = none) : fresh H G b = G b := by
  unfold fresh
  rw [h]
theorem fresh_le {H G : Hp} : Same (fresh H G) G := fun b o e => by
  unfold fresh at e
  split at e
  · exact e
  · cases e
/-- no object is lost -/
def Grows (H G : Hp) : Prop := ∀ b, H b ≠ none → G b ≠ none
theorem Grows.trans {A B C : Hp} (x : Grows A B) (y : Grows B C) : Grows A C := fun b h => y b (x b h)
theorem Grows.refl {A : Hp} : Grows A A := fun _ h => h
theorem grows_upd {H : Hp} {p : Addr} {o : HO} : Grows H (upd H p o) := fun b h => by
  by_cases z : b = p
  · rw [z, upd_same]
    exact fun q => nomatch q
  · rw [upd_ne z]
    exact h
theorem Grows.of_same {H G : Hp} (e : Same H G) : Grows H G := fun b h => by
  cases q : H b with
  | none => exact absurd q h
  | some o => rw [e _ _ q]; exact fun z => nomatch z
theorem Turn.grows {st : Addr} {H G : Hp} (t : Turn st H G) : Grows H G := fun b h => by
  by_cases z : b = st
  · rw [z]
    exact t.now.some
  · cases q : H b with
    | none => exact absurd q h
    | some o => rw [t.keep z q]; exact fun z => nomatch z
theorem none_of_grows {H G : Hp} (g : Grows H G) {b : Addr} (h : G b = none) : H b = none := by
  cases q : H b with
  | none => rfl
  | some o => exact absurd h (g b (by rw [q]; exact fun z => nomatch z))
/-- seen from earlier on -/
theorem fresh_mono {H G F : Hp} (g : Grows H G) : Same (fresh G F) (fresh H F) := fun b o e => by
  unfold fresh at e
  split at e
  · rename_i q
    rw [fresh_of (none_of_grows g q)]
    exact e
  · cases e
/-- later on -/
theorem fresh_later {H G F : Hp} (k : ∀ b o, H b = none → G b = some o → F b = some o) : Same (fresh H G) (fresh H F) := fun b o e => by
  unfold fresh at e
  split at e
  · rename_i q
    rw [fresh_of q]
    exact k b o q e
  · cases e
theorem fresh_turn {st : Addr} {H G F : Hp} (hs : H st ≠ none) (t : Turn st G F) : Same (fresh H G) (fresh H F) :=
  fresh_later fun b o h e => t.keep (fun z => hs (by rw [← z]; exact h)) e
theorem fresh_upd {H G : Hp} {p : Addr} {o : HO} (hp : H p ≠ none) : Same (fresh H G) (fresh H (upd G p o)) :=
  fresh_later fun b u h e => by rw [upd_ne (fun z => hp (by rw [← z]; exact h))]; exact e
theorem fresh_same {H G F : Hp} (k : Same G F) : Same (fresh H G) (fresh H F) := fresh_later fun b o _ e => k b o e
theorem yes_if {σ : L2.St} {H : Hp} {A B : Hp → Prop} (h : A H) : tYes σ H (fun b G => if b = true then A G else B G) := by
  show (if true = true then A H else B H)
  rw [if_pos rfl]
  exact h
/-! ### any thing -/
def anyN : Nat → Nat
  | 0 => 1
  | n + 1 => 3 * anyN n + 3
theorem anyN_pos : ∀ n, 1 ≤ anyN n
  | 0 => Nat.le_refl _
  | n + 1 => by show 1 ≤ 3 * anyN n + 3; omega
/-- m: more than how deep -/
def spAny (K : PySem.W.Frag) (m : Nat) : Sp := fun vs H Q _ => ∃ (st : Addr) (n : Nat), vs = [.ref st, .int n] ∧ n < m ∧ StAt H st ∧
  ∀ (v : V) (d : PyData) (H' : Hp), Turn st H H' → ∀ F, Df (fresh H H') v d F → Fit (anyN n) (2 * n) d → raw d = true → Q v H'
section
variable {P : Program} {w : World} {K : PySem.W.Frag} {mg : Str → Option Value} {base : Heap} {f fM fP : Addr} {fd fdM fdP : FuncData}
theorem scAny : FnScope ["_law_state", "_law_deep", "_law_way", "_law_some", "_law_k"] ["_law_state", "_law_deep"] (defScope lAny) := ⟨rfl, rfl, rfl, by decide +kernel, rfl, by decide +kernel, by decide +kernel⟩
/-- the invariant of a list that is being made of what a call makes, turn by turn -/
structure Made (K : PySem.W.Frag) (st D : Addr) (B : Hp) (N p : Nat) (i : Nat) (H : Hp) : Prop where
  turn : ∀ b o, b ≠ st → b ≠ D → B b = some o → H b = some o
  now : StAt H st
  ex : ∃ (vs : List V) (ds : List PyData) (F : List Addr), H D = some (.lst vs) ∧ vs.length = i ∧ DfAll (fresh B H) vs ds F ∧ FitAll (i * N) p ds ∧ rawAll ds = true
theorem Made.start {K : PySem.W.Frag} {st D : Addr} {H : Hp} {N p : Nat} (h : StAt H st) (hD : H D = none) : Made K st D (upd H D (.lst [])) N p 0 (upd H D (.lst [])) :=
  ⟨fun b o _ _ e => e, h.same (same_upd hD _), [], [], [], upd_same, rfl, .nil, by rw [Nat.zero_mul]; exact FitAll.nil, rfl⟩
theorem Made.next {K : PySem.W.Frag} {st D : Addr} {B H G : Hp} {N p i : Nat} {v : V} {d : PyData} (ne : st ≠ D) (bD : B D ≠ none) (bs : B st ≠ none) (g : Grows B H) (m : Made K st D B N p i H) (t : Turn st H G) {F : List Addr} (hd : Df (fresh H G) v d F) (hf : Fit N p d) (hw : raw d = true) :
    ∃ acc, G D = some (.lst acc) ∧ acc.length = i ∧ Made K st D B N p (i + 1) (upd G D (.lst (acc ++ [v]))) := by
  obtain ⟨h1, h2, vs, ds, F0, e, l, hds, hfs, hws⟩ := m
  have eG := t.keep (Ne.symm ne) e
  refine ⟨vs, eG, l, ?_⟩
  have n2 : StAt (upd G D (.lst (vs ++ [v]))) st := by
    obtain ⟨a, b, c, q⟩ := t.now
    exact ⟨a, b, c, by rw [upd_ne ne]; exact q⟩
  refine ⟨fun b o b1 b2 q => ?_, n2, vs ++ [v], ds ++ [d], F0 ++ F, upd_same, ?_, ?_, ?_, rawAll_snoc hws hw⟩
  · rw [upd_ne b2]
    exact t.keep b1 (h1 b o b1 b2 q)
  · rw [List.length_append, l]
    all_goals rfl
  · refine DfAll.snoc (hds.le ((fresh_turn bs t).trans (fresh_upd bD))) ?_ (fun b m k => ?_)
    · exact (hd.le (fresh_mono g)).le (fresh_upd bD)
    · obtain ⟨o, e1, _⟩ := hds.there _ _ _ b m
      obtain ⟨u, e2, _⟩ := hd.there _ _ _ b k
      unfold fresh at e1 e2
      split at e1
      · rw [e1] at e2
        cases e2
      · cases e1
  · have q := FitAll.snoc hfs hf
    rw [← Nat.succ_mul] at q
    exact q
theorem Made.grows {K : PySem.W.Frag} {st D : Addr} {B H : Hp} {N p i : Nat} (m : Made K st D B N p i H) : Grows B H := fun b h => by
  by_cases z1 : b = st
  · rw [z1]; exact m.now.some
  · by_cases z2 : b = D
    · obtain ⟨_, _, _, e, _⟩ := m.ex
      rw [z2, e]; exact fun z => nomatch z
    · cases q : B b with
      | none => exact absurd q h
      | some o => rw [m.turn b o z1 z2 q]; exact fun z => nomatch z
/-- the list is done -/
theorem Made.done {K : PySem.W.Frag} {st D : Addr} {H0 H H' : Hp} {N p i : Nat} (hD : H D = none) (t0 : Turn st H0 H) (m : Made K st D (upd H D (.lst [])) N p i H') :
    Turn st H0 H' ∧ ∃ (vs : List V) (ds : List PyData) (F : List Addr), H' D = some (.lst vs) ∧ vs.length = i ∧ DfAll (fresh H0 H') vs ds F ∧ FitAll (i * N) p ds ∧ rawAll ds = true ∧ D ∉ F ∧ H0 D = none := by
  have g0 := t0.grows
  have n0 : H0 D = none := none_of_grows g0 hD
  obtain ⟨vs, ds, F, e, l, hds, hf, hw⟩ := m.ex
  have no : D ∉ F := fun k => by
    obtain ⟨o, e1, _⟩ := hds.there _ _ _ D k
    unfold fresh at e1
    rw [upd_same] at e1
    cases e1
  refine ⟨⟨m.now, fun b o q => ?_⟩, vs, ds, F, e, l, hds.le (fresh_mono (g0.trans grows_upd)), hf, hw, no, n0⟩
  by_cases z : b = st
  · rw [z] at q
    unfold off at q
    rw [if_pos rfl] at q
    cases q
  · rw [off_ne z] at q ⊢
    have ne : b ≠ D := ne_of_none q n0
    exact m.turn b o z ne (by rw [upd_ne ne]; exact t0.keep z q)
theorem any_atom {H : Hp} (v : V) (h : v ∈ ([.non, .bl true, .bl false, .int 0, .int (-7), .int ((10 : Int) ^ (29 : Int).toNat), .str "", .str "add", .str "from"] : List V)) : ∃ d, Df H v d [] ∧ Fit 1 0 d ∧ raw d = true := by
  simp only [List.mem_cons, List.mem_nil_iff, or_false] at h
  rcases h with rfl | rfl | rfl | rfl | rfl | rfl | rfl | rfl | rfl
  · exact ⟨_, .non, ⟨by decide, by decide, by decide⟩, by decide⟩
  · exact ⟨_, .bl _, ⟨by decide, by decide, by decide⟩, by decide⟩
  · exact ⟨_, .bl _, ⟨by decide, by decide, by decide⟩, by decide⟩
  · exact ⟨_, .int _, ⟨by decide, by decide, by decide⟩, by decide⟩
  · exact ⟨_, .int _, ⟨by decide, by decide, by decide⟩, by decide⟩
  · exact ⟨_, .int _, ⟨by decide +kernel, by decide, by decide⟩, by decide⟩
  · exact ⟨_, .str _, ⟨by decide +kernel, by decide, by decide⟩, by decide⟩
  · exact ⟨_, .str _, ⟨by decide +kernel, by decide, by decide⟩, by decide⟩
  · exact ⟨_, .str _, ⟨by decide +kernel, by decide, by decide⟩, by decide⟩
theorem ok_any {m k : Nat} (F : Fun K "_law_any" "_law_any" lAny f fd) (at_ : mg "_law_any" = some (.ref f)) (bd : Binds K fd ["_law_state", "_law_deep"] []) (PU : Cal P w K mg base 2 "_law_pull" ["_law_state", "_law_so_many"] spPull fP fdP) (hk : 2 ≤ k)
    (mr : mg "range" = none) (mt : mg "tuple" = none)
    (G : FnOk P w K mg base CX0 k f fd ["_law_state", "_law_deep"] (spAny K m)) : FnOk P w K mg base CX0 (k + 1) f fd ["_law_state", "_law_deep"] (spAny K (m + 1)) := by
  refine F.ok scAny (fun vs H Q E h => ?_) (fun cdv A outer s H vs Q E hr h => ?_)
  · obtain ⟨st, n, rfl, _⟩ := h
    rfl
  obtain ⟨st, n, rfl, hn, hS, q⟩ := h
  refine ⟨_, pss_cons (ps_set (i := 2) scAny.nd rfl (Or.inl rfl) (pe_call PU.ok (hr.mono hk) rfl PU.at_ PU.kp PU.bd .nil pass0 (pa_cons (pv 0) (pa_cons pe_int pa_nil))))
    (pss_cons (ps_if (pw_and (pt_cmpR op_gt (pv 2) pe_int (nomark _)) (pw_and1 (pt_cmpR op_gt (pv 1) pe_int (nomark _)))).pt
      (pss_cons (ps_setLc (i := 3) (own := [("_law_k", 4)]) (g := gName 4) (tt := tYes) rfl scAny.nd rfl rfl (sw_true rfl rfl rfl (by decide +kernel)) (pi_range1 rfl mr (pa_cons (pe_call PU.ok (hr.mono hk) rfl PU.at_ PU.kp PU.bd .nil pass0 (pa_cons (pv 0) (pa_cons pe_int pa_nil))) pa_nil))
          (blkOk_by (N := ["_law_state", "_law_deep", "_law_way", "_law_some", "_law_k"]) (sc := defScope lAny) (by decide +kernel)) (fun _ _ _ _ _ => pg_name (i := 4) scAny.nd rfl (Or.inl rfl)) (fun _ _ _ _ _ => pts_nil)
          (fun _ _ _ _ _ => pe_call G hr rfl at_ F.kp bd .nil pass0 (pa_cons (pv 0) (pa_cons (pe_op op_sub (pv 1) pe_int) pa_nil))))
      (pss_one (ps_ret (pe_ix ix_list (pe_lst (pa_cons (pv 3) (pa_cons (pe_callTy call_tuple_of rfl mt (by decide +kernel) (pa_cons (pv 3) pa_nil)) (pa_cons (pe_disp (pps_cons pe_str (pv 3) pps_nil) rfl rfl (by decide) (by decide)) pa_nil)))) (pe_op op_sub (pv 2) pe_int) (fun _ _ => rfl))))) pss_nil)
    (pss_one (ps_ret (pe_ix ix_list (pe_lst (pa_cons pe_non (pa_cons pe_bl (pa_cons pe_bl (pa_cons pe_int (pa_cons (pe_un un_neg pe_int) (pa_cons (pe_op op_pow pe_int pe_int) (pa_cons pe_str (pa_cons pe_str (pa_cons pe_str pa_nil)))))))))) (pe_op op_mod (pv 2) pe_int) (fun _ _ => rfl))))), ?_⟩
  refine ⟨_, rfl, st, 12, rfl, hS, by decide, by decide, fun way H1 w0 w1 t1 => ?_⟩
  refine ⟨_, rfl, _, _, rfl, rfl, _, rfl, ?_⟩
  refine ite2 (fun c1 => ?yes) (fun c1 => iteF ?no)
  case no =>
    refine ⟨_, rfl, _, _, rfl, rfl, ⟨by decide, by decide, by decide⟩, (by show 9 ≤ sizeLine; decide), fun p hp => ?_⟩
    obtain ⟨v, hv, ev⟩ := at_any [.non, .bl true, .bl false, .int 0, .int (-7), .int ((10 : Int) ^ (29 : Int).toNat), .str "", .str "add", .str "from"] (way % 9) (modBounds way 9 (by decide)).1 (modBounds way 9 (by decide)).2
    obtain ⟨d, hd, hf, hw⟩ := any_atom (H := fresh H (upd H1 p (.lst [.non, .bl true, .bl false, .int 0, .int (-7), .int ((10 : Int) ^ (29 : Int).toNat), .str "", .str "add", .str "from"]))) v hv
    refine ⟨_, rfl, _, _, rfl, rfl, (by show (0 : Int) < 9; decide), p, _, _, _, rfl, rfl, SqL.of upd_same, ev, ?_⟩
    exact q _ _ _ (t1.trans (Turn.new t1.now hp _)) _ hd (hf.mono (anyN_pos n) (Nat.zero_le _)) hw
  refine ⟨_, rfl, _, _, rfl, rfl, _, rfl, ?_⟩
  refine ite2 (fun c2 => ?yes2) (fun c2 => ?no2)
  case no2 =>
    refine ⟨_, rfl, _, _, rfl, rfl, ⟨by decide, by decide, by decide⟩, (by show 9 ≤ sizeLine; decide), fun p hp => ?_⟩
    obtain ⟨v, hv, ev⟩ := at_any [.non, .bl true, .bl false, .int 0, .int (-7), .int ((10 : Int) ^ (29 : Int).toNat), .str "", .str "add", .str "from"] (way % 9) (modBounds way 9 (by decide)).1 (modBounds way 9 (by decide)).2
    obtain ⟨d, hd, hf, hw⟩ := any_atom (H := fresh H (upd H1 p (.lst [.non, .bl true, .bl false, .int 0, .int (-7), .int ((10 : Int) ^ (29 : Int).toNat), .str "", .str "add", .str "from"]))) v hv
    refine ⟨_, rfl, _, _, rfl, rfl, (by show (0 : Int) < 9; decide), p, _, _, _, rfl, rfl, SqL.of upd_same, ev, ?_⟩
    exact q _ _ _ (t1.trans (Turn.new t1.now hp _)) _ hd (hf.mono (anyN_pos n) (Nat.zero_le _)) hw
  have cw : way > 8 := of_decide_eq_true c1
  have cn : (n : Int) > 0 := of_decide_eq_true c2
  refine ⟨_, rfl, st, 4, rfl, t1.now, by decide, by decide, fun many H2 m0 m1 t2 => ?_⟩
  have t12 := t1.trans t2
  refine ⟨many, rfl, by omega, by omega, fun D hD => ?_⟩
  have ne : st ≠ D := fun z => t2.now.some (by rw [z]; exact hD)
  have bD : (upd H2 D (.lst [])) D ≠ none := by rw [upd_same]; exact fun z => nomatch z
  have bs : (upd H2 D (.lst [])) st ≠ none := (t2.now.same (same_upd hD _)).some
  refine lc_range (Made K st D (upd H2 D (.lst [])) (anyN (n - 1)) (2 * (n - 1))) (Made.start t2.now hD) (fun i Hi hi mi => ?_) (fun Hn mn => ?_)
  · refine ⟨rfl, ?_⟩
    refine yes_if ?_
    refine ⟨_, rfl, _, rfl, _, _, rfl, rfl, st, n - 1, ?_, by omega, mi.now, fun v d G t3 Fi hd hf hw => ?_⟩
    · show [V.ref st, V.int ((n : Int) - 1)] = [V.ref st, V.int ((n - 1 : Nat) : Int)]
      rw [show ((n : Int) - 1) = ((n - 1 : Nat) : Int) by omega]
    · obtain ⟨acc, e, l, mx⟩ := Made.next ne bD bs mi.grows mi t3 hd hf hw
      exact ⟨acc, e, by rw [l]; exact small1000 (by omega), mx⟩
  · obtain ⟨t3, vs, ds, FS, eD, lv, hds, hfs, hws, nD, n0⟩ := Made.done hD t12 mn
    have many3 : many.toNat ≤ 3 := by omega
    have N1 : FitAll (3 * anyN (n - 1)) (2 * (n - 1)) ds := ⟨hfs.ok, Nat.le_trans hfs.few (Nat.mul_le_mul_right _ many3), hfs.deep⟩
    have en : anyN n = 3 * anyN (n - 1) + 3 := by
      obtain ⟨j, rfl⟩ : ∃ j, n = j + 1 := ⟨n - 1, by omega⟩
      rfl
    refine ⟨_, rfl, _, rfl, D, vs, rfl, .inl ⟨SqL.of eD, fun T hT => ?_⟩⟩
    intro U hU
    refine ⟨_, rfl, upd_same, [(Sum.inr "a", .ref D)], rfl, (by show 1 ≤ 15; decide), (by show 3 ≤ sizeLine; decide), fun L hL => ?_⟩
    have e6 : upd (upd (upd Hn T (.tup vs)) U (.dK [])) U (.dK (mergeK [] [(Sum.inr "a", .ref D)])) = upd (upd Hn T (.tup vs)) U (.dK [(Sum.inr "a", .ref D)]) := by
      rw [upd_upd]
      all_goals rfl
    rw [e6] at hL ⊢
    have s1 : Same Hn (upd Hn T (.tup vs)) := same_upd hT _
    have s2 : Same (upd Hn T (.tup vs)) (upd (upd Hn T (.tup vs)) U (.dK [(Sum.inr "a", .ref D)])) := same_upd hU _
    have s3 := same_upd hL (.lst [.ref D, .ref T, .ref U])
    have s13 := s1.trans (s2.trans s3)
    have t7 := t3.trans (Turn.of_same t3.now s13)
    have all7 := hds.le (fresh_same (H := H) s13)
    have nT : H T = none := none_of_grows t3.grows hT
    have nU : H U = none := none_of_grows t3.grows (none_of_grows (Grows.of_same s1) hU)
    have iD : Df (fresh H (upd (upd (upd Hn T (.tup vs)) U (.dK [(Sum.inr "a", .ref D)])) L (.lst [.ref D, .ref T, .ref U]))) (.ref D) (.list ds) (D :: FS) := .lst ((fresh_of n0).trans (s13 _ _ eD)) all7 nD
    have wD : raw (.list ds) = true := by simpa only [raw] using hws
    refine ⟨_, rfl, _, _, rfl, rfl, ?_⟩
    have wc : way = 9 ∨ way = 10 ∨ way = 11 := by omega
    rcases wc with rfl | rfl | rfl
    · refine ⟨L, _, _, V.ref D, rfl, rfl, SqL.of upd_same, rfl, ?_⟩
      exact q _ _ _ t7 _ iD (N1.list.mono (by omega) (by omega)) wD
    · refine ⟨L, _, _, V.ref T, rfl, rfl, SqL.of upd_same, rfl, ?_⟩
      exact q _ _ _ t7 _ (.tup ((fresh_of nT).trans ((s2.trans s3) _ _ upd_same)) all7) (N1.tuple.mono (by omega) (by omega)) (by simpa only [raw] using hws)
    · refine ⟨L, _, _, V.ref U, rfl, rfl, SqL.of upd_same, rfl, ?_⟩
      refine q _ _ _ t7 _ (.dic ((fresh_of nU).trans (s3 _ _ upd_same)) iD fun k => ?_) ((Fit.dict (by decide +kernel) N1.list).mono (by omega) (by omega)) (by simpa only [raw, rawKv] using hws)
      have un : Hn U = none := none_of_grows (Grows.of_same s1) hU
      rcases List.mem_cons.mp k with z | k
      · rw [z, eD] at un
        cases un
      · obtain ⟨o, e1, _⟩ := hds.there _ _ _ U k
        rw [fresh_le _ _ e1] at un
        cases un
end
theorem any_all {P : Program} {w : World} {K : PySem.W.Frag} {mg : Str → Option Value} {base : Heap} {f fP : Addr} {fd fdP : FuncData} (F : Fun K "_law_any" "_law_any" lAny f fd) (at_ : mg "_law_any" = some (.ref f)) (bd : Binds K fd ["_law_state", "_law_deep"] [])
    (PU : Cal P w K mg base 2 "_law_pull" ["_law_state", "_law_so_many"] spPull fP fdP) (mr : mg "range" = none) (mt : mg "tuple" = none) : ∀ m, FnOk P w K mg base CX0 (m + 2) f fd ["_law_state", "_law_deep"] (spAny K m)
  | 0 => ⟨fun vs H Q E h => by obtain ⟨st, n, rfl, _⟩ := h; rfl, fun A outer s H args us vs Q E _ _ _ _ h => by obtain ⟨st, n, _, hn, _⟩ := h; exact absurd hn (Nat.not_lt_zero _)⟩
  | m + 1 => ok_any F at_ bd PU (Nat.le_add_left _ _) mr mt (any_all F at_ bd PU mr mt m)
end K2
/-! list(d.values()) -/
namespace Gr
open PySem PySem.Spec PyProof.Rows L2
def tListVals (td : TE) : TE := fun σ H Q => td σ H fun x H1 => ∃ (a : Addr) (kvs : List (Key × V)), x = .ref a ∧ H1 a = some (.dK kvs) ∧ ∀ p, H1 p = none → Q (.ref p) (upd H1 p (.lst (kvs.map (·.2))))
section
variable {X : Cx} {o : Expr} {p pos apos mpos : Pos} {td : TE}
theorem kv_vals {kvs : List (Key × V)} {vs : List (Key × Value)} (r : KV kvs vs) : Vals (kvs.map (·.2)) (vs.map (·.2)) := by
  unfold KV at r
  induction r with
  | nil => exact .nil
  | cons h t ih => exact .cons h.2 ih
theorem pe_listVals (calm : X.calm = true) (gl : Gl X "list") (nm : X.mg "list" = none) (hd : PE X o td) (hb : attributeBase o "values" X.env (eval o X.env) = eval o X.env := by rfl) (line : (apos.endLine == mpos.line) = true := by rfl)
    (na : starEach [Expr.Call (.Attribute o "values" apos) [] [] mpos] X.env = (false, eval (Expr.Call (.Attribute o "values" apos) [] [] mpos) X.env) :: starEach [] X.env := by rfl) :
    PE X (.Call (.Name "list" p) [.Call (.Attribute o "values" apos) [] [] mpos] [] pos) (tListVals td) := by
  constructor
  intro pl s σ H Q I h
  refine Call_ (ld_blt I gl nm boot_list (PyProof.Rows.callWith_type1 (args_cons (wpAny_Call_method0_late hb line (thn (hd.run pl s σ H _ I h) fun v s1 hh => ?_)) na) na))
  obtain ⟨x, H1, I1, r1, a, kvs, rfl, ha, q⟩ := hh
  obtain rfl : v = Value.ref a := r1
  obtain ⟨few, sys, vs, rel, dof⟩ := dk_of I1.hok ha
  obtain ⟨ep, dat⟩ := dof.dictAt
  have dat2 := dat
  obtain ⟨ob, es, ho, ex, hdat, hko, hpr, hnd⟩ := dat2
  refine ⟨"dict", "dict.values", F.plainAttrs_dict, F.slot_dict_values, F.type_dict_values, ⟨ob, ho, ex.1⟩, ?_, Calls.callWith_builtin rfl (PySem.evalArgs_none ?_)⟩
  · intro b e
    cases e
    exact ⟨ob, ho, ex.2.1⟩
  refine call_meetsIn F.slot_dict_values ⟨ob, ho, ex.1⟩ F.entry_dict_values (F.args_dict_values_1 _) (meets_dict_values (mixKind X.prog X.w) a sys) ⟨⟨vs, dof⟩, ?_⟩
  refine args_nil ?_
  have k1 : ∀ b u, s1.heap.get? b = some u → (s1.heap.push { cls := .type "dict_values", data := .fields #[.ref a] }).get? b = some u := by
    intro b u e
    exact Heap.get?_push_of_some _ e
  have dat1 : (s1.heap.push { cls := .type "dict_values", data := .fields #[.ref a] }).DictAt (mixKind X.prog X.w) a vs ep := dat.keep k1
  have n0 : kvs.length = vs.length := KV.length rel
  refine PySem.W.kdl_call (PySem.W.kdl_values (knd := mixKind X.prog X.w) (r := s1.heap.objs.size) (d := a) (kvs := vs) (ep := ep)) (I.ok.hd calm) ⟨⟨_, Heap.get?_push_size _ rfl, rfl, rfl⟩, dat1⟩ (by rw [← n0]; exact few) ?_
  intro h2 tk acc c keep at_ items
  have all : acc.toList = vs.map (·.2) := by
    refine PySem.W.kdl_vals_eq _ (by rw [Array.length_toList]; exact items.1) fun j v e => items.2 j v ?_
    rw [← Array.getElem?_toList]
    exact e
  have fr : H1 (s1.heap.push { cls := .type "dict_values", data := .fields #[.ref a] }).objs.size = none := I1.hok.fresh (by rw [Heap.size_push]; exact Nat.le_succ _)
  refine ⟨.ref _, _, I1.laid (t' := tk) (fun b u e => keep b u (k1 b u e)) (by rw [Heap.size_push]; exact Nat.le_succ _) (show ObjOk X.prog X.w _ _ _ (.lst (kvs.map (·.2))) from ⟨?_, acc.toList, c, ?_, ?_⟩), rfl, q _ fr⟩
  · rw [List.length_map]
    exact few
  · rw [all]
    exact kv_vals rel
  · rw [Array.toArray_toList]
    exact at_
end
end Gr
/-! isinstance of data, by built-in types. -/
namespace Gr
open PySem PySem.Spec PyProof.Rows L2
def tyn : PyData → String
  | .none => "NoneType"
  | .bool _ => "bool"
  | .int _ => "int"
  | .str _ => "str"
  | .list _ => "list"
  | .tuple _ => "tuple"
  | .dict _ => "dict"
theorem Dq.ty {K : PySem.W.Frag} {H : Hp} {v : V} {d : PyData} (I : ∀ a xs, SqL K H a xs → TyX K H (.ref a) (.type "list")) (J : ∀ a xs, SqT K H a xs → TyX K H (.ref a) (.type "tuple")) (h : Dq K H v d) : TyX K H v (.type (tyn d)) := by
  cases h with
  | non => exact .base .non
  | bl b => exact .base (.bl b)
  | int i => exact .base (.int i)
  | str x => exact .base (.str x)
  | lst hs _ => exact I _ _ hs
  | tup hs _ => exact J _ _ hs
  | dic e _ => exact .base (.dK e)
theorem ty_seqL {K : PySem.W.Frag} {H : Hp} {a : Addr} {xs : List V} (h : SqL K H a xs) : TyX K H (.ref a) (.type "list") := by
  rcases h with (h | ⟨o, h⟩) | ⟨o, its, n, hk, hc, _⟩
  · exact .base (.lst h)
  · exact .base (.frz h)
  · exact .kList hk hc
theorem ty_seqT {K : PySem.W.Frag} {H : Hp} {a : Addr} {xs : List V} (h : SqT K H a xs) : TyX K H (.ref a) (.type "tuple") := by
  rcases h with (h | ⟨o, h⟩) | ⟨o, its, n, hk, hc, _⟩
  · exact .base (.tup h)
  · exact .fTuple h
  · exact .kTuple hk hc
def tyNames : List String := ["NoneType", "bool", "int", "str", "list", "tuple", "dict"]
theorem tyn_mem (d : PyData) : tyn d ∈ tyNames := by cases d <;> simp [tyn, tyNames]
def isN (T t : String) : Bool := T == t || (T == "int" && t == "bool")
/-- isinstance of the datum, by the type's name -/
def isT (T : String) (d : PyData) : Bool := isN T (tyn d)
theorem kit_names : ∀ t ∈ tyNames, ∀ T ∈ ["int", "bool", "str", "tuple", "list"], kitB t T = some (isN T t) := by decide +kernel
theorem kit_int {K : PySem.W.Frag} (d : PyData) : PySem.W.kitOne K (.type (tyn d)) (.type "int") = some (isT "int" d) := kit_ty (kit_names _ (tyn_mem d) _ (by decide))
theorem kit_bool {K : PySem.W.Frag} (d : PyData) : PySem.W.kitOne K (.type (tyn d)) (.type "bool") = some (isT "bool" d) := kit_ty (kit_names _ (tyn_mem d) _ (by decide))
theorem kit_str {K : PySem.W.Frag} (d : PyData) : PySem.W.kitOne K (.type (tyn d)) (.type "str") = some (isT "str" d) := kit_ty (kit_names _ (tyn_mem d) _ (by decide))
theorem kit_tuple {K : PySem.W.Frag} (d : PyData) : PySem.W.kitOne K (.type (tyn d)) (.type "tuple") = some (isT "tuple" d) := kit_ty (kit_names _ (tyn_mem d) _ (by decide))
theorem kit_list {K : PySem.W.Frag} (d : PyData) : PySem.W.kitOne K (.type (tyn d)) (.type "list") = some (isT "list" d) := kit_ty (kit_names _ (tyn_mem d) _ (by decide))
/-- which datum it is, by isinstance's answers -/
theorem isT_tuple {d : PyData} (h : isT "tuple" d = true) : ∃ ds, d = .tuple ds := by
  cases d <;> first | exact ⟨_, rfl⟩ | (simp [isT, isN, tyn] at h; done)
theorem isT_str {d : PyData} (h : isT "str" d = true) : ∃ x, d = .str x := by
  cases d <;> first | exact ⟨_, rfl⟩ | (simp [isT, isN, tyn] at h; done)
theorem isT_int {d : PyData} (h : isT "int" d = true) (h2 : isT "bool" d = false) : ∃ i, d = .int i := by
  cases d <;> first | exact ⟨_, rfl⟩ | (simp [isT, isN, tyn] at h; done) | (simp [isT, isN, tyn] at h2; done)
theorem isT_bool {d : PyData} (h : isT "bool" d = true) : ∃ b, d = .bool b := by
  cases d <;> first | exact ⟨_, rfl⟩ | (simp [isT, isN, tyn] at h; done)
/-- isinstance(x, T) of a datum: what the rule is asked -/
def rIsD (K : PySem.W.Frag) (T : String) : List V → Hp → VK → Prop := fun xs H Q => ∃ v d, xs = [v, .ty T] ∧ Dq K H v d ∧ Q (.bl (isT T d)) H
theorem call_isD {X : Cx} {T : String} (kit : ∀ d : PyData, PySem.W.kitOne X.K (.type (tyn d)) (.type T) = some (isT T d)) : CallR X (.builtin "isinstance") (rIsD X.K T) := by
  intro pins s σ H xs us Q I r h
  obtain ⟨v, d, rfl, hd, q⟩ := h
  exact call_isi pins s σ H _ us Q I r ⟨v, .ty T, _, _, isT T d, rfl, .ty T, Dq.ty (fun _ _ => ty_seqL) (fun _ _ => ty_seqT) hd, kit d, q⟩
theorem boot_isi : bootBuiltins "isinstance" = some (.builtin "isinstance") := by decide +kernel
theorem boot_repr : bootBuiltins "repr" = some (.builtin "repr") := by decide +kernel
theorem boot_all : bootBuiltins "all" = some (.builtin "all") := by decide +kernel
theorem boot_sum : bootBuiltins "sum" = some (.builtin "sum") := by decide +kernel
theorem boot_range : bootBuiltins "range" = some (.type "range") := by decide +kernel
end Gr
namespace K2
open PySem PySem.Spec PyProof.Rows L2 Gr
/-! ### what is put into lists and dicts behind -/
theorem kit_dict {K : PySem.W.Frag} (d : PyData) : PySem.W.kitOne K (.type (tyn d)) (.type "dict") = some (isT "dict" d) := by
  have z : ∀ t ∈ tyNames, kitB t "dict" = some (isN "dict" t) := by decide +kernel
  exact kit_ty (z _ (tyn_mem d))
theorem Df.ty {K : PySem.W.Frag} {H : Hp} {v : V} {d : PyData} {F : List Addr} (h : Df H v d F) : TyX K H v (.type (tyn d)) := by
  cases h with
  | non => exact Dq.ty (fun _ _ => ty_seqL) (fun _ _ => ty_seqT) (.non : Dq K H .non .none)
  | bl b => exact Dq.ty (fun _ _ => ty_seqL) (fun _ _ => ty_seqT) (.bl b : Dq K H (.bl b) (.bool b))
  | int i => exact Dq.ty (fun _ _ => ty_seqL) (fun _ _ => ty_seqT) (.int i : Dq K H (.int i) (.int i))
  | str x => exact Dq.ty (fun _ _ => ty_seqL) (fun _ _ => ty_seqT) (.str x : Dq K H (.str x) (.str x))
  | lst h1 _ _ => exact ty_seqL (SqL.of h1)
  | tup h1 _ => exact ty_seqT (SqT.of h1)
  | dic h1 _ _ => exact .base (.dK h1)
  | dic2 h1 _ _ => exact .base (.dK h1)
theorem depth_get : ∀ {ds : List PyData} {i : Nat} {d : PyData}, ds[i]? = some d → d.depth ≤ PyData.depthAll ds
  | [], _, _, h => by simp at h
  | e :: ds, 0, d, h => by
    cases h
    simp only [PyData.depthAll]
    omega
  | e :: ds, i + 1, d, h => by
    have q := depth_get (ds := ds) (i := i) (d := d) h
    simp only [PyData.depthAll]
    omega
theorem nodes_get : ∀ {ds : List PyData} {i : Nat} {d : PyData}, ds[i]? = some d → nodes d ≤ nodesAll ds
  | [], _, _, h => by simp at h
  | e :: ds, 0, d, h => by
    cases h
    simp only [nodesAll]
    omega
  | e :: ds, i + 1, d, h => by
    have q := nodes_get (ds := ds) (i := i) (d := d) h
    simp only [nodesAll]
    omega
theorem len_nodes : ∀ ds : List PyData, ds.length ≤ nodesAll ds
  | [] => Nat.zero_le _
  | d :: ds => by
    have q := len_nodes ds
    have p := nodes_pos d
    simp only [List.length_cons, nodesAll]
    omega
theorem raw_get : ∀ {ds : List PyData} {i : Nat} {d : PyData}, rawAll ds = true → ds[i]? = some d → raw d = true
  | [], _, _, _, h => by simp at h
  | e :: ds, 0, d, w, h => by
    cases h
    simp only [rawAll, Bool.and_eq_true] at w
    exact w.1
  | e :: ds, i + 1, d, w, h => by
    simp only [rawAll, Bool.and_eq_true] at w
    exact raw_get (ds := ds) (i := i) w.2 h
/-- n: more than how deep -/
def spGrown (n : Nat) : Sp := fun vs H Q _ => ∃ (v : V) (d : PyData) (F : List Addr), vs = [v] ∧ Df H v d F ∧ raw d = true ∧ d.depth < n ∧ nodes d ≤ 900 ∧ ∀ G, Stays F H G → Df G v (grow d) F → Q .non G
theorem scGrown : FnScope ["_law_thing", "_law_one"] ["_law_thing"] (defScope lGrown) := ⟨rfl, rfl, rfl, by decide +kernel, rfl, by decide +kernel, by decide +kernel⟩
section
variable {P : Program} {w : World} {K : PySem.W.Frag} {mg : Str → Option Value} {base : Heap} {f : Addr} {fd : FuncData}
theorem ok_grown {n k : Nat} (F : Fun K "_law_grown" "_law_grown" lGrown f fd) (at_ : mg "_law_grown" = some (.ref f)) (bd : Binds K fd ["_law_thing"] []) (mi : mg "isinstance" = none) (mD : mg "dict" = none) (mT : mg "tuple" = none) (mL : mg "list" = none)
    (G : FnOk P w K mg base CX0 k f fd ["_law_thing"] (spGrown n)) : FnOk P w K mg base CX0 (k + 1) f fd ["_law_thing"] (spGrown (n + 1)) := by
  refine F.ok scGrown (fun vs H Q E h => ?_) (fun cdv A outer s H vs Q E hr h => ?_)
  · obtain ⟨v, d, F0, rfl, _⟩ := h
    rfl
  obtain ⟨v, d, F0, rfl, hd, hw, hn, hz, q⟩ := h
  refine ⟨_, pss_cons (ps_if (pt_val (pe_callB call_isi rfl mi boot_isi (pa_cons (pv 0) (pa_cons (pe_bltn (v := .ty "dict") rfl mD boot_dict rfl) pa_nil))))
      (pss_cons (ps_for PassesOwn.never rfl (pi_list (pe_listVals rfl rfl mL (pv 0))) (pg_name (i := 1) scGrown.nd rfl (Or.inl rfl))
        (pss_one (ps_expr (pe_call G hr rfl at_ F.kp bd .nil pass0 (pa_cons (pv 1) pa_nil)))))
      (pss_one (ps_dput (Nat.lt_of_le_of_lt (Nat.add_le_add_left (by decide : 1 ≤ 64) _) hr.units) (pv 0) pe_str pe_int rfl))) pss_nil)
    (pss_cons (ps_if (pt_val (pe_callB call_isiT rfl mi boot_isi (pa_cons (pv 0) (pa_cons (pe_tup (pa_cons (pe_bltn (v := .ty "list") rfl mL boot_list rfl) (pa_cons (pe_bltn (v := .ty "tuple") rfl mT boot_tuple rfl) pa_nil))) pa_nil))))
      (pss_one (ps_for PassesOwn.never rfl (pi_list (pe_callTy call_list_of rfl mL boot_list (pa_cons (pv 0) pa_nil))) (pg_name (i := 1) scGrown.nd rfl (Or.inl rfl))
        (pss_one (ps_expr (pe_call G hr rfl at_ F.kp bd .nil pass0 (pa_cons (pv 1) pa_nil)))))) pss_nil)
    (pss_one (ps_if (pt_val (pe_callB call_isi rfl mi boot_isi (pa_cons (pv 0) (pa_cons (pe_bltn (v := .ty "list") rfl mL boot_list rfl) pa_nil))))
      (pss_one (ps_expr (pe_bm PySem.F.plainAttrs_list PySem.F.slot_list_append PySem.F.type_list_append mt_append (pv 0) (pa_cons pe_str pa_nil)))) pss_nil))), ?_⟩
  have kLT : ∀ e : PyData, PySem.W.kitAny K (.type (tyn e)) [.type "list", .type "tuple"] = some (isT "list" e || isT "tuple" e) := fun e => by
    unfold PySem.W.kitAny
    rw [kit_list e]
    cases isT "list" e
    · unfold PySem.W.kitAny
      dsimp only
      rw [kit_tuple e]
      cases isT "tuple" e <;> rfl
    · rfl
  have loop : ∀ {D : Ends} {L : Addr} {vs : List V} {ds : List PyData} {FS : List Addr} {u : Option (Option V)} {o1 : Option V} {H1 : Hp}, H1 L = some (.lst vs) → L ∉ FS → DfAll H1 vs ds FS → rawAll ds = true → PyData.depthAll ds < n → nodesAll ds ≤ 900 →
      (∀ o1 G, Stays FS H1 G → DfAll G vs (growAll ds) FS → D.nx [some v, o1] G) →
      ∃ W : Nat → Nat → L2.St → Hp → Prop, (∃ m, W 0 m [some v, o1] H1) ∧ ∀ i m σ H, W i m σ H →
        ((Itl K L).stop i H ∧ D.nx σ H) ∨ ((Itl K L).go i H ∧ ∃ N : L2.St → Hp → Prop, (∀ σ' H', N σ' H' → ∃ m', m' < m ∧ W (i + 1) m' σ' H') ∧ ∀ x H', (Itl K L).yld i H x H' →
          gName 1 x σ H' fun σ2 H2 => tDrop (tCall (spGrown n) [] E0 (tCons (tVar 1) tNil)) { D with nx := N, ct := N, bk := D.nx } σ2 H2) := by
    intro D L vs ds FS u o1 H1 hL nL hds hws hdp hnz done
    refine for_list (K := K) (a := L) (xs := vs) (fun i σ G => H1 L = G L ∧ Stays FS H1 G ∧ DfAll G vs (growTo i ds) FS ∧ ∃ o1, σ = [some v, o1]) ⟨rfl, Stays.refl, hds, _, rfl⟩ (fun i σ G _ p => SqL.of (p.1.symm.trans hL)) (fun i x σ G ex p => ?_) (fun σ G p => ?_)
    · obtain ⟨e, st, hg, o2, rfl⟩ := p
      have hi : i < ds.length := by
        have z := List.getElem?_eq_some_iff.mp ex
        rw [← hds.len]
        exact z.1
      obtain ⟨w2, d2, B, e1, e2, e3, sub, next⟩ := hg.step ds i _ _ hi
      rw [ex] at e1
      cases e1
      refine ⟨_, rfl, x, d2, B, rfl, e3, raw_get hws e2, Nat.lt_of_le_of_lt (depth_get e2) hdp, Nat.le_trans (nodes_get e2) hnz, fun G2 s2 g2 => ?_⟩
      refine ⟨?_, st.trans (s2.more sub), next G2 s2 g2, _, rfl⟩
      rw [e]
      exact (s2 L _ (fun m => nL (sub L m)) (e.symm.trans hL)).symm ▸ (e.symm.trans hL)
    · obtain ⟨e, st, hg, o2, rfl⟩ := p
      have le : vs.length = ds.length := hds.len
      rw [le, growTo_all] at hg
      exact done o2 G st hg
  refine ⟨_, rfl, v, .ty "dict", _, _, isT "dict" d, rfl, .ty "dict", hd.ty, kit_dict d, _, rfl, ?_⟩
  -- the two tests behind, of what is no list and no tuple
  have rest : ∀ {u : V} {e : PyData} {FS : List Addr} {o1 : Option V} {H1 : Hp} {Z : Prop}, TyX K H1 u (.type (tyn e)) → True := fun _ => trivial
  cases hd with
  | non =>
    refine iteF ⟨_, rfl, (by show 2 ≤ sizeLine; decide), fun tp htp => ⟨_, tp, [.ty "list", .ty "tuple"], .type (tyn .none), [.type "list", .type "tuple"], _, rfl, upd_same, .cons (.ty _) (.cons (.ty _) .nil), (Df.non : Df _ .non .none []).ty, kLT .none, _, rfl, ?_⟩⟩
    refine iteF ⟨_, rfl, _, .ty "list", .type (tyn .none), _, _, rfl, .ty "list", (Df.non : Df _ .non .none []).ty, kit_list .none, _, rfl, iteF ?_⟩
    exact q _ (.of_same (same_upd htp _)) .non
  | bl b =>
    refine iteF ⟨_, rfl, (by show 2 ≤ sizeLine; decide), fun tp htp => ⟨_, tp, [.ty "list", .ty "tuple"], .type (tyn (.bool b)), [.type "list", .type "tuple"], _, rfl, upd_same, .cons (.ty _) (.cons (.ty _) .nil), (Df.bl b : Df _ (.bl b) (.bool b) []).ty, kLT (.bool b), _, rfl, ?_⟩⟩
    refine iteF ⟨_, rfl, _, .ty "list", .type (tyn (.bool b)), _, _, rfl, .ty "list", (Df.bl b : Df _ (.bl b) (.bool b) []).ty, kit_list (.bool b), _, rfl, iteF ?_⟩
    exact q _ (.of_same (same_upd htp _)) (.bl b)
  | int j =>
    refine iteF ⟨_, rfl, (by show 2 ≤ sizeLine; decide), fun tp htp => ⟨_, tp, [.ty "list", .ty "tuple"], .type (tyn (.int j)), [.type "list", .type "tuple"], _, rfl, upd_same, .cons (.ty _) (.cons (.ty _) .nil), (Df.int j : Df _ (.int j) (.int j) []).ty, kLT (.int j), _, rfl, ?_⟩⟩
    refine iteF ⟨_, rfl, _, .ty "list", .type (tyn (.int j)), _, _, rfl, .ty "list", (Df.int j : Df _ (.int j) (.int j) []).ty, kit_list (.int j), _, rfl, iteF ?_⟩
    exact q _ (.of_same (same_upd htp _)) (.int j)
  | str x =>
    refine iteF ⟨_, rfl, (by show 2 ≤ sizeLine; decide), fun tp htp => ⟨_, tp, [.ty "list", .ty "tuple"], .type (tyn (.str x)), [.type "list", .type "tuple"], _, rfl, upd_same, .cons (.ty _) (.cons (.ty _) .nil), (Df.str x : Df _ (.str x) (.str x) []).ty, kLT (.str x), _, rfl, ?_⟩⟩
    refine iteF ⟨_, rfl, _, .ty "list", .type (tyn (.str x)), _, _, rfl, .ty "list", (Df.str x : Df _ (.str x) (.str x) []).ty, kit_list (.str x), _, rfl, iteF ?_⟩
    exact q _ (.of_same (same_upd htp _)) (.str x)
  | @lst a xs ds FS h1 h2 h3 =>
    have dp : PyData.depthAll ds < n := by simp only [PyData.depth] at hn; omega
    have wa : rawAll ds = true := by simpa only [raw] using hw
    have nz : nodesAll ds ≤ 900 := by simp only [nodes] at hz; omega
    refine iteF ⟨_, rfl, (by show 2 ≤ sizeLine; decide), fun tp htp => ⟨_, tp, [.ty "list", .ty "tuple"], .type (tyn (.list ds)), [.type "list", .type "tuple"], _, rfl, upd_same, .cons (.ty _) (.cons (.ty _) .nil), ty_seqL (SqL.of (same_upd htp _ _ _ h1)), kLT (.list ds), _, rfl, ?_⟩⟩
    have s1 := same_upd htp (.tup [.ty "list", .ty "tuple"])
    refine iteT ⟨_, rfl, a, xs, rfl, .inl (SqL.of (s1 _ _ h1)), fun L hL => ⟨L, rfl, ⟨_, SqL.of upd_same⟩, ?_⟩⟩
    have s2 := s1.trans (same_upd hL (.lst xs))
    refine loop (u := none) upd_same (fun m => ?_) (h2.le s2) wa dp nz fun o1 G st g => ?_
    · obtain ⟨o, e, _⟩ := h2.there _ _ _ L m
      rw [s1 _ _ e] at hL
      cases hL
    have eG : G a = some (.lst xs) := st a _ h3 (s2 _ _ h1)
    refine ⟨_, rfl, _, .ty "list", .type (tyn (.list ds)), _, _, rfl, .ty "list", ty_seqL (SqL.of eG), kit_list (.list ds), _, rfl, iteT ?_⟩
    refine ⟨_, rfl, .inl ⟨rfl, _, SqL.of eG⟩, a, xs, _, rfl, rfl, eG, ?_, ?_⟩
    · have l1 := h2.len
      have l2 := len_nodes ds
      rw [sizeLine_eq]
      omega
    refine q _ (fun b o nb e => ?_) ?_
    · have na : b ≠ a := fun z => nb (by rw [z]; exact List.mem_cons_self)
      rw [upd_ne na]
      exact st b o (fun m => nb (List.mem_cons_of_mem _ m)) (s2 b o e)
    · have z : DfAll (upd G a (.lst (xs ++ [.str "more"]))) xs (growAll ds) FS := g.keep _ _ _ fun b o k e => by
        have na : b ≠ a := fun z => by
          rcases k with k | ⟨ys, rfl⟩
          · exact h3 (z ▸ k)
          · rw [z, eG] at e
            cases e
        rw [upd_ne na]
        exact e
      have z2 := DfAll.snoc z (.str "more" : Df _ (.str "more") (.str "more") []) fun _ _ m => nomatch m
      rw [List.append_nil] at z2
      have w : Df (upd G a (.lst (xs ++ [.str "more"]))) (.ref a) (.list (growAll ds ++ [.str "more"])) (a :: FS) := .lst upd_same z2 h3
      simpa only [grow] using w
  | @tup a xs ds _ h1 h2 =>
    have dp : PyData.depthAll ds < n := by simp only [PyData.depth] at hn; omega
    have wa : rawAll ds = true := by simpa only [raw] using hw
    have nz : nodesAll ds ≤ 900 := by simp only [nodes] at hz; omega
    refine iteF ⟨_, rfl, (by show 2 ≤ sizeLine; decide), fun tp htp => ⟨_, tp, [.ty "list", .ty "tuple"], .type (tyn (.tuple ds)), [.type "list", .type "tuple"], _, rfl, upd_same, .cons (.ty _) (.cons (.ty _) .nil), ty_seqT (SqT.of (same_upd htp _ _ _ h1)), kLT (.tuple ds), _, rfl, ?_⟩⟩
    have s1 := same_upd htp (.tup [.ty "list", .ty "tuple"])
    refine iteT ⟨_, rfl, a, xs, rfl, .inr (SqT.of (s1 _ _ h1)), fun L hL => ⟨L, rfl, ⟨_, SqL.of upd_same⟩, ?_⟩⟩
    have s2 := s1.trans (same_upd hL (.lst xs))
    refine loop (u := none) upd_same (fun m => ?_) (h2.le s2) wa dp nz fun o1 G st g => ?_
    · obtain ⟨o, e, _⟩ := h2.there _ _ _ L m
      rw [s1 _ _ e] at hL
      cases hL
    have na : a ∉ F0 := fun m => by
      obtain ⟨o, e, z⟩ := h2.there _ _ _ a m
      rw [h1] at e
      cases e
      rcases z with ⟨_, z⟩ | ⟨_, z⟩ <;> cases z
    have eG : G a = some (.tup xs) := st a _ na (s2 _ _ h1)
    refine ⟨_, rfl, _, .ty "list", .type (tyn (.tuple ds)), _, _, rfl, .ty "list", ty_seqT (SqT.of eG), kit_list (.tuple ds), _, rfl, iteF ?_⟩
    refine q _ (fun b o nb e => st b o nb (s2 b o e)) ?_
    have w : Df G (.ref a) (.tuple (growAll ds)) F0 := .tup eG g
    simpa only [grow] using w
  | @dic a u e FS h1 h2 h3 =>
    have dp : PyData.depthAll [e] < n := by
      simp only [PyData.depth, PyData.depthKv] at hn
      simp only [PyData.depthAll]
      omega
    have nz : nodesAll [e] ≤ 900 := by
      simp only [nodes, nodesKv] at hz
      simp only [nodesAll]
      omega
    have wa : rawAll [e] = true := by
      have z : raw e = true := by simpa only [raw, rawKv] using hw
      simp only [rawAll, z, Bool.and_self]
    refine iteT ⟨_, rfl, a, _, rfl, h1, fun L hL => ⟨L, rfl, ⟨_, SqL.of upd_same⟩, ?_⟩⟩
    have s2 := same_upd hL (.lst [u])
    have one : DfAll (upd H L (.lst [u])) [u] [e] FS := by
      have z : DfAll (upd H L (.lst [u])) [u] [e] (FS ++ []) := .cons (h2.le s2) .nil fun _ _ m => nomatch m
      rw [List.append_nil] at z
      exact z
    refine loop (u := none) upd_same (fun m => ?_) one wa dp nz fun o1 G st g => ?_
    · obtain ⟨o, e, _⟩ := h2.there _ _ _ L m
      rw [hL] at e
      cases e
    have eG : G a = some (.dK [(Sum.inr "a", u)]) := st a _ h3 (s2 _ _ h1)
    refine ⟨_, rfl, a, _, rfl, DPut.k (k := (Sum.inr "more" : Key)) eG (by show 1 < sizeLine; decide), ?_⟩
    have e6 : putK ([(Sum.inr "a", u)] : List (Key × V)) (Sum.inr "more" : Key) (V.int 1) = ([(Sum.inr "a", u), (Sum.inr "more", .int 1)] : List (Key × V)) := by
      have ne : ¬ ((Sum.inr ("a" : Str) : Key) = (Sum.inr ("more" : Str) : Key)) := by decide +kernel
      unfold putK
      rw [if_neg (by simp only [List.any_cons, List.any_nil, Bool.or_false, decide_eq_true_eq]; exact ne)]
      rfl
    rw [e6]
    have na : ∀ {b : Addr} {o : HO}, (b ∈ FS ∨ ∃ ys, o = HO.tup ys) → G b = some o → b ≠ a := fun {b o} k e z => by
      rcases k with k | ⟨ys, rfl⟩
      · exact h3 (z ▸ k)
      · rw [z, eG] at e
        cases e
    have g1 : Df (upd G a (.dK [(Sum.inr "a", u), (Sum.inr "more", .int 1)])) u (grow e) FS := by
      have z := g.keep (H := G) (G := upd G a (.dK [(Sum.inr "a", u), (Sum.inr "more", .int 1)])) _ _ _ fun b o k e => by
        rw [upd_ne (na k e)]
        exact e
      cases z with
      | cons z1 z2 z3 =>
        cases z2
        rw [List.append_nil]
        exact z1
    generalize eG2 : upd G a (.dK [(Sum.inr "a", u), (Sum.inr "more", .int 1)]) = G2 at g1 ⊢
    have at2 : G2 a = some (.dK [(Sum.inr "a", u), (Sum.inr "more", .int 1)]) := by
      rw [← eG2]
      exact upd_same
    have w : Df G2 (.ref a) (.dict [(.str "a", grow e), (.str "more", .int 1)]) (a :: FS) := .dic2 at2 g1 h3
    refine ⟨_, rfl, (by show 2 ≤ sizeLine; decide), fun tp htp => ⟨_, tp, [.ty "list", .ty "tuple"], .type (tyn (.dict [])), [.type "list", .type "tuple"], _, rfl, upd_same, .cons (.ty _) (.cons (.ty _) .nil), .base (.dK (same_upd htp _ _ _ at2)), kLT (.dict []), _, rfl, ?_⟩⟩
    refine iteF ⟨_, rfl, _, .ty "list", .type (tyn (.dict [])), _, _, rfl, .ty "list", .base (.dK (same_upd htp _ _ _ at2)), kit_list (.dict []), _, rfl, iteF ?_⟩
    refine q _ (fun b o nb e => same_upd htp _ _ _ ?_) ?_
    · rw [← eG2, upd_ne fun z => nb (by rw [z]; exact List.mem_cons_self)]
      exact st b o (fun m => nb (List.mem_cons_of_mem _ m)) (s2 b o e)
    · have z := w.le (same_upd htp (.tup [.ty "list", .ty "tuple"]))
      simpa only [grow, growKv, List.cons_append, List.nil_append] using z
  | dic2 h1 h2 h3 => simp only [raw, rawKv, Bool.false_eq_true] at hw
theorem grown_all (F : Fun K "_law_grown" "_law_grown" lGrown f fd) (at_ : mg "_law_grown" = some (.ref f)) (bd : Binds K fd ["_law_thing"] []) (mi : mg "isinstance" = none) (mD : mg "dict" = none) (mT : mg "tuple" = none) (mL : mg "list" = none) :
    ∀ n : Nat, FnOk P w K mg base CX0 n f fd ["_law_thing"] (spGrown n)
  | 0 => by
    have no : ∀ vs H Q E, ¬ spGrown 0 vs H Q E := fun vs H Q E h => by
      obtain ⟨_, d, _, _, _, _, hn, _⟩ := h
      omega
    exact ⟨fun vs H Q E h => absurd h (no vs H Q E), fun A outer s H args us vs Q E _ _ _ _ h => absurd h (no vs H Q E)⟩
  | n + 1 => ok_grown F at_ bd mi mD mT mL (grown_all F at_ bd mi mD mT mL n)
end
end K2
namespace K2
open PySem PySem.Spec PyProof.Rows L2 Gr
/-! ### the errors' own starts -/
section
variable {P : Program} {w : World} {K : PySem.W.Frag} {mg : Str → Option Value} {base : Heap} {f : Addr} {fd : FuncData}
theorem sc_iNoNumber : FnScope ["self", "found"] ["self", "found"] (defScope (sInit 2)) := ⟨rfl, rfl, rfl, by decide +kernel, rfl, by decide +kernel, by decide +kernel⟩
theorem ok_iNoNumber (F : Fun K "__init__" "NoNumber.__init__" (sInit 2) f fd) : FnOk P w K mg base CX0 1 f fd ["self", "found"] (spI1 K "found") := by
  refine F.ok sc_iNoNumber (fun vs H Q E h => ?_) (fun cdv A outer s H vs Q E hr h => ?_)
  · obtain ⟨a, C, x, bmB, newId, rfl, _⟩ := h
    rfl
  obtain ⟨a, C, x, bmB, newId, rfl, ha, T, no, q⟩ := h
  refine ⟨_, pss_one (ps_osF (bmB := bmB) (newId := newId) (pv 0) (pv 1)), ?_⟩
  exact ⟨_, rfl, _, rfl, a, C, rfl, T, no, ha, fun dx h1 h2 => q dx h1 h2⟩
theorem sc_iNoName : FnScope ["self", "found"] ["self", "found"] (defScope (sInit 3)) := ⟨rfl, rfl, rfl, by decide +kernel, rfl, by decide +kernel, by decide +kernel⟩
theorem ok_iNoName (F : Fun K "__init__" "NoName.__init__" (sInit 3) f fd) : FnOk P w K mg base CX0 1 f fd ["self", "found"] (spI1 K "found") := by
  refine F.ok sc_iNoName (fun vs H Q E h => ?_) (fun cdv A outer s H vs Q E hr h => ?_)
  · obtain ⟨a, C, x, bmB, newId, rfl, _⟩ := h
    rfl
  obtain ⟨a, C, x, bmB, newId, rfl, ha, T, no, q⟩ := h
  refine ⟨_, pss_one (ps_osF (bmB := bmB) (newId := newId) (pv 0) (pv 1)), ?_⟩
  exact ⟨_, rfl, _, rfl, a, C, rfl, T, no, ha, fun dx h1 h2 => q dx h1 h2⟩
theorem sc_iNoThing : FnScope ["self", "found"] ["self", "found"] (defScope (sInit 4)) := ⟨rfl, rfl, rfl, by decide +kernel, rfl, by decide +kernel, by decide +kernel⟩
theorem ok_iNoThing (F : Fun K "__init__" "NoThing.__init__" (sInit 4) f fd) : FnOk P w K mg base CX0 1 f fd ["self", "found"] (spI1 K "found") := by
  refine F.ok sc_iNoThing (fun vs H Q E h => ?_) (fun cdv A outer s H vs Q E hr h => ?_)
  · obtain ⟨a, C, x, bmB, newId, rfl, _⟩ := h
    rfl
  obtain ⟨a, C, x, bmB, newId, rfl, ha, T, no, q⟩ := h
  refine ⟨_, pss_one (ps_osF (bmB := bmB) (newId := newId) (pv 0) (pv 1)), ?_⟩
  exact ⟨_, rfl, _, rfl, a, C, rfl, T, no, ha, fun dx h1 h2 => q dx h1 h2⟩
theorem sc_iNoDeeds : FnScope ["self", "found"] ["self", "found"] (defScope (sInit 5)) := ⟨rfl, rfl, rfl, by decide +kernel, rfl, by decide +kernel, by decide +kernel⟩
theorem ok_iNoDeeds (F : Fun K "__init__" "NoDeeds.__init__" (sInit 5) f fd) : FnOk P w K mg base CX0 1 f fd ["self", "found"] (spI1 K "found") := by
  refine F.ok sc_iNoDeeds (fun vs H Q E h => ?_) (fun cdv A outer s H vs Q E hr h => ?_)
  · obtain ⟨a, C, x, bmB, newId, rfl, _⟩ := h
    rfl
  obtain ⟨a, C, x, bmB, newId, rfl, ha, T, no, q⟩ := h
  refine ⟨_, pss_one (ps_osF (bmB := bmB) (newId := newId) (pv 0) (pv 1)), ?_⟩
  exact ⟨_, rfl, _, rfl, a, C, rfl, T, no, ha, fun dx h1 h2 => q dx h1 h2⟩
theorem sc_iNoTests : FnScope ["self", "found"] ["self", "found"] (defScope (sInit 6)) := ⟨rfl, rfl, rfl, by decide +kernel, rfl, by decide +kernel, by decide +kernel⟩
theorem ok_iNoTests (F : Fun K "__init__" "NoTests.__init__" (sInit 6) f fd) : FnOk P w K mg base CX0 1 f fd ["self", "found"] (spI1 K "found") := by
  refine F.ok sc_iNoTests (fun vs H Q E h => ?_) (fun cdv A outer s H vs Q E hr h => ?_)
  · obtain ⟨a, C, x, bmB, newId, rfl, _⟩ := h
    rfl
  obtain ⟨a, C, x, bmB, newId, rfl, ha, T, no, q⟩ := h
  refine ⟨_, pss_one (ps_osF (bmB := bmB) (newId := newId) (pv 0) (pv 1)), ?_⟩
  exact ⟨_, rfl, _, rfl, a, C, rfl, T, no, ha, fun dx h1 h2 => q dx h1 h2⟩
theorem sc_iNoPlan : FnScope ["self", "found"] ["self", "found"] (defScope (sInit 7)) := ⟨rfl, rfl, rfl, by decide +kernel, rfl, by decide +kernel, by decide +kernel⟩
theorem ok_iNoPlan (F : Fun K "__init__" "NoPlan.__init__" (sInit 7) f fd) : FnOk P w K mg base CX0 1 f fd ["self", "found"] (spI1 K "found") := by
  refine F.ok sc_iNoPlan (fun vs H Q E h => ?_) (fun cdv A outer s H vs Q E hr h => ?_)
  · obtain ⟨a, C, x, bmB, newId, rfl, _⟩ := h
    rfl
  obtain ⟨a, C, x, bmB, newId, rfl, ha, T, no, q⟩ := h
  refine ⟨_, pss_one (ps_osF (bmB := bmB) (newId := newId) (pv 0) (pv 1)), ?_⟩
  exact ⟨_, rfl, _, rfl, a, C, rfl, T, no, ha, fun dx h1 h2 => q dx h1 h2⟩
theorem sc_iNoSource : FnScope ["self", "found"] ["self", "found"] (defScope (sInit 8)) := ⟨rfl, rfl, rfl, by decide +kernel, rfl, by decide +kernel, by decide +kernel⟩
theorem ok_iNoSource (F : Fun K "__init__" "NoSource.__init__" (sInit 8) f fd) : FnOk P w K mg base CX0 1 f fd ["self", "found"] (spI1 K "found") := by
  refine F.ok sc_iNoSource (fun vs H Q E h => ?_) (fun cdv A outer s H vs Q E hr h => ?_)
  · obtain ⟨a, C, x, bmB, newId, rfl, _⟩ := h
    rfl
  obtain ⟨a, C, x, bmB, newId, rfl, ha, T, no, q⟩ := h
  refine ⟨_, pss_one (ps_osF (bmB := bmB) (newId := newId) (pv 0) (pv 1)), ?_⟩
  exact ⟨_, rfl, _, rfl, a, C, rfl, T, no, ha, fun dx h1 h2 => q dx h1 h2⟩
theorem sc_iNoShelf : FnScope ["self", "found"] ["self", "found"] (defScope (sInit 9)) := ⟨rfl, rfl, rfl, by decide +kernel, rfl, by decide +kernel, by decide +kernel⟩
theorem ok_iNoShelf (F : Fun K "__init__" "NoShelf.__init__" (sInit 9) f fd) : FnOk P w K mg base CX0 1 f fd ["self", "found"] (spI1 K "found") := by
  refine F.ok sc_iNoShelf (fun vs H Q E h => ?_) (fun cdv A outer s H vs Q E hr h => ?_)
  · obtain ⟨a, C, x, bmB, newId, rfl, _⟩ := h
    rfl
  obtain ⟨a, C, x, bmB, newId, rfl, ha, T, no, q⟩ := h
  refine ⟨_, pss_one (ps_osF (bmB := bmB) (newId := newId) (pv 0) (pv 1)), ?_⟩
  exact ⟨_, rfl, _, rfl, a, C, rfl, T, no, ha, fun dx h1 h2 => q dx h1 h2⟩
theorem sc_iNoTruth : FnScope ["self", "found"] ["self", "found"] (defScope (sInit 10)) := ⟨rfl, rfl, rfl, by decide +kernel, rfl, by decide +kernel, by decide +kernel⟩
theorem ok_iNoTruth (F : Fun K "__init__" "NoTruth.__init__" (sInit 10) f fd) : FnOk P w K mg base CX0 1 f fd ["self", "found"] (spI1 K "found") := by
  refine F.ok sc_iNoTruth (fun vs H Q E h => ?_) (fun cdv A outer s H vs Q E hr h => ?_)
  · obtain ⟨a, C, x, bmB, newId, rfl, _⟩ := h
    rfl
  obtain ⟨a, C, x, bmB, newId, rfl, ha, T, no, q⟩ := h
  refine ⟨_, pss_one (ps_osF (bmB := bmB) (newId := newId) (pv 0) (pv 1)), ?_⟩
  exact ⟨_, rfl, _, rfl, a, C, rfl, T, no, ha, fun dx h1 h2 => q dx h1 h2⟩
theorem sc_iNoList : FnScope ["self", "found"] ["self", "found"] (defScope (sInit 11)) := ⟨rfl, rfl, rfl, by decide +kernel, rfl, by decide +kernel, by decide +kernel⟩
theorem ok_iNoList (F : Fun K "__init__" "NoList.__init__" (sInit 11) f fd) : FnOk P w K mg base CX0 1 f fd ["self", "found"] (spI1 K "found") := by
  refine F.ok sc_iNoList (fun vs H Q E h => ?_) (fun cdv A outer s H vs Q E hr h => ?_)
  · obtain ⟨a, C, x, bmB, newId, rfl, _⟩ := h
    rfl
  obtain ⟨a, C, x, bmB, newId, rfl, ha, T, no, q⟩ := h
  refine ⟨_, pss_one (ps_osF (bmB := bmB) (newId := newId) (pv 0) (pv 1)), ?_⟩
  exact ⟨_, rfl, _, rfl, a, C, rfl, T, no, ha, fun dx h1 h2 => q dx h1 h2⟩
theorem sc_iNoRow : FnScope ["self", "found"] ["self", "found"] (defScope (sInit 12)) := ⟨rfl, rfl, rfl, by decide +kernel, rfl, by decide +kernel, by decide +kernel⟩
theorem ok_iNoRow (F : Fun K "__init__" "NoRow.__init__" (sInit 12) f fd) : FnOk P w K mg base CX0 1 f fd ["self", "found"] (spI1 K "found") := by
  refine F.ok sc_iNoRow (fun vs H Q E h => ?_) (fun cdv A outer s H vs Q E hr h => ?_)
  · obtain ⟨a, C, x, bmB, newId, rfl, _⟩ := h
    rfl
  obtain ⟨a, C, x, bmB, newId, rfl, ha, T, no, q⟩ := h
  refine ⟨_, pss_one (ps_osF (bmB := bmB) (newId := newId) (pv 0) (pv 1)), ?_⟩
  exact ⟨_, rfl, _, rfl, a, C, rfl, T, no, ha, fun dx h1 h2 => q dx h1 h2⟩
theorem sc_iNoSpot : FnScope ["self", "found"] ["self", "found"] (defScope (sInit 13)) := ⟨rfl, rfl, rfl, by decide +kernel, rfl, by decide +kernel, by decide +kernel⟩
theorem ok_iNoSpot (F : Fun K "__init__" "NoSpot.__init__" (sInit 13) f fd) : FnOk P w K mg base CX0 1 f fd ["self", "found"] (spI1 K "found") := by
  refine F.ok sc_iNoSpot (fun vs H Q E h => ?_) (fun cdv A outer s H vs Q E hr h => ?_)
  · obtain ⟨a, C, x, bmB, newId, rfl, _⟩ := h
    rfl
  obtain ⟨a, C, x, bmB, newId, rfl, ha, T, no, q⟩ := h
  refine ⟨_, pss_one (ps_osF (bmB := bmB) (newId := newId) (pv 0) (pv 1)), ?_⟩
  exact ⟨_, rfl, _, rfl, a, C, rfl, T, no, ha, fun dx h1 h2 => q dx h1 h2⟩
theorem sc_iNoWord : FnScope ["self", "found"] ["self", "found"] (defScope (sInit 14)) := ⟨rfl, rfl, rfl, by decide +kernel, rfl, by decide +kernel, by decide +kernel⟩
theorem ok_iNoWord (F : Fun K "__init__" "NoWord.__init__" (sInit 14) f fd) : FnOk P w K mg base CX0 1 f fd ["self", "found"] (spI1 K "found") := by
  refine F.ok sc_iNoWord (fun vs H Q E h => ?_) (fun cdv A outer s H vs Q E hr h => ?_)
  · obtain ⟨a, C, x, bmB, newId, rfl, _⟩ := h
    rfl
  obtain ⟨a, C, x, bmB, newId, rfl, ha, T, no, q⟩ := h
  refine ⟨_, pss_one (ps_osF (bmB := bmB) (newId := newId) (pv 0) (pv 1)), ?_⟩
  exact ⟨_, rfl, _, rfl, a, C, rfl, T, no, ha, fun dx h1 h2 => q dx h1 h2⟩
theorem sc_iNoLine : FnScope ["self", "found"] ["self", "found"] (defScope (sInit 15)) := ⟨rfl, rfl, rfl, by decide +kernel, rfl, by decide +kernel, by decide +kernel⟩
theorem ok_iNoLine (F : Fun K "__init__" "NoLine.__init__" (sInit 15) f fd) : FnOk P w K mg base CX0 1 f fd ["self", "found"] (spI1 K "found") := by
  refine F.ok sc_iNoLine (fun vs H Q E h => ?_) (fun cdv A outer s H vs Q E hr h => ?_)
  · obtain ⟨a, C, x, bmB, newId, rfl, _⟩ := h
    rfl
  obtain ⟨a, C, x, bmB, newId, rfl, ha, T, no, q⟩ := h
  refine ⟨_, pss_one (ps_osF (bmB := bmB) (newId := newId) (pv 0) (pv 1)), ?_⟩
  exact ⟨_, rfl, _, rfl, a, C, rfl, T, no, ha, fun dx h1 h2 => q dx h1 h2⟩
theorem sc_iNoPaper : FnScope ["self", "found"] ["self", "found"] (defScope (sInit 16)) := ⟨rfl, rfl, rfl, by decide +kernel, rfl, by decide +kernel, by decide +kernel⟩
theorem ok_iNoPaper (F : Fun K "__init__" "NoPaper.__init__" (sInit 16) f fd) : FnOk P w K mg base CX0 1 f fd ["self", "found"] (spI1 K "found") := by
  refine F.ok sc_iNoPaper (fun vs H Q E h => ?_) (fun cdv A outer s H vs Q E hr h => ?_)
  · obtain ⟨a, C, x, bmB, newId, rfl, _⟩ := h
    rfl
  obtain ⟨a, C, x, bmB, newId, rfl, ha, T, no, q⟩ := h
  refine ⟨_, pss_one (ps_osF (bmB := bmB) (newId := newId) (pv 0) (pv 1)), ?_⟩
  exact ⟨_, rfl, _, rfl, a, C, rfl, T, no, ha, fun dx h1 h2 => q dx h1 h2⟩
theorem sc_iNoOrder : FnScope ["self", "found"] ["self", "found"] (defScope (sInit 17)) := ⟨rfl, rfl, rfl, by decide +kernel, rfl, by decide +kernel, by decide +kernel⟩
theorem ok_iNoOrder (F : Fun K "__init__" "NoOrder.__init__" (sInit 17) f fd) : FnOk P w K mg base CX0 1 f fd ["self", "found"] (spI1 K "found") := by
  refine F.ok sc_iNoOrder (fun vs H Q E h => ?_) (fun cdv A outer s H vs Q E hr h => ?_)
  · obtain ⟨a, C, x, bmB, newId, rfl, _⟩ := h
    rfl
  obtain ⟨a, C, x, bmB, newId, rfl, ha, T, no, q⟩ := h
  refine ⟨_, pss_one (ps_osF (bmB := bmB) (newId := newId) (pv 0) (pv 1)), ?_⟩
  exact ⟨_, rfl, _, rfl, a, C, rfl, T, no, ha, fun dx h1 h2 => q dx h1 h2⟩
theorem sc_iDoubled : FnScope ["self", "found"] ["self", "found"] (defScope (sInit 18)) := ⟨rfl, rfl, rfl, by decide +kernel, rfl, by decide +kernel, by decide +kernel⟩
theorem ok_iDoubled (F : Fun K "__init__" "Doubled.__init__" (sInit 18) f fd) : FnOk P w K mg base CX0 1 f fd ["self", "found"] (spI1 K "found") := by
  refine F.ok sc_iDoubled (fun vs H Q E h => ?_) (fun cdv A outer s H vs Q E hr h => ?_)
  · obtain ⟨a, C, x, bmB, newId, rfl, _⟩ := h
    rfl
  obtain ⟨a, C, x, bmB, newId, rfl, ha, T, no, q⟩ := h
  refine ⟨_, pss_one (ps_osF (bmB := bmB) (newId := newId) (pv 0) (pv 1)), ?_⟩
  exact ⟨_, rfl, _, rfl, a, C, rfl, T, no, ha, fun dx h1 h2 => q dx h1 h2⟩
theorem sc_iNoText : FnScope ["self", "at"] ["self", "at"] (defScope (sInit 19)) := ⟨rfl, rfl, rfl, by decide +kernel, rfl, by decide +kernel, by decide +kernel⟩
theorem ok_iNoText (F : Fun K "__init__" "NoText.__init__" (sInit 19) f fd) : FnOk P w K mg base CX0 1 f fd ["self", "at"] (spI1 K "at") := by
  refine F.ok sc_iNoText (fun vs H Q E h => ?_) (fun cdv A outer s H vs Q E hr h => ?_)
  · obtain ⟨a, C, x, bmB, newId, rfl, _⟩ := h
    rfl
  obtain ⟨a, C, x, bmB, newId, rfl, ha, T, no, q⟩ := h
  refine ⟨_, pss_one (ps_osF (bmB := bmB) (newId := newId) (pv 0) (pv 1)), ?_⟩
  exact ⟨_, rfl, _, rfl, a, C, rfl, T, no, ha, fun dx h1 h2 => q dx h1 h2⟩
theorem sc_iNotThere : FnScope ["self", "found"] ["self", "found"] (defScope (sInit 21)) := ⟨rfl, rfl, rfl, by decide +kernel, rfl, by decide +kernel, by decide +kernel⟩
theorem ok_iNotThere (F : Fun K "__init__" "NotThere.__init__" (sInit 21) f fd) : FnOk P w K mg base CX0 1 f fd ["self", "found"] (spI1 K "found") := by
  refine F.ok sc_iNotThere (fun vs H Q E h => ?_) (fun cdv A outer s H vs Q E hr h => ?_)
  · obtain ⟨a, C, x, bmB, newId, rfl, _⟩ := h
    rfl
  obtain ⟨a, C, x, bmB, newId, rfl, ha, T, no, q⟩ := h
  refine ⟨_, pss_one (ps_osF (bmB := bmB) (newId := newId) (pv 0) (pv 1)), ?_⟩
  exact ⟨_, rfl, _, rfl, a, C, rfl, T, no, ha, fun dx h1 h2 => q dx h1 h2⟩
theorem sc_iNotOpen : FnScope ["self", "found"] ["self", "found"] (defScope (sInit 22)) := ⟨rfl, rfl, rfl, by decide +kernel, rfl, by decide +kernel, by decide +kernel⟩
theorem ok_iNotOpen (F : Fun K "__init__" "NotOpen.__init__" (sInit 22) f fd) : FnOk P w K mg base CX0 1 f fd ["self", "found"] (spI1 K "found") := by
  refine F.ok sc_iNotOpen (fun vs H Q E h => ?_) (fun cdv A outer s H vs Q E hr h => ?_)
  · obtain ⟨a, C, x, bmB, newId, rfl, _⟩ := h
    rfl
  obtain ⟨a, C, x, bmB, newId, rfl, ha, T, no, q⟩ := h
  refine ⟨_, pss_one (ps_osF (bmB := bmB) (newId := newId) (pv 0) (pv 1)), ?_⟩
  exact ⟨_, rfl, _, rfl, a, C, rfl, T, no, ha, fun dx h1 h2 => q dx h1 h2⟩
theorem sc_iThrown : FnScope ["self", "word"] ["self", "word"] (defScope (sInit 26)) := ⟨rfl, rfl, rfl, by decide +kernel, rfl, by decide +kernel, by decide +kernel⟩
theorem ok_iThrown (F : Fun K "__init__" "Thrown.__init__" (sInit 26) f fd) : FnOk P w K mg base CX0 1 f fd ["self", "word"] (spI1 K "word") := by
  refine F.ok sc_iThrown (fun vs H Q E h => ?_) (fun cdv A outer s H vs Q E hr h => ?_)
  · obtain ⟨a, C, x, bmB, newId, rfl, _⟩ := h
    rfl
  obtain ⟨a, C, x, bmB, newId, rfl, ha, T, no, q⟩ := h
  refine ⟨_, pss_one (ps_osF (bmB := bmB) (newId := newId) (pv 0) (pv 1)), ?_⟩
  exact ⟨_, rfl, _, rfl, a, C, rfl, T, no, ha, fun dx h1 h2 => q dx h1 h2⟩
theorem sc_iTooMuch : FnScope ["self", "many"] ["self", "many"] (defScope (sInit 27)) := ⟨rfl, rfl, rfl, by decide +kernel, rfl, by decide +kernel, by decide +kernel⟩
theorem ok_iTooMuch (F : Fun K "__init__" "TooMuch.__init__" (sInit 27) f fd) : FnOk P w K mg base CX0 1 f fd ["self", "many"] (spI1 K "many") := by
  refine F.ok sc_iTooMuch (fun vs H Q E h => ?_) (fun cdv A outer s H vs Q E hr h => ?_)
  · obtain ⟨a, C, x, bmB, newId, rfl, _⟩ := h
    rfl
  obtain ⟨a, C, x, bmB, newId, rfl, ha, T, no, q⟩ := h
  refine ⟨_, pss_one (ps_osF (bmB := bmB) (newId := newId) (pv 0) (pv 1)), ?_⟩
  exact ⟨_, rfl, _, rfl, a, C, rfl, T, no, ha, fun dx h1 h2 => q dx h1 h2⟩
theorem sc_iWaits : FnScope ["self", "many"] ["self", "many"] (defScope (sInit 28)) := ⟨rfl, rfl, rfl, by decide +kernel, rfl, by decide +kernel, by decide +kernel⟩
theorem ok_iWaits (F : Fun K "__init__" "Waits.__init__" (sInit 28) f fd) : FnOk P w K mg base CX0 1 f fd ["self", "many"] (spI1 K "many") := by
  refine F.ok sc_iWaits (fun vs H Q E h => ?_) (fun cdv A outer s H vs Q E hr h => ?_)
  · obtain ⟨a, C, x, bmB, newId, rfl, _⟩ := h
    rfl
  obtain ⟨a, C, x, bmB, newId, rfl, ha, T, no, q⟩ := h
  refine ⟨_, pss_one (ps_osF (bmB := bmB) (newId := newId) (pv 0) (pv 1)), ?_⟩
  exact ⟨_, rfl, _, rfl, a, C, rfl, T, no, ha, fun dx h1 h2 => q dx h1 h2⟩
theorem sc_iNotShut : FnScope ["self", "found"] ["self", "found"] (defScope (sInit 29)) := ⟨rfl, rfl, rfl, by decide +kernel, rfl, by decide +kernel, by decide +kernel⟩
theorem ok_iNotShut (F : Fun K "__init__" "NotShut.__init__" (sInit 29) f fd) : FnOk P w K mg base CX0 1 f fd ["self", "found"] (spI1 K "found") := by
  refine F.ok sc_iNotShut (fun vs H Q E h => ?_) (fun cdv A outer s H vs Q E hr h => ?_)
  · obtain ⟨a, C, x, bmB, newId, rfl, _⟩ := h
    rfl
  obtain ⟨a, C, x, bmB, newId, rfl, ha, T, no, q⟩ := h
  refine ⟨_, pss_one (ps_osF (bmB := bmB) (newId := newId) (pv 0) (pv 1)), ?_⟩
  exact ⟨_, rfl, _, rfl, a, C, rfl, T, no, ha, fun dx h1 h2 => q dx h1 h2⟩
theorem sc_iBegun : FnScope ["self", "found"] ["self", "found"] (defScope (sInit 30)) := ⟨rfl, rfl, rfl, by decide +kernel, rfl, by decide +kernel, by decide +kernel⟩
theorem ok_iBegun (F : Fun K "__init__" "Begun.__init__" (sInit 30) f fd) : FnOk P w K mg base CX0 1 f fd ["self", "found"] (spI1 K "found") := by
  refine F.ok sc_iBegun (fun vs H Q E h => ?_) (fun cdv A outer s H vs Q E hr h => ?_)
  · obtain ⟨a, C, x, bmB, newId, rfl, _⟩ := h
    rfl
  obtain ⟨a, C, x, bmB, newId, rfl, ha, T, no, q⟩ := h
  refine ⟨_, pss_one (ps_osF (bmB := bmB) (newId := newId) (pv 0) (pv 1)), ?_⟩
  exact ⟨_, rfl, _, rfl, a, C, rfl, T, no, ha, fun dx h1 h2 => q dx h1 h2⟩
theorem sc_iFault : FnScope ["self", "name", "at"] ["self", "name", "at"] (defScope (sInit 25)) := ⟨rfl, rfl, rfl, by decide +kernel, rfl, by decide +kernel, by decide +kernel⟩
theorem ok_iFault (F : Fun K "__init__" "Fault.__init__" (sInit 25) f fd) : FnOk P w K mg base CX0 1 f fd ["self", "name", "at"] (spI2 K "name" "at") := by
  refine F.ok sc_iFault (fun vs H Q E h => ?_) (fun cdv A outer s H vs Q E hr h => ?_)
  · obtain ⟨a, C, x, y, bmB, newId, rfl, _⟩ := h
    rfl
  obtain ⟨a, C, x, y, bmB, newId, rfl, ha, T, no, no2, q⟩ := h
  refine ⟨_, pss_cons (ps_osF (bmB := bmB) (newId := newId) (pv 0) (pv 1)) (pss_one (ps_osG (bmB := bmB) (newId := newId) (pv 0) (pv 2))), ?_⟩
  refine ⟨_, rfl, _, rfl, a, C, rfl, T, no, ha, fun dx h1 h2 => ?_⟩
  exact ⟨_, rfl, _, rfl, a, C, dx, _, rfl, T, no2, upd_same, by rw [upd_ne h2, upd_same], (by show 1 ≤ 900; decide), q dx h1 h2⟩
end
end K2
namespace K2
open PySem PySem.Spec PyProof.Rows L2 Gr
/-! ### the errors, by their numbers -/
def nmA : List Str := ["NoNumber", "NoName", "NoThing", "NoDeeds", "NoTests", "NoPlan", "NoSource", "NoShelf", "NoTruth"]
def nmB : List Str := ["NoList", "NoRow", "NoSpot", "NoWord", "NoLine", "NoPaper", "NoOrder", "Doubled", "NoText"]
def nmC : List Str := ["NotThere", "NotOpen", "Over", "Fault", "Thrown", "TooMuch", "Waits", "NotShut", "Begun"]
def nms : List Str := nmA ++ (nmB ++ nmC)
def nmOf (j : Nat) : Str := nms.getD j ""
/-- the fields of the error j -/
def fsOf (j : Nat) (x y : V) : List (Str × V) :=
  if j = 17 then [("at", x)] else if j = 20 then [] else if j = 21 then [("at", y), ("name", x)] else if j = 22 then [("word", x)] else if j = 23 then [("many", x)] else if j = 24 then [("many", x)] else [("found", x)]
/-- the error j of x, y stands at a -/
def Ej (K : PySem.W.Frag) (H : Hp) (x y : V) (j : Nat) (a : Addr) : Prop := ErAt H a (He.ga K (nmOf j)) (fsOf j x y)
/-- the first errors -/
def Ers (K : PySem.W.Frag) (x y : V) (H : Hp) (vs : List V) : Prop := ∀ j v, vs[j]? = some v → ∃ a, v = .ref a ∧ Ej K H x y j a
theorem Ers.le {K : PySem.W.Frag} {x y : V} {H G : Hp} {vs : List V} (h : Ers K x y H vs) (s : Same H G) : Ers K x y G vs := fun j v e => by
  obtain ⟨a, e1, e2⟩ := h j v e
  exact ⟨a, e1, e2.le s⟩
theorem Ers.nil {K : PySem.W.Frag} {x y : V} {H : Hp} : Ers K x y H [] := fun j v e => by simp at e
theorem Ers.snoc {K : PySem.W.Frag} {x y : V} {H G : Hp} {vs : List V} {a : Addr} (h : Ers K x y H vs) (s : Same H G) (e : Ej K G x y vs.length a) : Ers K x y G (vs ++ [.ref a]) := fun j v z => by
  by_cases l : j < vs.length
  · rw [List.getElem?_append_left l] at z
    obtain ⟨b, e1, e2⟩ := h j v z
    exact ⟨b, e1, e2.le s⟩
  · rw [List.getElem?_append_right (Nat.le_of_not_lt l)] at z
    have z0 : j - vs.length = 0 := by
      have q := (List.getElem?_eq_some_iff.mp z).1
      rw [List.length_singleton] at q
      omega
    have ej : j = vs.length := by omega
    subst ej
    rw [Nat.sub_self] at z
    cases z
    exact ⟨a, rfl, e⟩
/-- a class without an own start -/
structure Err0 (K : PySem.W.Frag) (mg : Str → Option Value) (x : Str) : Prop where
  how : ∃ bmB newId sB initId, MkOk K (He.ga K x) bmB newId ∧ PySem.HandSPX.StartOk sB initId ∧ bmB.contains (.type sB) = true ∧ PySem.W.findIn K (.ref (He.ga K x)) "__init__" = some (some (.builtin initId))
  gC : mg x = some (.ref (He.ga K x))
/-- a class of two fields -/
structure ErrW (P : Program) (w : World) (K : PySem.W.Frag) (mg : Str → Option Value) (base : Heap) (x f g : Str) (fdI : FuncData) : Prop where
  how : ∃ bmB newId, MkOk K (He.ga K x) bmB newId
  gC : mg x = some (.ref (He.ga K x))
  iC : PySem.W.findIn K (.ref (He.ga K x)) "__init__" = some (some (.ref (He.ma K (He.ga K x) "__init__")))
  tI : PySem.W.typeIn K (.ref (He.ma K (He.ga K x) "__init__")) = some (.type "function")
  no : PySem.W.findIn K (.ref (He.ga K x)) f = some none
  no2 : PySem.W.findIn K (.ref (He.ga K x)) g = some none
  ok : FnOk P w K mg base CX0 1 (He.ma K (He.ga K x) "__init__") fdI ["self", f, g] (spI2 K f g)
  bI : Binds K fdI ["self", f, g] []
  kI : KBn K fdI ["self", f, g] 1 [g, f] (fun us ws => us ++ ws.reverse) (fun vs zs => vs ++ zs.reverse)
section
variable {X : Cx} {x f g : Str} {fdI : FuncData} {p pos : Pos} {e e2 : Expr} {te te2 : TE}
def tNew2 (K : PySem.W.Frag) (x f g : Str) (te te2 : TE) : TE := fun σ H Q => te σ H fun y H1 => te2 σ H1 fun z G => ∀ a F, Same G F → G a = none → ErAt F a (He.ga K x) [(g, z), (f, y)] → Q (.ref a) F
/-- the second one is told first -/
def tNew2K (K : PySem.W.Frag) (x f g : Str) (te te2 : TE) : TE := fun σ H Q => te2 σ H fun z H1 => te σ H1 fun y G => ∀ a F, Same G F → G a = none → ErAt F a (He.ga K x) [(g, z), (f, y)] → Q (.ref a) F
def tNew0 (K : PySem.W.Frag) (x : Str) : TE := fun _ H Q => ∀ a F, Same H F → H a = none → ErAt F a (He.ga K x) [] → Q (.ref a) F
def tNew1 (K : PySem.W.Frag) (x : Str) (te : TE) : TE := fun σ H Q => te σ H fun _ G => ∀ a F, Same G F → G a = none → ErAt F a (He.ga K x) [] → Q (.ref a) F
theorem pe_new2 {i j : Nat} {n1 n2 : Str} {q1 q2 : Pos} (E : ErrW X.prog X.w X.K X.mg X.base x f g fdI) (hr : Room 2 X.A) (gl : Gl X x) (h1 : PE X (.Name n1 q1) (tVar i)) (h2 : PE X (.Name n2 q2) (tVar j)) (nd : (x == ("__debug__" : Str)) = false := by decide)
    (hs : starEach [Expr.Name n1 q1, Expr.Name n2 q2] X.env = (false, eval (Expr.Name n1 q1) X.env) :: starEach [Expr.Name n2 q2] X.env := by rfl) (hs2 : starEach [Expr.Name n2 q2] X.env = (false, eval (Expr.Name n2 q2) X.env) :: starEach [] X.env := by rfl)
    (hpl : (backTo pos (starEach [Expr.Name n2 q2] X.env)).any (·.1) = false := by rfl) :
    PE X (.Call (.Name x p) [.Name n1 q1, .Name n2 q2] [] pos) (tNew2 X.K x f g (tVar i) (tVar j)) := by
  obtain ⟨bmB, newId, ⟨nB, inN, bmN, Fn, L⟩, T⟩ := E.how
  have r := pe_mkV (p := p) (pos := pos) Fn L T E.iC E.tI E.ok hr E.bI pass0 gl E.gC (pa_cons h1 (pa_cons h2 pa_nil hs2) hs) nd hs hpl
  constructor
  intro pl s σ H Q I h
  refine r.run pl s σ H Q I ?_
  obtain ⟨y, ey, z, ez, q⟩ := h
  exact ⟨y, ey, z, ez, (by show 2 ≤ 1000; decide), fun a ha => new_two T E.no E.no2 ha q⟩
theorem pe_new2K {i j : Nat} {kw : List Keyword} (E : ErrW X.prog X.w X.K X.mg X.base x f g fdI) (hr : Room 2 X.A) (gl : Gl X x) (hk : PK X kw (tCons (tVar j) (tCons (tVar i) tNil)))
    (all : (backToKw pos (keywordEach kw X.env)).all (·.1.isSome) = true := by rfl) (named : (backToKw pos (keywordEach kw X.env)).filterMap (·.1) = [g, f] := by rfl) (nd : (x == ("__debug__" : Str)) = false := by decide)
    (plain : ((backTo pos (starEach [] X.env)).any (·.1) || (backToKw pos (keywordEach kw X.env)).any (·.1.isNone)) = false := by rfl) :
    PE X (.Call (.Name x p) [] kw pos) (tNew2K X.K x f g (tVar i) (tVar j)) := by
  obtain ⟨bmB, newId, ⟨nB, inN, bmN, Fn, L⟩, T⟩ := E.how
  have r := pe_mkVK (p := p) (pos := pos) Fn L T E.iC E.tI E.ok hr E.kI pass0 gl E.gC hk all named nd plain
  constructor
  intro pl s σ H Q I h
  refine r.run pl s σ H Q I ?_
  obtain ⟨z, ez, y, ey, q⟩ := h
  exact ⟨z, ez, y, ey, rfl, fun a ha => new_two T E.no E.no2 ha q⟩
theorem pe_new0 (E : Err0 X.K X.mg x) (gl : Gl X x) (nd : (x == ("__debug__" : Str)) = false := by decide) : PE X (.Call (.Name x p) [] [] pos) (tNew0 X.K x) := by
  obtain ⟨bmB, newId, sB, initId, ⟨⟨nB, inN, bmN, Fn, L⟩, T⟩, S, cB, iC⟩ := E.how
  have r := pe_mkV00 (p := p) (pos := pos) Fn L S cB T iC gl E.gC nd
  constructor
  intro pl s σ H Q I h
  refine r.run pl s σ H Q I fun a ha => ?_
  exact h a _ (upd_keeps ha) ha ⟨none, upd_same, .inl ⟨rfl, rfl⟩⟩
theorem pe_new1 (E : Err0 X.K X.mg x) (gl : Gl X x) (he : PE X e te) (nd : (x == ("__debug__" : Str)) = false := by decide) (hs : starEach [e] X.env = (false, eval e X.env) :: starEach [] X.env := by rfl) :
    PE X (.Call (.Name x p) [e] [] pos) (tNew1 X.K x te) := by
  obtain ⟨bmB, newId, sB, initId, ⟨⟨nB, inN, bmN, Fn, L⟩, T⟩, S, cB, iC⟩ := E.how
  have r := pe_mkV1 (p := p) (pos := pos) Fn L S cB T iC gl E.gC (pa_cons (pe_up he) pa_nil hs) nd hs rfl
  constructor
  intro pl s σ H Q I h
  refine r.run pl s σ H Q I ⟨_, h, fun y G q => ⟨(by show 1 ≤ 1000; decide), fun a ha => ?_⟩⟩
  exact q a _ (upd_keeps ha) ha ⟨none, upd_same, .inl ⟨rfl, rfl⟩⟩
end
/-- all of them -/
structure Errs (P : Program) (w : World) (K : PySem.W.Frag) (mg : Str → Option Value) (base : Heap) : Prop where
  eNoNumber : ∃ fdI, ErrV P w K mg base "NoNumber" "found" fdI
  eNoName : ∃ fdI, ErrV P w K mg base "NoName" "found" fdI
  eNoThing : ∃ fdI, ErrV P w K mg base "NoThing" "found" fdI
  eNoDeeds : ∃ fdI, ErrV P w K mg base "NoDeeds" "found" fdI
  eNoTests : ∃ fdI, ErrV P w K mg base "NoTests" "found" fdI
  eNoPlan : ∃ fdI, ErrV P w K mg base "NoPlan" "found" fdI
  eNoSource : ∃ fdI, ErrV P w K mg base "NoSource" "found" fdI
  eNoShelf : ∃ fdI, ErrV P w K mg base "NoShelf" "found" fdI
  eNoTruth : ∃ fdI, ErrV P w K mg base "NoTruth" "found" fdI
  eNoList : ∃ fdI, ErrV P w K mg base "NoList" "found" fdI
  eNoRow : ∃ fdI, ErrV P w K mg base "NoRow" "found" fdI
  eNoSpot : ∃ fdI, ErrV P w K mg base "NoSpot" "found" fdI
  eNoWord : ∃ fdI, ErrV P w K mg base "NoWord" "found" fdI
  eNoLine : ∃ fdI, ErrV P w K mg base "NoLine" "found" fdI
  eNoPaper : ∃ fdI, ErrV P w K mg base "NoPaper" "found" fdI
  eNoOrder : ∃ fdI, ErrV P w K mg base "NoOrder" "found" fdI
  eDoubled : ∃ fdI, ErrV P w K mg base "Doubled" "found" fdI
  eNoText : ∃ fdI, ErrV P w K mg base "NoText" "at" fdI
  eNotThere : ∃ fdI, ErrV P w K mg base "NotThere" "found" fdI
  eNotOpen : ∃ fdI, ErrV P w K mg base "NotOpen" "found" fdI
  eOver : Err0 K mg "Over"
  eFault : ∃ fdI, ErrW P w K mg base "Fault" "name" "at" fdI
  eThrown : ∃ fdI, ErrV P w K mg base "Thrown" "word" fdI
  eTooMuch : ∃ fdI, ErrV P w K mg base "TooMuch" "many" fdI
  eWaits : ∃ fdI, ErrV P w K mg base "Waits" "many" fdI
  eNotShut : ∃ fdI, ErrV P w K mg base "NotShut" "found" fdI
  eBegun : ∃ fdI, ErrV P w K mg base "Begun" "found" fdI
end K2
namespace K2
open PySem PySem.Spec PyProof.Rows L2 Gr
/-- the error i of x, y -/
def spMade (K : PySem.W.Frag) : Sp := fun vs H Q _ => ∃ (i : Nat) (x y : V), vs = [.int i, x, y] ∧ i < 27 ∧ ∀ a G, Same H G → Ej K G x y i a → Q (.ref a) G
theorem scMade : FnScope ["_law_spot", "_law_one", "_law_other", "_law_told"] ["_law_spot", "_law_one", "_law_other"] (defScope lMade) := ⟨rfl, rfl, rfl, by decide +kernel, rfl, by decide +kernel, by decide +kernel⟩
section
variable {P : Program} {w : World} {K : PySem.W.Frag} {mg : Str → Option Value} {base : Heap} {f : Addr} {fd : FuncData}
theorem okMade (F : Fun K "_law_made" "_law_made" lMade f fd) (ER : Errs P w K mg base) : FnOk P w K mg base CX0 3 f fd ["_law_spot", "_law_one", "_law_other"] (spMade K) := by
  refine F.ok scMade (fun vs H Q E h => ?_) (fun cdv A outer s H vs Q E hr h => ?_)
  · obtain ⟨i, x, y, rfl, _⟩ := h
    rfl
  obtain ⟨i, x, y, rfl, hi, q⟩ := h
  obtain ⟨fNoNumber, ENoNumber⟩ := ER.eNoNumber
  obtain ⟨fNoName, ENoName⟩ := ER.eNoName
  obtain ⟨fNoThing, ENoThing⟩ := ER.eNoThing
  obtain ⟨fNoDeeds, ENoDeeds⟩ := ER.eNoDeeds
  obtain ⟨fNoTests, ENoTests⟩ := ER.eNoTests
  obtain ⟨fNoPlan, ENoPlan⟩ := ER.eNoPlan
  obtain ⟨fNoSource, ENoSource⟩ := ER.eNoSource
  obtain ⟨fNoShelf, ENoShelf⟩ := ER.eNoShelf
  obtain ⟨fNoTruth, ENoTruth⟩ := ER.eNoTruth
  obtain ⟨fNoList, ENoList⟩ := ER.eNoList
  obtain ⟨fNoRow, ENoRow⟩ := ER.eNoRow
  obtain ⟨fNoSpot, ENoSpot⟩ := ER.eNoSpot
  obtain ⟨fNoWord, ENoWord⟩ := ER.eNoWord
  obtain ⟨fNoLine, ENoLine⟩ := ER.eNoLine
  obtain ⟨fNoPaper, ENoPaper⟩ := ER.eNoPaper
  obtain ⟨fNoOrder, ENoOrder⟩ := ER.eNoOrder
  obtain ⟨fDoubled, EDoubled⟩ := ER.eDoubled
  obtain ⟨fNoText, ENoText⟩ := ER.eNoText
  obtain ⟨fNotThere, ENotThere⟩ := ER.eNotThere
  obtain ⟨fNotOpen, ENotOpen⟩ := ER.eNotOpen
  have EOver := ER.eOver
  obtain ⟨fFault, EFault⟩ := ER.eFault
  obtain ⟨fThrown, EThrown⟩ := ER.eThrown
  obtain ⟨fTooMuch, ETooMuch⟩ := ER.eTooMuch
  obtain ⟨fWaits, EWaits⟩ := ER.eWaits
  obtain ⟨fNotShut, ENotShut⟩ := ER.eNotShut
  obtain ⟨fBegun, EBegun⟩ := ER.eBegun
  refine ⟨_, pss_cons (ps_set (i := 3) scMade.nd rfl (Or.inl rfl) (pe_lst (pa_cons (pe_new ENoNumber hr rfl (pv 1)) (pa_cons (pe_new ENoName hr rfl (pv 1)) (pa_cons (pe_new ENoThing hr rfl (pv 1)) (pa_cons (pe_new ENoDeeds hr rfl (pv 1)) (pa_cons (pe_new ENoTests hr rfl (pv 1)) (pa_cons (pe_new ENoPlan hr rfl (pv 1)) (pa_nil)))))))))
    (pss_cons (ps_set (i := 3) scMade.nd rfl (Or.inl rfl) (pe_op op_cat (pv 3) (pe_lst (pa_cons (pe_new ENoSource hr rfl (pv 1)) (pa_cons (pe_new ENoShelf hr rfl (pv 1)) (pa_cons (pe_new ENoTruth hr rfl (pv 1)) (pa_cons (pe_new ENoList hr rfl (pv 1)) (pa_cons (pe_new ENoRow hr rfl (pv 1)) (pa_cons (pe_new ENoSpot hr rfl (pv 1)) (pa_cons (pe_new ENoWord hr rfl (pv 1)) (pa_nil)))))))))))
    (pss_cons (ps_set (i := 3) scMade.nd rfl (Or.inl rfl) (pe_op op_cat (pv 3) (pe_lst (pa_cons (pe_new ENoLine hr rfl (pv 1)) (pa_cons (pe_new ENoPaper hr rfl (pv 1)) (pa_cons (pe_new ENoOrder hr rfl (pv 1)) (pa_cons (pe_new EDoubled hr rfl (pv 1)) (pa_cons (pe_new ENoText hr rfl (pv 1)) (pa_cons (pe_new ENotThere hr rfl (pv 1)) (pa_nil))))))))))
    (pss_cons (ps_set (i := 3) scMade.nd rfl (Or.inl rfl) (pe_op op_cat (pv 3) (pe_lst (pa_cons (pe_new ENotOpen hr rfl (pv 1)) (pa_cons (pe_new0 EOver rfl) (pa_cons (pe_new2 EFault hr rfl (pv 1) (pv 2)) (pa_cons (pe_new EThrown hr rfl (pv 1)) (pa_cons (pe_new ETooMuch hr rfl (pv 1)) (pa_cons (pe_new EWaits hr rfl (pv 1)) (pa_cons (pe_new ENotShut hr rfl (pv 1)) (pa_nil)))))))))))
    (pss_cons (ps_set (i := 3) scMade.nd rfl (Or.inl rfl) (pe_op op_cat (pv 3) (pe_lst (pa_cons (pe_new EBegun hr rfl (pv 1)) (pa_nil)))))
    (pss_one (ps_ret (pe_ix ix_list (pv 3) (pv 0) (fun _ _ => rfl)))))))), ?_⟩
  have I0 : Ers K x y H [] := Ers.nil
  have S0 : Same H H := Same.refl _
  refine ⟨_, rfl, fun a0 H0 s0 n0 e0 => ?_⟩
  have I1 := Ers.snoc (vs := []) I0 s0 (show Ej K H0 x y 0 a0 from e0)
  have S1 := S0.trans s0
  refine ⟨_, rfl, fun a1 H1 s1 n1 e1 => ?_⟩
  have I2 := Ers.snoc (vs := [.ref a0]) I1 s1 (show Ej K H1 x y 1 a1 from e1)
  have S2 := S1.trans s1
  refine ⟨_, rfl, fun a2 H2 s2 n2 e2 => ?_⟩
  have I3 := Ers.snoc (vs := [.ref a0, .ref a1]) I2 s2 (show Ej K H2 x y 2 a2 from e2)
  have S3 := S2.trans s2
  refine ⟨_, rfl, fun a3 H3 s3 n3 e3 => ?_⟩
  have I4 := Ers.snoc (vs := [.ref a0, .ref a1, .ref a2]) I3 s3 (show Ej K H3 x y 3 a3 from e3)
  have S4 := S3.trans s3
  refine ⟨_, rfl, fun a4 H4 s4 n4 e4 => ?_⟩
  have I5 := Ers.snoc (vs := [.ref a0, .ref a1, .ref a2, .ref a3]) I4 s4 (show Ej K H4 x y 4 a4 from e4)
  have S5 := S4.trans s4
  refine ⟨_, rfl, fun a5 H5 s5 n5 e5 => ?_⟩
  have I6 := Ers.snoc (vs := [.ref a0, .ref a1, .ref a2, .ref a3, .ref a4]) I5 s5 (show Ej K H5 x y 5 a5 from e5)
  have S6 := S5.trans s5
  refine ⟨(by show 6 ≤ sizeLine; decide), fun p0 hp0 => ?_⟩
  have sp0 := same_upd hp0 (.lst [.ref a0, .ref a1, .ref a2, .ref a3, .ref a4, .ref a5])
  have Sp0 := S6.trans sp0
  have Ip0 : Ers K x y _ [.ref a0, .ref a1, .ref a2, .ref a3, .ref a4, .ref a5] := Ers.le I6 sp0
  have Lp0 : upd H5 p0 (.lst [.ref a0, .ref a1, .ref a2, .ref a3, .ref a4, .ref a5]) p0 = some (.lst [.ref a0, .ref a1, .ref a2, .ref a3, .ref a4, .ref a5]) := upd_same
  refine ⟨_, rfl, ?_⟩
  refine ⟨_, rfl, fun a6 H6 s6 n6 e6 => ?_⟩
  have I7 := Ers.snoc (vs := [.ref a0, .ref a1, .ref a2, .ref a3, .ref a4, .ref a5]) Ip0 s6 (show Ej K H6 x y 6 a6 from e6)
  have S7 := Sp0.trans s6
  have L6 := s6 _ _ Lp0
  refine ⟨_, rfl, fun a7 H7 s7 n7 e7 => ?_⟩
  have I8 := Ers.snoc (vs := [.ref a0, .ref a1, .ref a2, .ref a3, .ref a4, .ref a5, .ref a6]) I7 s7 (show Ej K H7 x y 7 a7 from e7)
  have S8 := S7.trans s7
  have L7 := s7 _ _ L6
  refine ⟨_, rfl, fun a8 H8 s8 n8 e8 => ?_⟩
  have I9 := Ers.snoc (vs := [.ref a0, .ref a1, .ref a2, .ref a3, .ref a4, .ref a5, .ref a6, .ref a7]) I8 s8 (show Ej K H8 x y 8 a8 from e8)
  have S9 := S8.trans s8
  have L8 := s8 _ _ L7
  refine ⟨_, rfl, fun a9 H9 s9 n9 e9 => ?_⟩
  have I10 := Ers.snoc (vs := [.ref a0, .ref a1, .ref a2, .ref a3, .ref a4, .ref a5, .ref a6, .ref a7, .ref a8]) I9 s9 (show Ej K H9 x y 9 a9 from e9)
  have S10 := S9.trans s9
  have L9 := s9 _ _ L8
  refine ⟨_, rfl, fun a10 H10 s10 n10 e10 => ?_⟩
  have I11 := Ers.snoc (vs := [.ref a0, .ref a1, .ref a2, .ref a3, .ref a4, .ref a5, .ref a6, .ref a7, .ref a8, .ref a9]) I10 s10 (show Ej K H10 x y 10 a10 from e10)
  have S11 := S10.trans s10
  have L10 := s10 _ _ L9
  refine ⟨_, rfl, fun a11 H11 s11 n11 e11 => ?_⟩
  have I12 := Ers.snoc (vs := [.ref a0, .ref a1, .ref a2, .ref a3, .ref a4, .ref a5, .ref a6, .ref a7, .ref a8, .ref a9, .ref a10]) I11 s11 (show Ej K H11 x y 11 a11 from e11)
  have S12 := S11.trans s11
  have L11 := s11 _ _ L10
  refine ⟨_, rfl, fun a12 H12 s12 n12 e12 => ?_⟩
  have I13 := Ers.snoc (vs := [.ref a0, .ref a1, .ref a2, .ref a3, .ref a4, .ref a5, .ref a6, .ref a7, .ref a8, .ref a9, .ref a10, .ref a11]) I12 s12 (show Ej K H12 x y 12 a12 from e12)
  have S13 := S12.trans s12
  have L12 := s12 _ _ L11
  refine ⟨(by show 7 ≤ sizeLine; decide), fun p1 hp1 => ?_⟩
  have sp1 := same_upd hp1 (.lst [.ref a6, .ref a7, .ref a8, .ref a9, .ref a10, .ref a11, .ref a12])
  have Sp1 := S13.trans sp1
  have Ip1 : Ers K x y _ [.ref a0, .ref a1, .ref a2, .ref a3, .ref a4, .ref a5, .ref a6, .ref a7, .ref a8, .ref a9, .ref a10, .ref a11, .ref a12] := Ers.le I13 sp1
  refine ⟨_, _, _, _, rfl, rfl, sp1 _ _ L12, upd_same, (by show 13 ≤ sizeLine; decide), fun r1 hr1 => ?_⟩
  have sr1 := same_upd hr1 (.lst [.ref a0, .ref a1, .ref a2, .ref a3, .ref a4, .ref a5, .ref a6, .ref a7, .ref a8, .ref a9, .ref a10, .ref a11, .ref a12])
  have Sr1 := Sp1.trans sr1
  have Ir1 : Ers K x y _ [.ref a0, .ref a1, .ref a2, .ref a3, .ref a4, .ref a5, .ref a6, .ref a7, .ref a8, .ref a9, .ref a10, .ref a11, .ref a12] := Ers.le Ip1 sr1
  have Lr1 := (upd_same : upd (upd H12 p1 (.lst [.ref a6, .ref a7, .ref a8, .ref a9, .ref a10, .ref a11, .ref a12])) r1 (.lst [.ref a0, .ref a1, .ref a2, .ref a3, .ref a4, .ref a5, .ref a6, .ref a7, .ref a8, .ref a9, .ref a10, .ref a11, .ref a12]) r1 = some (.lst [.ref a0, .ref a1, .ref a2, .ref a3, .ref a4, .ref a5, .ref a6, .ref a7, .ref a8, .ref a9, .ref a10, .ref a11, .ref a12]))
  refine ⟨_, rfl, ?_⟩
  refine ⟨_, rfl, fun a13 H13 s13 n13 e13 => ?_⟩
  have I14 := Ers.snoc (vs := [.ref a0, .ref a1, .ref a2, .ref a3, .ref a4, .ref a5, .ref a6, .ref a7, .ref a8, .ref a9, .ref a10, .ref a11, .ref a12]) Ir1 s13 (show Ej K H13 x y 13 a13 from e13)
  have S14 := Sr1.trans s13
  have L13 := s13 _ _ Lr1
  refine ⟨_, rfl, fun a14 H14 s14 n14 e14 => ?_⟩
  have I15 := Ers.snoc (vs := [.ref a0, .ref a1, .ref a2, .ref a3, .ref a4, .ref a5, .ref a6, .ref a7, .ref a8, .ref a9, .ref a10, .ref a11, .ref a12, .ref a13]) I14 s14 (show Ej K H14 x y 14 a14 from e14)
  have S15 := S14.trans s14
  have L14 := s14 _ _ L13
  refine ⟨_, rfl, fun a15 H15 s15 n15 e15 => ?_⟩
  have I16 := Ers.snoc (vs := [.ref a0, .ref a1, .ref a2, .ref a3, .ref a4, .ref a5, .ref a6, .ref a7, .ref a8, .ref a9, .ref a10, .ref a11, .ref a12, .ref a13, .ref a14]) I15 s15 (show Ej K H15 x y 15 a15 from e15)
  have S16 := S15.trans s15
  have L15 := s15 _ _ L14
  refine ⟨_, rfl, fun a16 H16 s16 n16 e16 => ?_⟩
  have I17 := Ers.snoc (vs := [.ref a0, .ref a1, .ref a2, .ref a3, .ref a4, .ref a5, .ref a6, .ref a7, .ref a8, .ref a9, .ref a10, .ref a11, .ref a12, .ref a13, .ref a14, .ref a15]) I16 s16 (show Ej K H16 x y 16 a16 from e16)
  have S17 := S16.trans s16
  have L16 := s16 _ _ L15
  refine ⟨_, rfl, fun a17 H17 s17 n17 e17 => ?_⟩
  have I18 := Ers.snoc (vs := [.ref a0, .ref a1, .ref a2, .ref a3, .ref a4, .ref a5, .ref a6, .ref a7, .ref a8, .ref a9, .ref a10, .ref a11, .ref a12, .ref a13, .ref a14, .ref a15, .ref a16]) I17 s17 (show Ej K H17 x y 17 a17 from e17)
  have S18 := S17.trans s17
  have L17 := s17 _ _ L16
  refine ⟨_, rfl, fun a18 H18 s18 n18 e18 => ?_⟩
  have I19 := Ers.snoc (vs := [.ref a0, .ref a1, .ref a2, .ref a3, .ref a4, .ref a5, .ref a6, .ref a7, .ref a8, .ref a9, .ref a10, .ref a11, .ref a12, .ref a13, .ref a14, .ref a15, .ref a16, .ref a17]) I18 s18 (show Ej K H18 x y 18 a18 from e18)
  have S19 := S18.trans s18
  have L18 := s18 _ _ L17
  refine ⟨(by show 6 ≤ sizeLine; decide), fun p2 hp2 => ?_⟩
  have sp2 := same_upd hp2 (.lst [.ref a13, .ref a14, .ref a15, .ref a16, .ref a17, .ref a18])
  have Sp2 := S19.trans sp2
  have Ip2 : Ers K x y _ [.ref a0, .ref a1, .ref a2, .ref a3, .ref a4, .ref a5, .ref a6, .ref a7, .ref a8, .ref a9, .ref a10, .ref a11, .ref a12, .ref a13, .ref a14, .ref a15, .ref a16, .ref a17, .ref a18] := Ers.le I19 sp2
  refine ⟨_, _, _, _, rfl, rfl, sp2 _ _ L18, upd_same, (by show 19 ≤ sizeLine; decide), fun r2 hr2 => ?_⟩
  have sr2 := same_upd hr2 (.lst [.ref a0, .ref a1, .ref a2, .ref a3, .ref a4, .ref a5, .ref a6, .ref a7, .ref a8, .ref a9, .ref a10, .ref a11, .ref a12, .ref a13, .ref a14, .ref a15, .ref a16, .ref a17, .ref a18])
  have Sr2 := Sp2.trans sr2
  have Ir2 : Ers K x y _ [.ref a0, .ref a1, .ref a2, .ref a3, .ref a4, .ref a5, .ref a6, .ref a7, .ref a8, .ref a9, .ref a10, .ref a11, .ref a12, .ref a13, .ref a14, .ref a15, .ref a16, .ref a17, .ref a18] := Ers.le Ip2 sr2
  have Lr2 := (upd_same : upd (upd H18 p2 (.lst [.ref a13, .ref a14, .ref a15, .ref a16, .ref a17, .ref a18])) r2 (.lst [.ref a0, .ref a1, .ref a2, .ref a3, .ref a4, .ref a5, .ref a6, .ref a7, .ref a8, .ref a9, .ref a10, .ref a11, .ref a12, .ref a13, .ref a14, .ref a15, .ref a16, .ref a17, .ref a18]) r2 = some (.lst [.ref a0, .ref a1, .ref a2, .ref a3, .ref a4, .ref a5, .ref a6, .ref a7, .ref a8, .ref a9, .ref a10, .ref a11, .ref a12, .ref a13, .ref a14, .ref a15, .ref a16, .ref a17, .ref a18]))
  refine ⟨_, rfl, ?_⟩
  refine ⟨_, rfl, fun a19 H19 s19 n19 e19 => ?_⟩
  have I20 := Ers.snoc (vs := [.ref a0, .ref a1, .ref a2, .ref a3, .ref a4, .ref a5, .ref a6, .ref a7, .ref a8, .ref a9, .ref a10, .ref a11, .ref a12, .ref a13, .ref a14, .ref a15, .ref a16, .ref a17, .ref a18]) Ir2 s19 (show Ej K H19 x y 19 a19 from e19)
  have S20 := Sr2.trans s19
  have L19 := s19 _ _ Lr2
  refine fun a20 H20 s20 n20 e20 => ?_
  have I21 := Ers.snoc (vs := [.ref a0, .ref a1, .ref a2, .ref a3, .ref a4, .ref a5, .ref a6, .ref a7, .ref a8, .ref a9, .ref a10, .ref a11, .ref a12, .ref a13, .ref a14, .ref a15, .ref a16, .ref a17, .ref a18, .ref a19]) I20 s20 (show Ej K H20 x y 20 a20 from e20)
  have S21 := S20.trans s20
  have L20 := s20 _ _ L19
  refine ⟨_, rfl, _, rfl, fun a21 H21 s21 n21 e21 => ?_⟩
  have I22 := Ers.snoc (vs := [.ref a0, .ref a1, .ref a2, .ref a3, .ref a4, .ref a5, .ref a6, .ref a7, .ref a8, .ref a9, .ref a10, .ref a11, .ref a12, .ref a13, .ref a14, .ref a15, .ref a16, .ref a17, .ref a18, .ref a19, .ref a20]) I21 s21 (show Ej K H21 x y 21 a21 from e21)
  have S22 := S21.trans s21
  have L21 := s21 _ _ L20
  refine ⟨_, rfl, fun a22 H22 s22 n22 e22 => ?_⟩
  have I23 := Ers.snoc (vs := [.ref a0, .ref a1, .ref a2, .ref a3, .ref a4, .ref a5, .ref a6, .ref a7, .ref a8, .ref a9, .ref a10, .ref a11, .ref a12, .ref a13, .ref a14, .ref a15, .ref a16, .ref a17, .ref a18, .ref a19, .ref a20, .ref a21]) I22 s22 (show Ej K H22 x y 22 a22 from e22)
  have S23 := S22.trans s22
  have L22 := s22 _ _ L21
  refine ⟨_, rfl, fun a23 H23 s23 n23 e23 => ?_⟩
  have I24 := Ers.snoc (vs := [.ref a0, .ref a1, .ref a2, .ref a3, .ref a4, .ref a5, .ref a6, .ref a7, .ref a8, .ref a9, .ref a10, .ref a11, .ref a12, .ref a13, .ref a14, .ref a15, .ref a16, .ref a17, .ref a18, .ref a19, .ref a20, .ref a21, .ref a22]) I23 s23 (show Ej K H23 x y 23 a23 from e23)
  have S24 := S23.trans s23
  have L23 := s23 _ _ L22
  refine ⟨_, rfl, fun a24 H24 s24 n24 e24 => ?_⟩
  have I25 := Ers.snoc (vs := [.ref a0, .ref a1, .ref a2, .ref a3, .ref a4, .ref a5, .ref a6, .ref a7, .ref a8, .ref a9, .ref a10, .ref a11, .ref a12, .ref a13, .ref a14, .ref a15, .ref a16, .ref a17, .ref a18, .ref a19, .ref a20, .ref a21, .ref a22, .ref a23]) I24 s24 (show Ej K H24 x y 24 a24 from e24)
  have S25 := S24.trans s24
  have L24 := s24 _ _ L23
  refine ⟨_, rfl, fun a25 H25 s25 n25 e25 => ?_⟩
  have I26 := Ers.snoc (vs := [.ref a0, .ref a1, .ref a2, .ref a3, .ref a4, .ref a5, .ref a6, .ref a7, .ref a8, .ref a9, .ref a10, .ref a11, .ref a12, .ref a13, .ref a14, .ref a15, .ref a16, .ref a17, .ref a18, .ref a19, .ref a20, .ref a21, .ref a22, .ref a23, .ref a24]) I25 s25 (show Ej K H25 x y 25 a25 from e25)
  have S26 := S25.trans s25
  have L25 := s25 _ _ L24
  refine ⟨(by show 7 ≤ sizeLine; decide), fun p3 hp3 => ?_⟩
  have sp3 := same_upd hp3 (.lst [.ref a19, .ref a20, .ref a21, .ref a22, .ref a23, .ref a24, .ref a25])
  have Sp3 := S26.trans sp3
  have Ip3 : Ers K x y _ [.ref a0, .ref a1, .ref a2, .ref a3, .ref a4, .ref a5, .ref a6, .ref a7, .ref a8, .ref a9, .ref a10, .ref a11, .ref a12, .ref a13, .ref a14, .ref a15, .ref a16, .ref a17, .ref a18, .ref a19, .ref a20, .ref a21, .ref a22, .ref a23, .ref a24, .ref a25] := Ers.le I26 sp3
  refine ⟨_, _, _, _, rfl, rfl, sp3 _ _ L25, upd_same, (by show 26 ≤ sizeLine; decide), fun r3 hr3 => ?_⟩
  have sr3 := same_upd hr3 (.lst [.ref a0, .ref a1, .ref a2, .ref a3, .ref a4, .ref a5, .ref a6, .ref a7, .ref a8, .ref a9, .ref a10, .ref a11, .ref a12, .ref a13, .ref a14, .ref a15, .ref a16, .ref a17, .ref a18, .ref a19, .ref a20, .ref a21, .ref a22, .ref a23, .ref a24, .ref a25])
  have Sr3 := Sp3.trans sr3
  have Ir3 : Ers K x y _ [.ref a0, .ref a1, .ref a2, .ref a3, .ref a4, .ref a5, .ref a6, .ref a7, .ref a8, .ref a9, .ref a10, .ref a11, .ref a12, .ref a13, .ref a14, .ref a15, .ref a16, .ref a17, .ref a18, .ref a19, .ref a20, .ref a21, .ref a22, .ref a23, .ref a24, .ref a25] := Ers.le Ip3 sr3
  have Lr3 := (upd_same : upd (upd H25 p3 (.lst [.ref a19, .ref a20, .ref a21, .ref a22, .ref a23, .ref a24, .ref a25])) r3 (.lst [.ref a0, .ref a1, .ref a2, .ref a3, .ref a4, .ref a5, .ref a6, .ref a7, .ref a8, .ref a9, .ref a10, .ref a11, .ref a12, .ref a13, .ref a14, .ref a15, .ref a16, .ref a17, .ref a18, .ref a19, .ref a20, .ref a21, .ref a22, .ref a23, .ref a24, .ref a25]) r3 = some (.lst [.ref a0, .ref a1, .ref a2, .ref a3, .ref a4, .ref a5, .ref a6, .ref a7, .ref a8, .ref a9, .ref a10, .ref a11, .ref a12, .ref a13, .ref a14, .ref a15, .ref a16, .ref a17, .ref a18, .ref a19, .ref a20, .ref a21, .ref a22, .ref a23, .ref a24, .ref a25]))
  refine ⟨_, rfl, ?_⟩
  refine ⟨_, rfl, fun a26 H26 s26 n26 e26 => ?_⟩
  have I27 := Ers.snoc (vs := [.ref a0, .ref a1, .ref a2, .ref a3, .ref a4, .ref a5, .ref a6, .ref a7, .ref a8, .ref a9, .ref a10, .ref a11, .ref a12, .ref a13, .ref a14, .ref a15, .ref a16, .ref a17, .ref a18, .ref a19, .ref a20, .ref a21, .ref a22, .ref a23, .ref a24, .ref a25]) Ir3 s26 (show Ej K H26 x y 26 a26 from e26)
  have S27 := Sr3.trans s26
  have L26 := s26 _ _ Lr3
  refine ⟨(by show 1 ≤ sizeLine; decide), fun p4 hp4 => ?_⟩
  have sp4 := same_upd hp4 (.lst [.ref a26])
  have Sp4 := S27.trans sp4
  have Ip4 : Ers K x y _ [.ref a0, .ref a1, .ref a2, .ref a3, .ref a4, .ref a5, .ref a6, .ref a7, .ref a8, .ref a9, .ref a10, .ref a11, .ref a12, .ref a13, .ref a14, .ref a15, .ref a16, .ref a17, .ref a18, .ref a19, .ref a20, .ref a21, .ref a22, .ref a23, .ref a24, .ref a25, .ref a26] := Ers.le I27 sp4
  refine ⟨_, _, _, _, rfl, rfl, sp4 _ _ L26, upd_same, (by show 27 ≤ sizeLine; decide), fun r4 hr4 => ?_⟩
  have sr4 := same_upd hr4 (.lst [.ref a0, .ref a1, .ref a2, .ref a3, .ref a4, .ref a5, .ref a6, .ref a7, .ref a8, .ref a9, .ref a10, .ref a11, .ref a12, .ref a13, .ref a14, .ref a15, .ref a16, .ref a17, .ref a18, .ref a19, .ref a20, .ref a21, .ref a22, .ref a23, .ref a24, .ref a25, .ref a26])
  have Sr4 := Sp4.trans sr4
  have Ir4 : Ers K x y _ [.ref a0, .ref a1, .ref a2, .ref a3, .ref a4, .ref a5, .ref a6, .ref a7, .ref a8, .ref a9, .ref a10, .ref a11, .ref a12, .ref a13, .ref a14, .ref a15, .ref a16, .ref a17, .ref a18, .ref a19, .ref a20, .ref a21, .ref a22, .ref a23, .ref a24, .ref a25, .ref a26] := Ers.le Ip4 sr4
  have Lr4 := (upd_same : upd (upd H26 p4 (.lst [.ref a26])) r4 (.lst [.ref a0, .ref a1, .ref a2, .ref a3, .ref a4, .ref a5, .ref a6, .ref a7, .ref a8, .ref a9, .ref a10, .ref a11, .ref a12, .ref a13, .ref a14, .ref a15, .ref a16, .ref a17, .ref a18, .ref a19, .ref a20, .ref a21, .ref a22, .ref a23, .ref a24, .ref a25, .ref a26]) r4 = some (.lst [.ref a0, .ref a1, .ref a2, .ref a3, .ref a4, .ref a5, .ref a6, .ref a7, .ref a8, .ref a9, .ref a10, .ref a11, .ref a12, .ref a13, .ref a14, .ref a15, .ref a16, .ref a17, .ref a18, .ref a19, .ref a20, .ref a21, .ref a22, .ref a23, .ref a24, .ref a25, .ref a26]))
  obtain ⟨v, ev⟩ : ∃ v, ([.ref a0, .ref a1, .ref a2, .ref a3, .ref a4, .ref a5, .ref a6, .ref a7, .ref a8, .ref a9, .ref a10, .ref a11, .ref a12, .ref a13, .ref a14, .ref a15, .ref a16, .ref a17, .ref a18, .ref a19, .ref a20, .ref a21, .ref a22, .ref a23, .ref a24, .ref a25, .ref a26] : List V)[i]? = some v := ⟨_, List.getElem?_eq_getElem (by show i < 27; exact hi)⟩
  obtain ⟨a, rfl, ea⟩ := Ir4 i v ev
  exact ⟨_, rfl, _, rfl, _, _, _, _, rfl, rfl, SqL.of Lr4, atI_nat ev, q a _ Sr4 ea⟩
end
end K2
namespace K2
open PySem PySem.Spec PyProof.Rows L2 Gr
theorem scByName : FnScope ["_law_spot", "_law_one", "_law_other", "_law_told"] ["_law_spot", "_law_one", "_law_other"] (defScope lByName) := ⟨rfl, rfl, rfl, by decide +kernel, rfl, by decide +kernel, by decide +kernel⟩
section
variable {P : Program} {w : World} {K : PySem.W.Frag} {mg : Str → Option Value} {base : Heap} {f : Addr} {fd : FuncData}
theorem okByName (F : Fun K "_law_by_name" "_law_by_name" lByName f fd) (ER : Errs P w K mg base) : FnOk P w K mg base CX0 3 f fd ["_law_spot", "_law_one", "_law_other"] (spMade K) := by
  refine F.ok scByName (fun vs H Q E h => ?_) (fun cdv A outer s H vs Q E hr h => ?_)
  · obtain ⟨i, x, y, rfl, _⟩ := h
    rfl
  obtain ⟨i, x, y, rfl, hi, q⟩ := h
  obtain ⟨fNoNumber, ENoNumber⟩ := ER.eNoNumber
  obtain ⟨fNoName, ENoName⟩ := ER.eNoName
  obtain ⟨fNoThing, ENoThing⟩ := ER.eNoThing
  obtain ⟨fNoDeeds, ENoDeeds⟩ := ER.eNoDeeds
  obtain ⟨fNoTests, ENoTests⟩ := ER.eNoTests
  obtain ⟨fNoPlan, ENoPlan⟩ := ER.eNoPlan
  obtain ⟨fNoSource, ENoSource⟩ := ER.eNoSource
  obtain ⟨fNoShelf, ENoShelf⟩ := ER.eNoShelf
  obtain ⟨fNoTruth, ENoTruth⟩ := ER.eNoTruth
  obtain ⟨fNoList, ENoList⟩ := ER.eNoList
  obtain ⟨fNoRow, ENoRow⟩ := ER.eNoRow
  obtain ⟨fNoSpot, ENoSpot⟩ := ER.eNoSpot
  obtain ⟨fNoWord, ENoWord⟩ := ER.eNoWord
  obtain ⟨fNoLine, ENoLine⟩ := ER.eNoLine
  obtain ⟨fNoPaper, ENoPaper⟩ := ER.eNoPaper
  obtain ⟨fNoOrder, ENoOrder⟩ := ER.eNoOrder
  obtain ⟨fDoubled, EDoubled⟩ := ER.eDoubled
  obtain ⟨fNoText, ENoText⟩ := ER.eNoText
  obtain ⟨fNotThere, ENotThere⟩ := ER.eNotThere
  obtain ⟨fNotOpen, ENotOpen⟩ := ER.eNotOpen
  have EOver := ER.eOver
  obtain ⟨fFault, EFault⟩ := ER.eFault
  obtain ⟨fThrown, EThrown⟩ := ER.eThrown
  obtain ⟨fTooMuch, ETooMuch⟩ := ER.eTooMuch
  obtain ⟨fWaits, EWaits⟩ := ER.eWaits
  obtain ⟨fNotShut, ENotShut⟩ := ER.eNotShut
  obtain ⟨fBegun, EBegun⟩ := ER.eBegun
  refine ⟨_, pss_cons (ps_set (i := 3) scByName.nd rfl (Or.inl rfl) (pe_lst (pa_cons (pe_newK ENoNumber hr rfl (pk_cons (pe_up (pv 1)) pk_nil)) (pa_cons (pe_newK ENoName hr rfl (pk_cons (pe_up (pv 1)) pk_nil)) (pa_cons (pe_newK ENoThing hr rfl (pk_cons (pe_up (pv 1)) pk_nil)) (pa_cons (pe_newK ENoDeeds hr rfl (pk_cons (pe_up (pv 1)) pk_nil)) (pa_nil)))))))
    (pss_cons (ps_set (i := 3) scByName.nd rfl (Or.inl rfl) (pe_op op_cat (pv 3) (pe_lst (pa_cons (pe_newK ENoTests hr rfl (pk_cons (pe_up (pv 1)) pk_nil)) (pa_cons (pe_newK ENoPlan hr rfl (pk_cons (pe_up (pv 1)) pk_nil)) (pa_cons (pe_newK ENoSource hr rfl (pk_cons (pe_up (pv 1)) pk_nil)) (pa_cons (pe_newK ENoShelf hr rfl (pk_cons (pe_up (pv 1)) pk_nil)) (pa_nil))))))))
    (pss_cons (ps_set (i := 3) scByName.nd rfl (Or.inl rfl) (pe_op op_cat (pv 3) (pe_lst (pa_cons (pe_newK ENoTruth hr rfl (pk_cons (pe_up (pv 1)) pk_nil)) (pa_cons (pe_newK ENoList hr rfl (pk_cons (pe_up (pv 1)) pk_nil)) (pa_cons (pe_newK ENoRow hr rfl (pk_cons (pe_up (pv 1)) pk_nil)) (pa_cons (pe_newK ENoSpot hr rfl (pk_cons (pe_up (pv 1)) pk_nil)) (pa_cons (pe_newK ENoWord hr rfl (pk_cons (pe_up (pv 1)) pk_nil)) (pa_nil)))))))))
    (pss_cons (ps_set (i := 3) scByName.nd rfl (Or.inl rfl) (pe_op op_cat (pv 3) (pe_lst (pa_cons (pe_newK ENoLine hr rfl (pk_cons (pe_up (pv 1)) pk_nil)) (pa_cons (pe_newK ENoPaper hr rfl (pk_cons (pe_up (pv 1)) pk_nil)) (pa_cons (pe_newK ENoOrder hr rfl (pk_cons (pe_up (pv 1)) pk_nil)) (pa_cons (pe_newK EDoubled hr rfl (pk_cons (pe_up (pv 1)) pk_nil)) (pa_cons (pe_newK ENoText hr rfl (pk_cons (pe_up (pv 1)) pk_nil)) (pa_nil)))))))))
    (pss_cons (ps_set (i := 3) scByName.nd rfl (Or.inl rfl) (pe_op op_cat (pv 3) (pe_lst (pa_cons (pe_newK ENotThere hr rfl (pk_cons (pe_up (pv 1)) pk_nil)) (pa_cons (pe_newK ENotOpen hr rfl (pk_cons (pe_up (pv 1)) pk_nil)) (pa_cons (pe_new0 EOver rfl) (pa_cons (pe_new2K (i := 1) (j := 2) EFault hr rfl (pk_cons (pv 2) (pk_cons (pv 1) pk_nil))) (pa_cons (pe_newK EThrown hr rfl (pk_cons (pe_up (pv 1)) pk_nil)) (pa_nil)))))))))
    (pss_cons (ps_set (i := 3) scByName.nd rfl (Or.inl rfl) (pe_op op_cat (pv 3) (pe_lst (pa_cons (pe_newK ETooMuch hr rfl (pk_cons (pe_up (pv 1)) pk_nil)) (pa_cons (pe_newK EWaits hr rfl (pk_cons (pe_up (pv 1)) pk_nil)) (pa_cons (pe_newK ENotShut hr rfl (pk_cons (pe_up (pv 1)) pk_nil)) (pa_cons (pe_newK EBegun hr rfl (pk_cons (pe_up (pv 1)) pk_nil)) (pa_nil))))))))
    (pss_one (ps_ret (pe_ix ix_list (pv 3) (pv 0) (fun _ _ => rfl))))))))), ?_⟩
  have I0 : Ers K x y H [] := Ers.nil
  have S0 : Same H H := Same.refl _
  refine ⟨_, rfl, fun a0 H0 s0 n0 e0 => ?_⟩
  have I1 := Ers.snoc (vs := []) I0 s0 (show Ej K H0 x y 0 a0 from e0)
  have S1 := S0.trans s0
  refine ⟨_, rfl, fun a1 H1 s1 n1 e1 => ?_⟩
  have I2 := Ers.snoc (vs := [.ref a0]) I1 s1 (show Ej K H1 x y 1 a1 from e1)
  have S2 := S1.trans s1
  refine ⟨_, rfl, fun a2 H2 s2 n2 e2 => ?_⟩
  have I3 := Ers.snoc (vs := [.ref a0, .ref a1]) I2 s2 (show Ej K H2 x y 2 a2 from e2)
  have S3 := S2.trans s2
  refine ⟨_, rfl, fun a3 H3 s3 n3 e3 => ?_⟩
  have I4 := Ers.snoc (vs := [.ref a0, .ref a1, .ref a2]) I3 s3 (show Ej K H3 x y 3 a3 from e3)
  have S4 := S3.trans s3
  refine ⟨(by show 4 ≤ sizeLine; decide), fun p0 hp0 => ?_⟩
  have sp0 := same_upd hp0 (.lst [.ref a0, .ref a1, .ref a2, .ref a3])
  have Sp0 := S4.trans sp0
  have Ip0 : Ers K x y _ [.ref a0, .ref a1, .ref a2, .ref a3] := Ers.le I4 sp0
  have Lp0 : upd H3 p0 (.lst [.ref a0, .ref a1, .ref a2, .ref a3]) p0 = some (.lst [.ref a0, .ref a1, .ref a2, .ref a3]) := upd_same
  refine ⟨_, rfl, ?_⟩
  refine ⟨_, rfl, fun a4 H4 s4 n4 e4 => ?_⟩
  have I5 := Ers.snoc (vs := [.ref a0, .ref a1, .ref a2, .ref a3]) Ip0 s4 (show Ej K H4 x y 4 a4 from e4)
  have S5 := Sp0.trans s4
  have L4 := s4 _ _ Lp0
  refine ⟨_, rfl, fun a5 H5 s5 n5 e5 => ?_⟩
  have I6 := Ers.snoc (vs := [.ref a0, .ref a1, .ref a2, .ref a3, .ref a4]) I5 s5 (show Ej K H5 x y 5 a5 from e5)
  have S6 := S5.trans s5
  have L5 := s5 _ _ L4
  refine ⟨_, rfl, fun a6 H6 s6 n6 e6 => ?_⟩
  have I7 := Ers.snoc (vs := [.ref a0, .ref a1, .ref a2, .ref a3, .ref a4, .ref a5]) I6 s6 (show Ej K H6 x y 6 a6 from e6)
  have S7 := S6.trans s6
  have L6 := s6 _ _ L5
  refine ⟨_, rfl, fun a7 H7 s7 n7 e7 => ?_⟩
  have I8 := Ers.snoc (vs := [.ref a0, .ref a1, .ref a2, .ref a3, .ref a4, .ref a5, .ref a6]) I7 s7 (show Ej K H7 x y 7 a7 from e7)
  have S8 := S7.trans s7
  have L7 := s7 _ _ L6
  refine ⟨(by show 4 ≤ sizeLine; decide), fun p1 hp1 => ?_⟩
  have sp1 := same_upd hp1 (.lst [.ref a4, .ref a5, .ref a6, .ref a7])
  have Sp1 := S8.trans sp1
  have Ip1 : Ers K x y _ [.ref a0, .ref a1, .ref a2, .ref a3, .ref a4, .ref a5, .ref a6, .ref a7] := Ers.le I8 sp1
  refine ⟨_, _, _, _, rfl, rfl, sp1 _ _ L7, upd_same, (by show 8 ≤ sizeLine; decide), fun r1 hr1 => ?_⟩
  have sr1 := same_upd hr1 (.lst [.ref a0, .ref a1, .ref a2, .ref a3, .ref a4, .ref a5, .ref a6, .ref a7])
  have Sr1 := Sp1.trans sr1
  have Ir1 : Ers K x y _ [.ref a0, .ref a1, .ref a2, .ref a3, .ref a4, .ref a5, .ref a6, .ref a7] := Ers.le Ip1 sr1
  have Lr1 := (upd_same : upd (upd H7 p1 (.lst [.ref a4, .ref a5, .ref a6, .ref a7])) r1 (.lst [.ref a0, .ref a1, .ref a2, .ref a3, .ref a4, .ref a5, .ref a6, .ref a7]) r1 = some (.lst [.ref a0, .ref a1, .ref a2, .ref a3, .ref a4, .ref a5, .ref a6, .ref a7]))
  refine ⟨_, rfl, ?_⟩
  refine ⟨_, rfl, fun a8 H8 s8 n8 e8 => ?_⟩
  have I9 := Ers.snoc (vs := [.ref a0, .ref a1, .ref a2, .ref a3, .ref a4, .ref a5, .ref a6, .ref a7]) Ir1 s8 (show Ej K H8 x y 8 a8 from e8)
  have S9 := Sr1.trans s8
  have L8 := s8 _ _ Lr1
  refine ⟨_, rfl, fun a9 H9 s9 n9 e9 => ?_⟩
  have I10 := Ers.snoc (vs := [.ref a0, .ref a1, .ref a2, .ref a3, .ref a4, .ref a5, .ref a6, .ref a7, .ref a8]) I9 s9 (show Ej K H9 x y 9 a9 from e9)
  have S10 := S9.trans s9
  have L9 := s9 _ _ L8
  refine ⟨_, rfl, fun a10 H10 s10 n10 e10 => ?_⟩
  have I11 := Ers.snoc (vs := [.ref a0, .ref a1, .ref a2, .ref a3, .ref a4, .ref a5, .ref a6, .ref a7, .ref a8, .ref a9]) I10 s10 (show Ej K H10 x y 10 a10 from e10)
  have S11 := S10.trans s10
  have L10 := s10 _ _ L9
  refine ⟨_, rfl, fun a11 H11 s11 n11 e11 => ?_⟩
  have I12 := Ers.snoc (vs := [.ref a0, .ref a1, .ref a2, .ref a3, .ref a4, .ref a5, .ref a6, .ref a7, .ref a8, .ref a9, .ref a10]) I11 s11 (show Ej K H11 x y 11 a11 from e11)
  have S12 := S11.trans s11
  have L11 := s11 _ _ L10
  refine ⟨_, rfl, fun a12 H12 s12 n12 e12 => ?_⟩
  have I13 := Ers.snoc (vs := [.ref a0, .ref a1, .ref a2, .ref a3, .ref a4, .ref a5, .ref a6, .ref a7, .ref a8, .ref a9, .ref a10, .ref a11]) I12 s12 (show Ej K H12 x y 12 a12 from e12)
  have S13 := S12.trans s12
  have L12 := s12 _ _ L11
  refine ⟨(by show 5 ≤ sizeLine; decide), fun p2 hp2 => ?_⟩
  have sp2 := same_upd hp2 (.lst [.ref a8, .ref a9, .ref a10, .ref a11, .ref a12])
  have Sp2 := S13.trans sp2
  have Ip2 : Ers K x y _ [.ref a0, .ref a1, .ref a2, .ref a3, .ref a4, .ref a5, .ref a6, .ref a7, .ref a8, .ref a9, .ref a10, .ref a11, .ref a12] := Ers.le I13 sp2
  refine ⟨_, _, _, _, rfl, rfl, sp2 _ _ L12, upd_same, (by show 13 ≤ sizeLine; decide), fun r2 hr2 => ?_⟩
  have sr2 := same_upd hr2 (.lst [.ref a0, .ref a1, .ref a2, .ref a3, .ref a4, .ref a5, .ref a6, .ref a7, .ref a8, .ref a9, .ref a10, .ref a11, .ref a12])
  have Sr2 := Sp2.trans sr2
  have Ir2 : Ers K x y _ [.ref a0, .ref a1, .ref a2, .ref a3, .ref a4, .ref a5, .ref a6, .ref a7, .ref a8, .ref a9, .ref a10, .ref a11, .ref a12] := Ers.le Ip2 sr2
  have Lr2 := (upd_same : upd (upd H12 p2 (.lst [.ref a8, .ref a9, .ref a10, .ref a11, .ref a12])) r2 (.lst [.ref a0, .ref a1, .ref a2, .ref a3, .ref a4, .ref a5, .ref a6, .ref a7, .ref a8, .ref a9, .ref a10, .ref a11, .ref a12]) r2 = some (.lst [.ref a0, .ref a1, .ref a2, .ref a3, .ref a4, .ref a5, .ref a6, .ref a7, .ref a8, .ref a9, .ref a10, .ref a11, .ref a12]))
  refine ⟨_, rfl, ?_⟩
  refine ⟨_, rfl, fun a13 H13 s13 n13 e13 => ?_⟩
  have I14 := Ers.snoc (vs := [.ref a0, .ref a1, .ref a2, .ref a3, .ref a4, .ref a5, .ref a6, .ref a7, .ref a8, .ref a9, .ref a10, .ref a11, .ref a12]) Ir2 s13 (show Ej K H13 x y 13 a13 from e13)
  have S14 := Sr2.trans s13
  have L13 := s13 _ _ Lr2
  refine ⟨_, rfl, fun a14 H14 s14 n14 e14 => ?_⟩
  have I15 := Ers.snoc (vs := [.ref a0, .ref a1, .ref a2, .ref a3, .ref a4, .ref a5, .ref a6, .ref a7, .ref a8, .ref a9, .ref a10, .ref a11, .ref a12, .ref a13]) I14 s14 (show Ej K H14 x y 14 a14 from e14)
  have S15 := S14.trans s14
  have L14 := s14 _ _ L13
  refine ⟨_, rfl, fun a15 H15 s15 n15 e15 => ?_⟩
  have I16 := Ers.snoc (vs := [.ref a0, .ref a1, .ref a2, .ref a3, .ref a4, .ref a5, .ref a6, .ref a7, .ref a8, .ref a9, .ref a10, .ref a11, .ref a12, .ref a13, .ref a14]) I15 s15 (show Ej K H15 x y 15 a15 from e15)
  have S16 := S15.trans s15
  have L15 := s15 _ _ L14
  refine ⟨_, rfl, fun a16 H16 s16 n16 e16 => ?_⟩
  have I17 := Ers.snoc (vs := [.ref a0, .ref a1, .ref a2, .ref a3, .ref a4, .ref a5, .ref a6, .ref a7, .ref a8, .ref a9, .ref a10, .ref a11, .ref a12, .ref a13, .ref a14, .ref a15]) I16 s16 (show Ej K H16 x y 16 a16 from e16)
  have S17 := S16.trans s16
  have L16 := s16 _ _ L15
  refine ⟨_, rfl, fun a17 H17 s17 n17 e17 => ?_⟩
  have I18 := Ers.snoc (vs := [.ref a0, .ref a1, .ref a2, .ref a3, .ref a4, .ref a5, .ref a6, .ref a7, .ref a8, .ref a9, .ref a10, .ref a11, .ref a12, .ref a13, .ref a14, .ref a15, .ref a16]) I17 s17 (show Ej K H17 x y 17 a17 from e17)
  have S18 := S17.trans s17
  have L17 := s17 _ _ L16
  refine ⟨(by show 5 ≤ sizeLine; decide), fun p3 hp3 => ?_⟩
  have sp3 := same_upd hp3 (.lst [.ref a13, .ref a14, .ref a15, .ref a16, .ref a17])
  have Sp3 := S18.trans sp3
  have Ip3 : Ers K x y _ [.ref a0, .ref a1, .ref a2, .ref a3, .ref a4, .ref a5, .ref a6, .ref a7, .ref a8, .ref a9, .ref a10, .ref a11, .ref a12, .ref a13, .ref a14, .ref a15, .ref a16, .ref a17] := Ers.le I18 sp3
  refine ⟨_, _, _, _, rfl, rfl, sp3 _ _ L17, upd_same, (by show 18 ≤ sizeLine; decide), fun r3 hr3 => ?_⟩
  have sr3 := same_upd hr3 (.lst [.ref a0, .ref a1, .ref a2, .ref a3, .ref a4, .ref a5, .ref a6, .ref a7, .ref a8, .ref a9, .ref a10, .ref a11, .ref a12, .ref a13, .ref a14, .ref a15, .ref a16, .ref a17])
  have Sr3 := Sp3.trans sr3
  have Ir3 : Ers K x y _ [.ref a0, .ref a1, .ref a2, .ref a3, .ref a4, .ref a5, .ref a6, .ref a7, .ref a8, .ref a9, .ref a10, .ref a11, .ref a12, .ref a13, .ref a14, .ref a15, .ref a16, .ref a17] := Ers.le Ip3 sr3
  have Lr3 := (upd_same : upd (upd H17 p3 (.lst [.ref a13, .ref a14, .ref a15, .ref a16, .ref a17])) r3 (.lst [.ref a0, .ref a1, .ref a2, .ref a3, .ref a4, .ref a5, .ref a6, .ref a7, .ref a8, .ref a9, .ref a10, .ref a11, .ref a12, .ref a13, .ref a14, .ref a15, .ref a16, .ref a17]) r3 = some (.lst [.ref a0, .ref a1, .ref a2, .ref a3, .ref a4, .ref a5, .ref a6, .ref a7, .ref a8, .ref a9, .ref a10, .ref a11, .ref a12, .ref a13, .ref a14, .ref a15, .ref a16, .ref a17]))
  refine ⟨_, rfl, ?_⟩
  refine ⟨_, rfl, fun a18 H18 s18 n18 e18 => ?_⟩
  have I19 := Ers.snoc (vs := [.ref a0, .ref a1, .ref a2, .ref a3, .ref a4, .ref a5, .ref a6, .ref a7, .ref a8, .ref a9, .ref a10, .ref a11, .ref a12, .ref a13, .ref a14, .ref a15, .ref a16, .ref a17]) Ir3 s18 (show Ej K H18 x y 18 a18 from e18)
  have S19 := Sr3.trans s18
  have L18 := s18 _ _ Lr3
  refine ⟨_, rfl, fun a19 H19 s19 n19 e19 => ?_⟩
  have I20 := Ers.snoc (vs := [.ref a0, .ref a1, .ref a2, .ref a3, .ref a4, .ref a5, .ref a6, .ref a7, .ref a8, .ref a9, .ref a10, .ref a11, .ref a12, .ref a13, .ref a14, .ref a15, .ref a16, .ref a17, .ref a18]) I19 s19 (show Ej K H19 x y 19 a19 from e19)
  have S20 := S19.trans s19
  have L19 := s19 _ _ L18
  refine fun a20 H20 s20 n20 e20 => ?_
  have I21 := Ers.snoc (vs := [.ref a0, .ref a1, .ref a2, .ref a3, .ref a4, .ref a5, .ref a6, .ref a7, .ref a8, .ref a9, .ref a10, .ref a11, .ref a12, .ref a13, .ref a14, .ref a15, .ref a16, .ref a17, .ref a18, .ref a19]) I20 s20 (show Ej K H20 x y 20 a20 from e20)
  have S21 := S20.trans s20
  have L20 := s20 _ _ L19
  refine ⟨_, rfl, _, rfl, fun a21 H21 s21 n21 e21 => ?_⟩
  have I22 := Ers.snoc (vs := [.ref a0, .ref a1, .ref a2, .ref a3, .ref a4, .ref a5, .ref a6, .ref a7, .ref a8, .ref a9, .ref a10, .ref a11, .ref a12, .ref a13, .ref a14, .ref a15, .ref a16, .ref a17, .ref a18, .ref a19, .ref a20]) I21 s21 (show Ej K H21 x y 21 a21 from e21)
  have S22 := S21.trans s21
  have L21 := s21 _ _ L20
  refine ⟨_, rfl, fun a22 H22 s22 n22 e22 => ?_⟩
  have I23 := Ers.snoc (vs := [.ref a0, .ref a1, .ref a2, .ref a3, .ref a4, .ref a5, .ref a6, .ref a7, .ref a8, .ref a9, .ref a10, .ref a11, .ref a12, .ref a13, .ref a14, .ref a15, .ref a16, .ref a17, .ref a18, .ref a19, .ref a20, .ref a21]) I22 s22 (show Ej K H22 x y 22 a22 from e22)
  have S23 := S22.trans s22
  have L22 := s22 _ _ L21
  refine ⟨(by show 5 ≤ sizeLine; decide), fun p4 hp4 => ?_⟩
  have sp4 := same_upd hp4 (.lst [.ref a18, .ref a19, .ref a20, .ref a21, .ref a22])
  have Sp4 := S23.trans sp4
  have Ip4 : Ers K x y _ [.ref a0, .ref a1, .ref a2, .ref a3, .ref a4, .ref a5, .ref a6, .ref a7, .ref a8, .ref a9, .ref a10, .ref a11, .ref a12, .ref a13, .ref a14, .ref a15, .ref a16, .ref a17, .ref a18, .ref a19, .ref a20, .ref a21, .ref a22] := Ers.le I23 sp4
  refine ⟨_, _, _, _, rfl, rfl, sp4 _ _ L22, upd_same, (by show 23 ≤ sizeLine; decide), fun r4 hr4 => ?_⟩
  have sr4 := same_upd hr4 (.lst [.ref a0, .ref a1, .ref a2, .ref a3, .ref a4, .ref a5, .ref a6, .ref a7, .ref a8, .ref a9, .ref a10, .ref a11, .ref a12, .ref a13, .ref a14, .ref a15, .ref a16, .ref a17, .ref a18, .ref a19, .ref a20, .ref a21, .ref a22])
  have Sr4 := Sp4.trans sr4
  have Ir4 : Ers K x y _ [.ref a0, .ref a1, .ref a2, .ref a3, .ref a4, .ref a5, .ref a6, .ref a7, .ref a8, .ref a9, .ref a10, .ref a11, .ref a12, .ref a13, .ref a14, .ref a15, .ref a16, .ref a17, .ref a18, .ref a19, .ref a20, .ref a21, .ref a22] := Ers.le Ip4 sr4
  have Lr4 := (upd_same : upd (upd H22 p4 (.lst [.ref a18, .ref a19, .ref a20, .ref a21, .ref a22])) r4 (.lst [.ref a0, .ref a1, .ref a2, .ref a3, .ref a4, .ref a5, .ref a6, .ref a7, .ref a8, .ref a9, .ref a10, .ref a11, .ref a12, .ref a13, .ref a14, .ref a15, .ref a16, .ref a17, .ref a18, .ref a19, .ref a20, .ref a21, .ref a22]) r4 = some (.lst [.ref a0, .ref a1, .ref a2, .ref a3, .ref a4, .ref a5, .ref a6, .ref a7, .ref a8, .ref a9, .ref a10, .ref a11, .ref a12, .ref a13, .ref a14, .ref a15, .ref a16, .ref a17, .ref a18, .ref a19, .ref a20, .ref a21, .ref a22]))
  refine ⟨_, rfl, ?_⟩
  refine ⟨_, rfl, fun a23 H23 s23 n23 e23 => ?_⟩
  have I24 := Ers.snoc (vs := [.ref a0, .ref a1, .ref a2, .ref a3, .ref a4, .ref a5, .ref a6, .ref a7, .ref a8, .ref a9, .ref a10, .ref a11, .ref a12, .ref a13, .ref a14, .ref a15, .ref a16, .ref a17, .ref a18, .ref a19, .ref a20, .ref a21, .ref a22]) Ir4 s23 (show Ej K H23 x y 23 a23 from e23)
  have S24 := Sr4.trans s23
  have L23 := s23 _ _ Lr4
  refine ⟨_, rfl, fun a24 H24 s24 n24 e24 => ?_⟩
  have I25 := Ers.snoc (vs := [.ref a0, .ref a1, .ref a2, .ref a3, .ref a4, .ref a5, .ref a6, .ref a7, .ref a8, .ref a9, .ref a10, .ref a11, .ref a12, .ref a13, .ref a14, .ref a15, .ref a16, .ref a17, .ref a18, .ref a19, .ref a20, .ref a21, .ref a22, .ref a23]) I24 s24 (show Ej K H24 x y 24 a24 from e24)
  have S25 := S24.trans s24
  have L24 := s24 _ _ L23
  refine ⟨_, rfl, fun a25 H25 s25 n25 e25 => ?_⟩
  have I26 := Ers.snoc (vs := [.ref a0, .ref a1, .ref a2, .ref a3, .ref a4, .ref a5, .ref a6, .ref a7, .ref a8, .ref a9, .ref a10, .ref a11, .ref a12, .ref a13, .ref a14, .ref a15, .ref a16, .ref a17, .ref a18, .ref a19, .ref a20, .ref a21, .ref a22, .ref a23, .ref a24]) I25 s25 (show Ej K H25 x y 25 a25 from e25)
  have S26 := S25.trans s25
  have L25 := s25 _ _ L24
  refine ⟨_, rfl, fun a26 H26 s26 n26 e26 => ?_⟩
  have I27 := Ers.snoc (vs := [.ref a0, .ref a1, .ref a2, .ref a3, .ref a4, .ref a5, .ref a6, .ref a7, .ref a8, .ref a9, .ref a10, .ref a11, .ref a12, .ref a13, .ref a14, .ref a15, .ref a16, .ref a17, .ref a18, .ref a19, .ref a20, .ref a21, .ref a22, .ref a23, .ref a24, .ref a25]) I26 s26 (show Ej K H26 x y 26 a26 from e26)
  have S27 := S26.trans s26
  have L26 := s26 _ _ L25
  refine ⟨(by show 4 ≤ sizeLine; decide), fun p5 hp5 => ?_⟩
  have sp5 := same_upd hp5 (.lst [.ref a23, .ref a24, .ref a25, .ref a26])
  have Sp5 := S27.trans sp5
  have Ip5 : Ers K x y _ [.ref a0, .ref a1, .ref a2, .ref a3, .ref a4, .ref a5, .ref a6, .ref a7, .ref a8, .ref a9, .ref a10, .ref a11, .ref a12, .ref a13, .ref a14, .ref a15, .ref a16, .ref a17, .ref a18, .ref a19, .ref a20, .ref a21, .ref a22, .ref a23, .ref a24, .ref a25, .ref a26] := Ers.le I27 sp5
  refine ⟨_, _, _, _, rfl, rfl, sp5 _ _ L26, upd_same, (by show 27 ≤ sizeLine; decide), fun r5 hr5 => ?_⟩
  have sr5 := same_upd hr5 (.lst [.ref a0, .ref a1, .ref a2, .ref a3, .ref a4, .ref a5, .ref a6, .ref a7, .ref a8, .ref a9, .ref a10, .ref a11, .ref a12, .ref a13, .ref a14, .ref a15, .ref a16, .ref a17, .ref a18, .ref a19, .ref a20, .ref a21, .ref a22, .ref a23, .ref a24, .ref a25, .ref a26])
  have Sr5 := Sp5.trans sr5
  have Ir5 : Ers K x y _ [.ref a0, .ref a1, .ref a2, .ref a3, .ref a4, .ref a5, .ref a6, .ref a7, .ref a8, .ref a9, .ref a10, .ref a11, .ref a12, .ref a13, .ref a14, .ref a15, .ref a16, .ref a17, .ref a18, .ref a19, .ref a20, .ref a21, .ref a22, .ref a23, .ref a24, .ref a25, .ref a26] := Ers.le Ip5 sr5
  have Lr5 := (upd_same : upd (upd H26 p5 (.lst [.ref a23, .ref a24, .ref a25, .ref a26])) r5 (.lst [.ref a0, .ref a1, .ref a2, .ref a3, .ref a4, .ref a5, .ref a6, .ref a7, .ref a8, .ref a9, .ref a10, .ref a11, .ref a12, .ref a13, .ref a14, .ref a15, .ref a16, .ref a17, .ref a18, .ref a19, .ref a20, .ref a21, .ref a22, .ref a23, .ref a24, .ref a25, .ref a26]) r5 = some (.lst [.ref a0, .ref a1, .ref a2, .ref a3, .ref a4, .ref a5, .ref a6, .ref a7, .ref a8, .ref a9, .ref a10, .ref a11, .ref a12, .ref a13, .ref a14, .ref a15, .ref a16, .ref a17, .ref a18, .ref a19, .ref a20, .ref a21, .ref a22, .ref a23, .ref a24, .ref a25, .ref a26]))
  obtain ⟨v, ev⟩ : ∃ v, ([.ref a0, .ref a1, .ref a2, .ref a3, .ref a4, .ref a5, .ref a6, .ref a7, .ref a8, .ref a9, .ref a10, .ref a11, .ref a12, .ref a13, .ref a14, .ref a15, .ref a16, .ref a17, .ref a18, .ref a19, .ref a20, .ref a21, .ref a22, .ref a23, .ref a24, .ref a25, .ref a26] : List V)[i]? = some v := ⟨_, List.getElem?_eq_getElem (by show i < 27; exact hi)⟩
  obtain ⟨a, rfl, ea⟩ := Ir5 i v ev
  exact ⟨_, rfl, _, rfl, _, _, _, _, rfl, rfl, SqL.of Lr5, atI_nat ev, q a _ Sr5 ea⟩
end
end K2
/-! Lists that are displayed, or are sums of two, told with their heap unnamed. -/
namespace Gr
open PySem PySem.Spec PyProof.Rows L2
def tUpA (t : TA) : TA := fun σ H Q => ∃ R : List V → Hp → Prop, t σ H R ∧ ∀ vs G, R vs G → Q vs G
def tLstS (t : TA) : TE := fun σ H Q => t σ H fun xs G => xs.length ≤ sizeLine ∧ ∀ p F, G p = none → Same G F → F p = some (.lst xs) → Q (.ref p) F
def tTupS (t : TA) : TE := fun σ H Q => t σ H fun xs G => xs.length ≤ sizeLine ∧ ∀ p F, G p = none → Same G F → F p = some (.tup xs) → Q (.ref p) F
def rCatS : R2 := fun x y H Q => ∃ (l b : Addr) (xs zs : List V), x = .ref l ∧ y = .ref b ∧ H l = some (.lst xs) ∧ H b = some (.lst zs) ∧ xs.length + zs.length ≤ sizeLine ∧ ∀ p F, H p = none → Same H F → F p = some (.lst (xs ++ zs)) → Q (.ref p) F
section
variable {X : Cx} {es : List Expr} {t : TA} {pos : Pos} {k : Nat}
theorem same_new {H : Hp} {p : Addr} (h : H p = none) (o : HO) : Same H (upd H p o) := fun b u e => by
  rw [upd_ne (ne_of_none e h)]
  exact e
theorem pa_up (h : PA X es t) : PA X es (tUpA t) := by
  constructor
  intro ps pl s σ H Q I z
  obtain ⟨R, z, q⟩ := z
  refine thn (h.run ps pl s σ H R I z) fun us s1 y => ?_
  obtain ⟨vs, G, J, r, y⟩ := y
  exact ⟨vs, G, J, r, q _ _ y⟩
theorem pe_lstS (h : PA X es t) : PE X (.List es pos) (tLstS t) := by
  constructor
  intro pl s σ H Q I z
  refine (pe_lst (pa_up h)).run pl s σ H Q I ⟨_, z, fun xs G q => ⟨q.1, fun p hp => q.2 p _ hp (same_new hp _) upd_same⟩⟩
theorem pe_tupS {kk : Nat} (h : PA X es t) : PE X (.Tuple es kk pos) (tTupS t) := by
  constructor
  intro pl s σ H Q I z
  refine (pe_tup (pa_up h)).run pl s σ H Q I ⟨_, z, fun xs G q => ⟨q.1, fun p hp => q.2 p _ hp (same_new hp _) upd_same⟩⟩
theorem op_catS : OpR X (binaryOp .Add) rCatS := by
  intro pl s σ H x y v u Q I rx ry h
  obtain ⟨l, b, xs, zs, e1, e2, h1, h2, few, q⟩ := h
  exact op_cat pl s σ H x y v u Q I rx ry ⟨l, b, xs, zs, e1, e2, h1, h2, few, fun p hp => q p _ hp (same_new hp _) upd_same⟩
end
end Gr
namespace K2
open PySem PySem.Spec PyProof.Rows L2 Gr
/-! ### of which classes an error is -/
def abP (h : Nat) : Bool := decide (h < 18) || decide (h = 27)
def abM (h : Nat) : Bool := decide (h = 18) || (decide (h = 19) || decide (h = 28))
def abB (h : Nat) : Bool := (decide (20 ≤ h) && decide (h < 27)) || decide (h = 29)
def aboveL (h : Nat) : List Bool := [abP h, abM h, abB h, abP h, abM h, abM h || abB h]
/-- the class x has the number h: 27 to 29 are the families -/
structure Kd (K : PySem.W.Frag) (x : Str) (h : Nat) : Prop where
  ex : ExcC K (He.ga K x)
  k : ∀ j, j < 27 → PySem.W.kitOne K (.ref (He.ga K x)) (.ref (He.ga K (nmOf j))) = some (decide (h = j))
  p0 : PySem.W.kitOne K (.ref (He.ga K x)) (.ref (He.ga K "PlanError")) = some (abP h)
  p1 : PySem.W.kitOne K (.ref (He.ga K x)) (.ref (He.ga K "Missing")) = some (abM h)
  p2 : PySem.W.kitOne K (.ref (He.ga K x)) (.ref (He.ga K "Barred")) = some (abB h)
  p3 : PySem.W.kitOne K (.ref (He.ga K x)) (.type "ValueError") = some (abP h)
  p4 : PySem.W.kitOne K (.ref (He.ga K x)) (.type "KeyError") = some (abM h)
  p5 : PySem.W.kitOne K (.ref (He.ga K x)) (.type "LookupError") = some (abM h || abB h)
def toldL (h : Nat) : List V := (List.range 27).map fun j => V.bl (decide (h = j))
theorem told_at {h i : Nat} (l : i < 27) : (toldL h)[i]? = some (.bl (decide (h = i))) := by
  unfold toldL
  rw [List.getElem?_map, List.getElem?_range l]
  rfl
/-- what is told of an error with the number h -/
def KindsAt (H : Hp) (p : Addr) (h : Nat) : Prop := ∃ l1 l2, H p = some (.lst [.ref l1, .ref l2]) ∧ H l1 = some (.lst (if h < 27 then [V.int (h : Nat)] else [])) ∧ H l2 = some (.lst ((aboveL h).map V.bl))
theorem KindsAt.le {H G : Hp} {p : Addr} {h : Nat} (q : KindsAt H p h) (s : Same H G) : KindsAt G p h := by
  obtain ⟨l1, l2, e0, e1, e2⟩ := q
  exact ⟨l1, l2, s _ _ e0, s _ _ e1, s _ _ e2⟩
/-- the same, of what is new -/
def KindsN (H G : Hp) (p : Addr) (h : Nat) : Prop := ∃ l1 l2, H p = none ∧ H l1 = none ∧ H l2 = none ∧ G p = some (.lst [.ref l1, .ref l2]) ∧ G l1 = some (.lst (if h < 27 then [V.int (h : Nat)] else [])) ∧ G l2 = some (.lst ((aboveL h).map V.bl))
theorem KindsN.at_ {H G : Hp} {p : Addr} {h : Nat} (q : KindsN H G p h) : KindsAt G p h := by
  obtain ⟨l1, l2, _, _, _, e0, e1, e2⟩ := q
  exact ⟨l1, l2, e0, e1, e2⟩
theorem none_of_same {H G : Hp} {p : Addr} (s : Same H G) (h : G p = none) : H p = none := by
  cases e : H p with
  | none => rfl
  | some o => rw [s _ _ e] at h; cases h
def spKinds (K : PySem.W.Frag) : Sp := fun vs H Q _ => ∃ (a : Addr) (x : Str) (h : Nat) (fs : List (Str × V)), vs = [.ref a] ∧ ErAt H a (He.ga K x) fs ∧ Kd K x h ∧ ∀ p G, Same H G → KindsN H G p h → Q (.ref p) G
theorem scKinds : FnScope ["_law_e", "_law_told", "_law_above_here", "_law_spot", "_law_kind"] ["_law_e"] (defScope lKinds) := ⟨rfl, rfl, rfl, by decide +kernel, rfl, by decide +kernel, by decide +kernel⟩
theorem upd_eq {H : Hp} {p : Addr} (_ : H p = none) (o : HO) : upd H p o p = some o := upd_same
section
variable {P : Program} {w : World} {K : PySem.W.Frag} {mg : Str → Option Value} {base : Heap} {f : Addr} {fd : FuncData}
theorem okKinds (F : Fun K "_law_kinds" "_law_kinds" lKinds f fd) (ER : Errs P w K mg base) (eP : Err0 K mg "PlanError") (eM : Err0 K mg "Missing") (eB : Err0 K mg "Barred") (mi : mg "isinstance" = none) (me : mg "enumerate" = none)
    (mv : mg "ValueError" = none) (mk : mg "KeyError" = none) (ml : mg "LookupError" = none) : FnOk P w K mg base CX0 1 f fd ["_law_e"] (spKinds K) := by
  refine F.ok scKinds (fun vs H Q E h => ?_) (fun cdv A outer s H vs Q E hr h => ?_)
  · obtain ⟨a, x, h, fs, rfl, _⟩ := h
    rfl
  obtain ⟨a, x, h, fs, rfl, hE, hK, q⟩ := h
  obtain ⟨fNoNumber, ENoNumber⟩ := ER.eNoNumber
  obtain ⟨fNoName, ENoName⟩ := ER.eNoName
  obtain ⟨fNoThing, ENoThing⟩ := ER.eNoThing
  obtain ⟨fNoDeeds, ENoDeeds⟩ := ER.eNoDeeds
  obtain ⟨fNoTests, ENoTests⟩ := ER.eNoTests
  obtain ⟨fNoPlan, ENoPlan⟩ := ER.eNoPlan
  obtain ⟨fNoSource, ENoSource⟩ := ER.eNoSource
  obtain ⟨fNoShelf, ENoShelf⟩ := ER.eNoShelf
  obtain ⟨fNoTruth, ENoTruth⟩ := ER.eNoTruth
  obtain ⟨fNoList, ENoList⟩ := ER.eNoList
  obtain ⟨fNoRow, ENoRow⟩ := ER.eNoRow
  obtain ⟨fNoSpot, ENoSpot⟩ := ER.eNoSpot
  obtain ⟨fNoWord, ENoWord⟩ := ER.eNoWord
  obtain ⟨fNoLine, ENoLine⟩ := ER.eNoLine
  obtain ⟨fNoPaper, ENoPaper⟩ := ER.eNoPaper
  obtain ⟨fNoOrder, ENoOrder⟩ := ER.eNoOrder
  obtain ⟨fDoubled, EDoubled⟩ := ER.eDoubled
  obtain ⟨fNoText, ENoText⟩ := ER.eNoText
  obtain ⟨fNotThere, ENotThere⟩ := ER.eNotThere
  obtain ⟨fNotOpen, ENotOpen⟩ := ER.eNotOpen
  have EOver := ER.eOver
  obtain ⟨fFault, EFault⟩ := ER.eFault
  obtain ⟨fThrown, EThrown⟩ := ER.eThrown
  obtain ⟨fTooMuch, ETooMuch⟩ := ER.eTooMuch
  obtain ⟨fWaits, EWaits⟩ := ER.eWaits
  obtain ⟨fNotShut, ENotShut⟩ := ER.eNotShut
  obtain ⟨fBegun, EBegun⟩ := ER.eBegun
  refine ⟨_, pss_cons (ps_set (i := 1) scKinds.nd rfl (Or.inl rfl) (pe_lstS (pa_cons (pe_callB call_isH rfl mi boot_isi (pa_cons (pv 0) (pa_cons (pe_glob (v := .ref (He.ga K "NoNumber")) rfl ENoNumber.gC rfl) pa_nil)))
      (pa_cons (pe_callB call_isH rfl mi boot_isi (pa_cons (pv 0) (pa_cons (pe_glob (v := .ref (He.ga K "NoName")) rfl ENoName.gC rfl) pa_nil)))
      (pa_cons (pe_callB call_isH rfl mi boot_isi (pa_cons (pv 0) (pa_cons (pe_glob (v := .ref (He.ga K "NoThing")) rfl ENoThing.gC rfl) pa_nil)))
      (pa_cons (pe_callB call_isH rfl mi boot_isi (pa_cons (pv 0) (pa_cons (pe_glob (v := .ref (He.ga K "NoDeeds")) rfl ENoDeeds.gC rfl) pa_nil)))
      (pa_nil)))))))
    (pss_cons (ps_set (i := 1) scKinds.nd rfl (Or.inl rfl) (pe_op op_catS (pv 1) (pe_lstS (pa_cons (pe_callB call_isH rfl mi boot_isi (pa_cons (pv 0) (pa_cons (pe_glob (v := .ref (He.ga K "NoTests")) rfl ENoTests.gC rfl) pa_nil)))
      (pa_cons (pe_callB call_isH rfl mi boot_isi (pa_cons (pv 0) (pa_cons (pe_glob (v := .ref (He.ga K "NoPlan")) rfl ENoPlan.gC rfl) pa_nil)))
      (pa_cons (pe_callB call_isH rfl mi boot_isi (pa_cons (pv 0) (pa_cons (pe_glob (v := .ref (He.ga K "NoSource")) rfl ENoSource.gC rfl) pa_nil)))
      (pa_cons (pe_callB call_isH rfl mi boot_isi (pa_cons (pv 0) (pa_cons (pe_glob (v := .ref (He.ga K "NoShelf")) rfl ENoShelf.gC rfl) pa_nil)))
      (pa_nil))))))))
    (pss_cons (ps_set (i := 1) scKinds.nd rfl (Or.inl rfl) (pe_op op_catS (pv 1) (pe_lstS (pa_cons (pe_callB call_isH rfl mi boot_isi (pa_cons (pv 0) (pa_cons (pe_glob (v := .ref (He.ga K "NoTruth")) rfl ENoTruth.gC rfl) pa_nil)))
      (pa_cons (pe_callB call_isH rfl mi boot_isi (pa_cons (pv 0) (pa_cons (pe_glob (v := .ref (He.ga K "NoList")) rfl ENoList.gC rfl) pa_nil)))
      (pa_cons (pe_callB call_isH rfl mi boot_isi (pa_cons (pv 0) (pa_cons (pe_glob (v := .ref (He.ga K "NoRow")) rfl ENoRow.gC rfl) pa_nil)))
      (pa_cons (pe_callB call_isH rfl mi boot_isi (pa_cons (pv 0) (pa_cons (pe_glob (v := .ref (He.ga K "NoSpot")) rfl ENoSpot.gC rfl) pa_nil)))
      (pa_nil))))))))
    (pss_cons (ps_set (i := 1) scKinds.nd rfl (Or.inl rfl) (pe_op op_catS (pv 1) (pe_lstS (pa_cons (pe_callB call_isH rfl mi boot_isi (pa_cons (pv 0) (pa_cons (pe_glob (v := .ref (He.ga K "NoWord")) rfl ENoWord.gC rfl) pa_nil)))
      (pa_cons (pe_callB call_isH rfl mi boot_isi (pa_cons (pv 0) (pa_cons (pe_glob (v := .ref (He.ga K "NoLine")) rfl ENoLine.gC rfl) pa_nil)))
      (pa_cons (pe_callB call_isH rfl mi boot_isi (pa_cons (pv 0) (pa_cons (pe_glob (v := .ref (He.ga K "NoPaper")) rfl ENoPaper.gC rfl) pa_nil)))
      (pa_cons (pe_callB call_isH rfl mi boot_isi (pa_cons (pv 0) (pa_cons (pe_glob (v := .ref (He.ga K "NoOrder")) rfl ENoOrder.gC rfl) pa_nil)))
      (pa_nil))))))))
    (pss_cons (ps_set (i := 1) scKinds.nd rfl (Or.inl rfl) (pe_op op_catS (pv 1) (pe_lstS (pa_cons (pe_callB call_isH rfl mi boot_isi (pa_cons (pv 0) (pa_cons (pe_glob (v := .ref (He.ga K "Doubled")) rfl EDoubled.gC rfl) pa_nil)))
      (pa_cons (pe_callB call_isH rfl mi boot_isi (pa_cons (pv 0) (pa_cons (pe_glob (v := .ref (He.ga K "NoText")) rfl ENoText.gC rfl) pa_nil)))
      (pa_cons (pe_callB call_isH rfl mi boot_isi (pa_cons (pv 0) (pa_cons (pe_glob (v := .ref (He.ga K "NotThere")) rfl ENotThere.gC rfl) pa_nil)))
      (pa_cons (pe_callB call_isH rfl mi boot_isi (pa_cons (pv 0) (pa_cons (pe_glob (v := .ref (He.ga K "NotOpen")) rfl ENotOpen.gC rfl) pa_nil)))
      (pa_nil))))))))
    (pss_cons (ps_set (i := 1) scKinds.nd rfl (Or.inl rfl) (pe_op op_catS (pv 1) (pe_lstS (pa_cons (pe_callB call_isH rfl mi boot_isi (pa_cons (pv 0) (pa_cons (pe_glob (v := .ref (He.ga K "Over")) rfl EOver.gC rfl) pa_nil)))
      (pa_cons (pe_callB call_isH rfl mi boot_isi (pa_cons (pv 0) (pa_cons (pe_glob (v := .ref (He.ga K "Fault")) rfl EFault.gC rfl) pa_nil)))
      (pa_cons (pe_callB call_isH rfl mi boot_isi (pa_cons (pv 0) (pa_cons (pe_glob (v := .ref (He.ga K "Thrown")) rfl EThrown.gC rfl) pa_nil)))
      (pa_cons (pe_callB call_isH rfl mi boot_isi (pa_cons (pv 0) (pa_cons (pe_glob (v := .ref (He.ga K "TooMuch")) rfl ETooMuch.gC rfl) pa_nil)))
      (pa_nil))))))))
    (pss_cons (ps_set (i := 1) scKinds.nd rfl (Or.inl rfl) (pe_op op_catS (pv 1) (pe_lstS (pa_cons (pe_callB call_isH rfl mi boot_isi (pa_cons (pv 0) (pa_cons (pe_glob (v := .ref (He.ga K "Waits")) rfl EWaits.gC rfl) pa_nil)))
      (pa_cons (pe_callB call_isH rfl mi boot_isi (pa_cons (pv 0) (pa_cons (pe_glob (v := .ref (He.ga K "NotShut")) rfl ENotShut.gC rfl) pa_nil)))
      (pa_cons (pe_callB call_isH rfl mi boot_isi (pa_cons (pv 0) (pa_cons (pe_glob (v := .ref (He.ga K "Begun")) rfl EBegun.gC rfl) pa_nil)))
      (pa_nil)))))))
    (pss_cons (ps_set (i := 2) scKinds.nd rfl (Or.inl rfl) (pe_lstS (pa_cons (pe_callB call_isH rfl mi boot_isi (pa_cons (pv 0) (pa_cons (pe_glob (v := .ref (He.ga K "PlanError")) rfl eP.gC rfl) pa_nil)))
      (pa_cons (pe_callB call_isH rfl mi boot_isi (pa_cons (pv 0) (pa_cons (pe_glob (v := .ref (He.ga K "Missing")) rfl eM.gC rfl) pa_nil)))
      (pa_cons (pe_callB call_isH rfl mi boot_isi (pa_cons (pv 0) (pa_cons (pe_glob (v := .ref (He.ga K "Barred")) rfl eB.gC rfl) pa_nil)))
      (pa_nil))))))
    (pss_cons (ps_set (i := 2) scKinds.nd rfl (Or.inl rfl) (pe_op op_catS (pv 2) (pe_lstS (pa_cons (pe_callB call_isH rfl mi boot_isi (pa_cons (pv 0) (pa_cons (pe_bltn (v := .ty "ValueError") rfl mv (by decide +kernel) rfl) pa_nil)))
      (pa_cons (pe_callB call_isH rfl mi boot_isi (pa_cons (pv 0) (pa_cons (pe_bltn (v := .ty "KeyError") rfl mk (by decide +kernel) rfl) pa_nil)))
      (pa_cons (pe_callB call_isH rfl mi boot_isi (pa_cons (pv 0) (pa_cons (pe_bltn (v := .ty "LookupError") rfl ml (by decide +kernel) rfl) pa_nil)))
      (pa_nil)))))))
    (pss_one (ps_ret (pe_lstS (pa_cons (pe_lc (own := [("_law_spot", 3), ("_law_kind", 4)]) (g := gTup K 2 (gCons (gName 3) (gCons (gName 4) gNil))) (tt := tB (tVar 4)) rfl scKinds.nd (pi_enum rfl me (pa_cons (pv 1) pa_nil))
        (blkOk_by (N := ["_law_e", "_law_told", "_law_above_here", "_law_spot", "_law_kind"]) (sc := defScope lKinds) (by decide +kernel)) (fun _ _ _ _ _ => pg_tup rfl (pgs_cons (pg_name (i := 3) scKinds.nd rfl (Or.inl rfl)) (pgs_cons (pg_name (i := 4) scKinds.nd rfl (Or.inl rfl)) pgs_nil)))
        (fun _ _ _ _ _ => pts_one (pt_val (pv 4))) (fun _ _ _ _ _ => pv 3)) (pa_cons (pv 2) pa_nil))))))))))))), ?_⟩
  refine ⟨_, rfl, _, _, _, _, _, _, rfl, .own _, hE, hK.ex, hK.k 0 (by decide), ?_⟩
  refine ⟨_, rfl, _, _, _, _, _, _, rfl, .own _, hE, hK.ex, hK.k 1 (by decide), ?_⟩
  refine ⟨_, rfl, _, _, _, _, _, _, rfl, .own _, hE, hK.ex, hK.k 2 (by decide), ?_⟩
  refine ⟨_, rfl, _, _, _, _, _, _, rfl, .own _, hE, hK.ex, hK.k 3 (by decide), ?_⟩
  refine ⟨(by show 4 ≤ sizeLine; decide), fun p0 F0 hp0 sp0 ep0 => ?_⟩
  have S0 := sp0
  have hE0 := hE.le S0
  have Lq0 : F0 p0 = some (.lst [.bl (decide (h = 0)), .bl (decide (h = 1)), .bl (decide (h = 2)), .bl (decide (h = 3))]) := ep0
  refine ⟨_, rfl, ?_⟩
  refine ⟨_, rfl, _, _, _, _, _, _, rfl, .own _, hE0, hK.ex, hK.k 4 (by decide), ?_⟩
  refine ⟨_, rfl, _, _, _, _, _, _, rfl, .own _, hE0, hK.ex, hK.k 5 (by decide), ?_⟩
  refine ⟨_, rfl, _, _, _, _, _, _, rfl, .own _, hE0, hK.ex, hK.k 6 (by decide), ?_⟩
  refine ⟨_, rfl, _, _, _, _, _, _, rfl, .own _, hE0, hK.ex, hK.k 7 (by decide), ?_⟩
  refine ⟨(by show 4 ≤ sizeLine; decide), fun p1 F1 hp1 sp1 ep1 => ?_⟩
  refine ⟨_, _, _, _, rfl, rfl, sp1 _ _ Lq0, ep1, (by show 8 ≤ sizeLine; decide), fun r1 G1 hr1 sr1 er1 => ?_⟩
  have S1 := S0.trans (sp1.trans sr1)
  have hE1 := hE0.le (sp1.trans sr1)
  have Lq1 : G1 r1 = some (.lst [.bl (decide (h = 0)), .bl (decide (h = 1)), .bl (decide (h = 2)), .bl (decide (h = 3)), .bl (decide (h = 4)), .bl (decide (h = 5)), .bl (decide (h = 6)), .bl (decide (h = 7))]) := er1
  refine ⟨_, rfl, ?_⟩
  refine ⟨_, rfl, _, _, _, _, _, _, rfl, .own _, hE1, hK.ex, hK.k 8 (by decide), ?_⟩
  refine ⟨_, rfl, _, _, _, _, _, _, rfl, .own _, hE1, hK.ex, hK.k 9 (by decide), ?_⟩
  refine ⟨_, rfl, _, _, _, _, _, _, rfl, .own _, hE1, hK.ex, hK.k 10 (by decide), ?_⟩
  refine ⟨_, rfl, _, _, _, _, _, _, rfl, .own _, hE1, hK.ex, hK.k 11 (by decide), ?_⟩
  refine ⟨(by show 4 ≤ sizeLine; decide), fun p2 F2 hp2 sp2 ep2 => ?_⟩
  refine ⟨_, _, _, _, rfl, rfl, sp2 _ _ Lq1, ep2, (by show 12 ≤ sizeLine; decide), fun r2 G2 hr2 sr2 er2 => ?_⟩
  have S2 := S1.trans (sp2.trans sr2)
  have hE2 := hE1.le (sp2.trans sr2)
  have Lq2 : G2 r2 = some (.lst [.bl (decide (h = 0)), .bl (decide (h = 1)), .bl (decide (h = 2)), .bl (decide (h = 3)), .bl (decide (h = 4)), .bl (decide (h = 5)), .bl (decide (h = 6)), .bl (decide (h = 7)), .bl (decide (h = 8)), .bl (decide (h = 9)), .bl (decide (h = 10)), .bl (decide (h = 11))]) := er2
  refine ⟨_, rfl, ?_⟩
  refine ⟨_, rfl, _, _, _, _, _, _, rfl, .own _, hE2, hK.ex, hK.k 12 (by decide), ?_⟩
  refine ⟨_, rfl, _, _, _, _, _, _, rfl, .own _, hE2, hK.ex, hK.k 13 (by decide), ?_⟩
  refine ⟨_, rfl, _, _, _, _, _, _, rfl, .own _, hE2, hK.ex, hK.k 14 (by decide), ?_⟩
  refine ⟨_, rfl, _, _, _, _, _, _, rfl, .own _, hE2, hK.ex, hK.k 15 (by decide), ?_⟩
  refine ⟨(by show 4 ≤ sizeLine; decide), fun p3 F3 hp3 sp3 ep3 => ?_⟩
  refine ⟨_, _, _, _, rfl, rfl, sp3 _ _ Lq2, ep3, (by show 16 ≤ sizeLine; decide), fun r3 G3 hr3 sr3 er3 => ?_⟩
  have S3 := S2.trans (sp3.trans sr3)
  have hE3 := hE2.le (sp3.trans sr3)
  have Lq3 : G3 r3 = some (.lst [.bl (decide (h = 0)), .bl (decide (h = 1)), .bl (decide (h = 2)), .bl (decide (h = 3)), .bl (decide (h = 4)), .bl (decide (h = 5)), .bl (decide (h = 6)), .bl (decide (h = 7)), .bl (decide (h = 8)), .bl (decide (h = 9)), .bl (decide (h = 10)), .bl (decide (h = 11)), .bl (decide (h = 12)), .bl (decide (h = 13)), .bl (decide (h = 14)), .bl (decide (h = 15))]) := er3
  refine ⟨_, rfl, ?_⟩
  refine ⟨_, rfl, _, _, _, _, _, _, rfl, .own _, hE3, hK.ex, hK.k 16 (by decide), ?_⟩
  refine ⟨_, rfl, _, _, _, _, _, _, rfl, .own _, hE3, hK.ex, hK.k 17 (by decide), ?_⟩
  refine ⟨_, rfl, _, _, _, _, _, _, rfl, .own _, hE3, hK.ex, hK.k 18 (by decide), ?_⟩
  refine ⟨_, rfl, _, _, _, _, _, _, rfl, .own _, hE3, hK.ex, hK.k 19 (by decide), ?_⟩
  refine ⟨(by show 4 ≤ sizeLine; decide), fun p4 F4 hp4 sp4 ep4 => ?_⟩
  refine ⟨_, _, _, _, rfl, rfl, sp4 _ _ Lq3, ep4, (by show 20 ≤ sizeLine; decide), fun r4 G4 hr4 sr4 er4 => ?_⟩
  have S4 := S3.trans (sp4.trans sr4)
  have hE4 := hE3.le (sp4.trans sr4)
  have Lq4 : G4 r4 = some (.lst [.bl (decide (h = 0)), .bl (decide (h = 1)), .bl (decide (h = 2)), .bl (decide (h = 3)), .bl (decide (h = 4)), .bl (decide (h = 5)), .bl (decide (h = 6)), .bl (decide (h = 7)), .bl (decide (h = 8)), .bl (decide (h = 9)), .bl (decide (h = 10)), .bl (decide (h = 11)), .bl (decide (h = 12)), .bl (decide (h = 13)), .bl (decide (h = 14)), .bl (decide (h = 15)), .bl (decide (h = 16)), .bl (decide (h = 17)), .bl (decide (h = 18)), .bl (decide (h = 19))]) := er4
  refine ⟨_, rfl, ?_⟩
  refine ⟨_, rfl, _, _, _, _, _, _, rfl, .own _, hE4, hK.ex, hK.k 20 (by decide), ?_⟩
  refine ⟨_, rfl, _, _, _, _, _, _, rfl, .own _, hE4, hK.ex, hK.k 21 (by decide), ?_⟩
  refine ⟨_, rfl, _, _, _, _, _, _, rfl, .own _, hE4, hK.ex, hK.k 22 (by decide), ?_⟩
  refine ⟨_, rfl, _, _, _, _, _, _, rfl, .own _, hE4, hK.ex, hK.k 23 (by decide), ?_⟩
  refine ⟨(by show 4 ≤ sizeLine; decide), fun p5 F5 hp5 sp5 ep5 => ?_⟩
  refine ⟨_, _, _, _, rfl, rfl, sp5 _ _ Lq4, ep5, (by show 24 ≤ sizeLine; decide), fun r5 G5 hr5 sr5 er5 => ?_⟩
  have S5 := S4.trans (sp5.trans sr5)
  have hE5 := hE4.le (sp5.trans sr5)
  have Lq5 : G5 r5 = some (.lst [.bl (decide (h = 0)), .bl (decide (h = 1)), .bl (decide (h = 2)), .bl (decide (h = 3)), .bl (decide (h = 4)), .bl (decide (h = 5)), .bl (decide (h = 6)), .bl (decide (h = 7)), .bl (decide (h = 8)), .bl (decide (h = 9)), .bl (decide (h = 10)), .bl (decide (h = 11)), .bl (decide (h = 12)), .bl (decide (h = 13)), .bl (decide (h = 14)), .bl (decide (h = 15)), .bl (decide (h = 16)), .bl (decide (h = 17)), .bl (decide (h = 18)), .bl (decide (h = 19)), .bl (decide (h = 20)), .bl (decide (h = 21)), .bl (decide (h = 22)), .bl (decide (h = 23))]) := er5
  refine ⟨_, rfl, ?_⟩
  refine ⟨_, rfl, _, _, _, _, _, _, rfl, .own _, hE5, hK.ex, hK.k 24 (by decide), ?_⟩
  refine ⟨_, rfl, _, _, _, _, _, _, rfl, .own _, hE5, hK.ex, hK.k 25 (by decide), ?_⟩
  refine ⟨_, rfl, _, _, _, _, _, _, rfl, .own _, hE5, hK.ex, hK.k 26 (by decide), ?_⟩
  refine ⟨(by show 3 ≤ sizeLine; decide), fun p6 F6 hp6 sp6 ep6 => ?_⟩
  refine ⟨_, _, _, _, rfl, rfl, sp6 _ _ Lq5, ep6, (by show 27 ≤ sizeLine; decide), fun r6 G6 hr6 sr6 er6 => ?_⟩
  have S6 := S5.trans (sp6.trans sr6)
  have hE6 := hE5.le (sp6.trans sr6)
  have Lq6 : G6 r6 = some (.lst [.bl (decide (h = 0)), .bl (decide (h = 1)), .bl (decide (h = 2)), .bl (decide (h = 3)), .bl (decide (h = 4)), .bl (decide (h = 5)), .bl (decide (h = 6)), .bl (decide (h = 7)), .bl (decide (h = 8)), .bl (decide (h = 9)), .bl (decide (h = 10)), .bl (decide (h = 11)), .bl (decide (h = 12)), .bl (decide (h = 13)), .bl (decide (h = 14)), .bl (decide (h = 15)), .bl (decide (h = 16)), .bl (decide (h = 17)), .bl (decide (h = 18)), .bl (decide (h = 19)), .bl (decide (h = 20)), .bl (decide (h = 21)), .bl (decide (h = 22)), .bl (decide (h = 23)), .bl (decide (h = 24)), .bl (decide (h = 25)), .bl (decide (h = 26))]) := er6
  refine ⟨_, rfl, _, _, _, _, _, _, rfl, .own _, hE6, hK.ex, hK.p0, ?_⟩
  refine ⟨_, rfl, _, _, _, _, _, _, rfl, .own _, hE6, hK.ex, hK.p1, ?_⟩
  refine ⟨_, rfl, _, _, _, _, _, _, rfl, .own _, hE6, hK.ex, hK.p2, ?_⟩
  refine ⟨(by show 3 ≤ sizeLine; decide), fun u1 U1 hu1 su1 eu1 => ?_⟩
  have hE7 := hE6.le su1
  refine ⟨_, rfl, ?_⟩
  refine ⟨_, rfl, _, _, _, _, _, _, rfl, .ty _, hE7, hK.ex, hK.p3, ?_⟩
  refine ⟨_, rfl, _, _, _, _, _, _, rfl, .ty _, hE7, hK.ex, hK.p4, ?_⟩
  refine ⟨_, rfl, _, _, _, _, _, _, rfl, .ty _, hE7, hK.ex, hK.p5, ?_⟩
  refine ⟨(by show 3 ≤ sizeLine; decide), fun u2 U2 hu2 su2 eu2 => ?_⟩
  refine ⟨_, _, _, _, rfl, rfl, su2 _ _ eu1, eu2, (by show 6 ≤ sizeLine; decide), fun u3 U3 hu3 su3 eu3 => ?_⟩
  have sB := su1.trans (su2.trans su3)
  have S7 := S6.trans sB
  have L7 : U3 r6 = some (.lst (toldL h)) := sB _ _ Lq6
  have A7 : U3 u3 = some (.lst ((aboveL h).map V.bl)) := eu3
  refine ⟨_, rfl, _, _, rfl, SqL.of L7, fun D hD => ?_⟩
  have sD := same_upd hD (.lst [])
  have n6 : r6 ≠ D := fun z => by rw [z, hD] at L7; cases L7
  have n3 : u3 ≠ D := fun z => by rw [z, hD] at A7; cases A7
  have nO : ∀ b o, H b = some o → b ≠ D := fun b o e z => by
    have y := S7 b o e
    rw [z, hD] at y
    cases y
  refine lc_it (σ := ([some (.ref a), some (.ref r6), some (.ref u3), none, none] : L2.St)) (walk_enum (K := K) (xs := toldL h)) (fun i G => Same H G ∧ G r6 = some (.lst (toldL h)) ∧ G u3 = some (.lst ((aboveL h).map V.bl)) ∧ G D = some (.lst (if h < i then [V.int (h : Nat)] else []))) ⟨S7.trans sD, sD _ _ L7, sD _ _ A7, upd_same⟩ (fun i G _ p => SqL.of p.2.1) (fun i x G G2 hi p y => ?_) (fun G p => ?_)
  · obtain ⟨T, x1, x2, rfl, hT, rfl, ex, ey⟩ := y
    obtain ⟨p1, p2, p3, p4⟩ := p
    have hi27 : i < 27 := hi
    dsimp only at ex ey
    cases ex
    rw [told_at hi27] at ey
    cases ey
    have sT := same_upd hT (.tup [.int (i : Nat), .bl (decide (h = i))])
    have eT : upd G T (.tup [.int (i : Nat), .bl (decide (h = i))]) T = some (.tup [.int (i : Nat), .bl (decide (h = i))]) := upd_same
    generalize upd G T (.tup [.int (i : Nat), .bl (decide (h = i))]) = G3 at sT eT ⊢
    refine ⟨T, _, rfl, SqT.of eT, rfl, _, _, rfl, _, _, rfl, rfl, rfl, _, rfl, _, rfl, ?_⟩
    by_cases e : h = i
    · rw [decide_eq_true e]
      refine iteT ⟨_, rfl, _, sT _ _ p4, ?_, ?_⟩
      · rw [if_neg (by omega)]
        show 0 < sizeLine
        decide
      · refine ⟨fun b o z => ?_, ?_, ?_, ?_⟩
        · rw [upd_ne (nO b o z)]
          exact (p1.trans sT) b o z
        · rw [upd_ne n6]
          exact sT _ _ p2
        · rw [upd_ne n3]
          exact sT _ _ p3
        · rw [upd_same, if_neg (by omega), if_pos (by omega), e]
          rfl
    · rw [decide_eq_false e]
      refine iteF ⟨p1.trans sT, sT _ _ p2, sT _ _ p3, ?_⟩
      rw [sT _ _ p4]
      by_cases l : h < i
      · rw [if_pos l, if_pos (by omega)]
      · rw [if_neg l, if_neg (by omega)]
  · obtain ⟨p1, p2, p3, p4⟩ := p
    refine ⟨_, rfl, (by show 2 ≤ sizeLine; decide), fun p F hp sp ep => ?_⟩
    exact q _ _ (p1.trans sp) ⟨D, u3, none_of_same p1 hp, none_of_same S7 hD, none_of_same (S6.trans (su1.trans su2)) hu3, ep, sp _ _ p4, sp _ _ p3⟩
end
end K2
namespace K2
open PySem PySem.Spec PyProof.Rows L2 Gr
/-! ### which family is due, which fields are due -/
def spAbove : Sp := fun vs H Q _ => ∃ i : Nat, vs = [.int i] ∧ i < 27 ∧ ∀ p G, Same H G → G p = some (.lst ((aboveL i).map V.bl)) → Q (.ref p) G
def dueL (i : Nat) (x y : V) : List V := if i = 20 then [] else if i = 21 then [x, y] else [x]
def spDue : Sp := fun vs H Q _ => ∃ (i : Nat) (x y : V), vs = [.int i, x, y] ∧ i < 27 ∧ ∀ p G, Same H G → G p = some (.lst (dueL i x y)) → Q (.ref p) G
theorem scAbove : FnScope ["_law_spot"] ["_law_spot"] (defScope lAbove) := ⟨rfl, rfl, rfl, by decide +kernel, rfl, by decide +kernel, by decide +kernel⟩
theorem scDue : FnScope ["_law_spot", "_law_one", "_law_other"] ["_law_spot", "_law_one", "_law_other"] (defScope lDue) := ⟨rfl, rfl, rfl, by decide +kernel, rfl, by decide +kernel, by decide +kernel⟩
section
variable {P : Program} {w : World} {K : PySem.W.Frag} {mg : Str → Option Value} {base : Heap} {f : Addr} {fd : FuncData}
theorem okAbove (F : Fun K "_law_above" "_law_above" lAbove f fd) : FnOk P w K mg base CX0 1 f fd ["_law_spot"] spAbove := by
  refine F.ok scAbove (fun vs H Q E h => ?_) (fun cdv A outer s H vs Q E hr h => ?_)
  · obtain ⟨i, rfl, _⟩ := h
    rfl
  obtain ⟨i, rfl, hi, q⟩ := h
  refine ⟨_, pss_cons (ps_if (pt_cmpR op_lt (pv 0) pe_int (nomark _)) (pss_one (ps_ret (pe_lstS (pa_cons pe_bl (pa_cons pe_bl (pa_cons pe_bl (pa_cons pe_bl (pa_cons pe_bl (pa_cons pe_bl pa_nil))))))))) pss_nil)
    (pss_one (ps_ret (pe_lstS (pa_cons pe_bl (pa_cons (pe_cmpR op_lt (pv 0) pe_int (nomark _)) (pa_cons (pe_cmpR op_gt (pv 0) pe_int (nomark _)) (pa_cons pe_bl (pa_cons (pe_cmpR op_lt (pv 0) pe_int (nomark _)) (pa_cons pe_bl pa_nil))))))))), ?_⟩
  refine ⟨_, rfl, _, _, rfl, rfl, _, rfl, ?_⟩
  refine ite2 (fun c => ?_) (fun c => ?_)
  · have l : i < 18 := by have := of_decide_eq_true c; omega
    refine ⟨(by show 6 ≤ sizeLine; decide), fun p G _ s e => q p G s ?_⟩
    rw [e]
    have a1 : abP i = true := by unfold abP; rw [decide_eq_true l]; rfl
    have a2 : abM i = false := by unfold abM; rw [decide_eq_false (by omega), decide_eq_false (by omega), decide_eq_false (by omega)]; rfl
    have a3 : abB i = false := by unfold abB; rw [decide_eq_false (by omega), decide_eq_false (by omega : ¬ i = 29)]; rfl
    unfold aboveL
    rw [a1, a2, a3]
    rfl
  · have l : ¬ i < 18 := by
      intro z
      exact c (decide_eq_true (by omega))
    refine ⟨_, rfl, _, _, rfl, rfl, _, rfl, _, _, rfl, rfl, _, rfl, _, _, rfl, rfl, ?_⟩
    refine ⟨(by show 6 ≤ sizeLine; decide), fun p G _ s e => q p G s ?_⟩
    rw [e]
    have a1 : abP i = false := by unfold abP; rw [decide_eq_false l, decide_eq_false (by omega)]; rfl
    have a2 : abM i = decide ((i : Int) < 20) := by
      unfold abM
      by_cases z : i < 20
      · rw [decide_eq_true (by omega : (i : Int) < 20)]
        by_cases y : i = 18
        · rw [decide_eq_true y]; rfl
        · rw [decide_eq_true (by omega : i = 19), Bool.true_or, Bool.or_true]
      · rw [decide_eq_false (by omega : ¬ (i : Int) < 20), decide_eq_false (by omega), decide_eq_false (by omega), decide_eq_false (by omega)]
        rfl
    have a3 : abB i = decide ((i : Int) > 19) := by
      unfold abB
      by_cases z : 20 ≤ i
      · rw [decide_eq_true (by omega : (i : Int) > 19), decide_eq_true z, decide_eq_true hi]
        rfl
      · rw [decide_eq_false (by omega : ¬ (i : Int) > 19), decide_eq_false z, decide_eq_false (by omega : ¬ i = 29)]
        rfl
    have a4 : (abM i || abB i) = true := by
      rw [a2, a3]
      by_cases z : (i : Int) < 20
      · rw [decide_eq_true z]; rfl
      · rw [decide_eq_true (by omega : (i : Int) > 19), Bool.or_true]
    unfold aboveL
    rw [a4, a1, a2, a3]
    rfl
theorem okDue (F : Fun K "_law_due" "_law_due" lDue f fd) (mI : mg "int" = none) : FnOk P w K mg base CX0 1 f fd ["_law_spot", "_law_one", "_law_other"] spDue := by
  refine F.ok scDue (fun vs H Q E h => ?_) (fun cdv A outer s H vs Q E hr h => ?_)
  · obtain ⟨i, x, y, rfl, _⟩ := h
    rfl
  obtain ⟨i, x, y, rfl, hi, q⟩ := h
  refine ⟨_, pss_one (ps_ret (pe_ix ix_list (pe_lstS (pa_cons (pe_lstS (pa_cons (pv 1) pa_nil)) (pa_cons (pe_lstS pa_nil) (pa_cons (pe_lstS (pa_cons (pv 1) (pa_cons (pv 2) pa_nil))) pa_nil))))
    (pe_op op_add (pe_callTy call_int1 rfl mI (by decide +kernel) (pa_cons (pe_cmpR op_eq (pv 0) pe_int (nomark _)) pa_nil)) (pe_op op_mul pe_int (pe_callTy call_int1 rfl mI (by decide +kernel) (pa_cons (pe_cmpR op_eq (pv 0) pe_int (nomark _)) pa_nil)))) (fun _ _ => rfl))), ?_⟩
  refine ⟨_, rfl, (by show 1 ≤ sizeLine; decide), fun a1 G1 _ s1 e1 => ⟨(by show 0 ≤ sizeLine; decide), fun a2 G2 _ s2 e2 => ⟨_, rfl, _, rfl, (by show 2 ≤ sizeLine; decide), fun a3 G3 _ s3 e3 => ⟨(by show 3 ≤ sizeLine; decide), fun L G _ s e => ?_⟩⟩⟩⟩
  have all := s1.trans (s2.trans (s3.trans s))
  have z1 := (s2.trans (s3.trans s)) _ _ e1
  have z2 := (s3.trans s) _ _ e2
  have z3 := s _ _ e3
  refine ⟨_, rfl, rfl, .inr ⟨_, rfl, ?_⟩⟩
  refine ⟨_, rfl, rfl, .inr ⟨_, rfl, ?_⟩⟩
  have b20 : decide (V.int (i : Int) = V.int 20) = decide (i = 20) := by
    refine decide_eq_decide.mpr ⟨fun z => ?_, fun z => by rw [z]; rfl⟩
    injection z with z
    omega
  have b21 : decide (V.int (i : Int) = V.int 21) = decide (i = 21) := by
    refine decide_eq_decide.mpr ⟨fun z => ?_, fun z => by rw [z]; rfl⟩
    injection z with z
    omega
  rw [b20, b21]
  by_cases c20 : i = 20
  · subst c20
    exact ⟨_, _, rfl, rfl, .inl ⟨by decide, by decide⟩, _, _, rfl, rfl, _, _, _, _, rfl, rfl, SqL.of e, rfl, q a2 G all z2⟩
  by_cases c21 : i = 21
  · subst c21
    exact ⟨_, _, rfl, rfl, .inl ⟨by decide, by decide⟩, _, _, rfl, rfl, _, _, _, _, rfl, rfl, SqL.of e, rfl, q a3 G all z3⟩
  · have d1 : dueL i x y = [x] := by
      unfold dueL
      rw [if_neg c20, if_neg c21]
    rw [decide_eq_false c20, decide_eq_false c21]
    exact ⟨_, _, rfl, rfl, .inl ⟨by decide, by decide⟩, _, _, rfl, rfl, _, _, _, _, rfl, rfl, SqL.of e, rfl, q a1 G all (by rw [d1]; exact z1)⟩
end
end K2
namespace K2
open PySem PySem.Spec PyProof.Rows L2 Gr
/-! ### the fields of an error -/
def fldN : List Str := ["found", "at", "name", "word", "many"]
/-- what is told of the class of the number i -/
structure Kf (K : PySem.W.Frag) (i : Nat) : Prop where
  kd : Kd K (nmOf i) i
  no : ∀ f ∈ fldN, PySem.W.findIn K (.ref (He.ga K (nmOf i))) f = some none
def spFields (K : PySem.W.Frag) : Sp := fun vs H Q _ => ∃ (a : Addr) (i : Nat) (x y : V), vs = [.ref a, .int i] ∧ i < 27 ∧ Ej K H x y i a ∧ Kf K i ∧ ∀ p G, Same H G → G p = some (.lst (dueL i x y)) → Q (.ref p) G
theorem scFields : FnScope ["_law_e", "_law_spot"] ["_law_e", "_law_spot"] (defScope lFields) := ⟨rfl, rfl, rfl, by decide +kernel, rfl, by decide +kernel, by decide +kernel⟩
section
variable {P : Program} {w : World} {K : PySem.W.Frag} {mg : Str → Option Value} {base : Heap} {f : Addr} {fd : FuncData}
theorem okFields (F : Fun K "_law_fields" "_law_fields" lFields f fd) (ER : Errs P w K mg base) (mi : mg "isinstance" = none) : FnOk P w K mg base CX0 1 f fd ["_law_e", "_law_spot"] (spFields K) := by
  refine F.ok scFields (fun vs H Q E h => ?_) (fun cdv A outer s H vs Q E hr h => ?_)
  · obtain ⟨a, i, x, y, rfl, _⟩ := h
    rfl
  obtain ⟨a, i, x, y, rfl, hi, hE, hK, q⟩ := h
  obtain ⟨f17, E17⟩ := ER.eNoText
  obtain ⟨f21, E21⟩ := ER.eFault
  obtain ⟨f22, E22⟩ := ER.eThrown
  obtain ⟨f23, E23⟩ := ER.eTooMuch
  obtain ⟨f24, E24⟩ := ER.eWaits
  have E20 := ER.eOver
  refine ⟨_, pss_cons (ps_if (pt_val (pe_callB call_isH rfl mi boot_isi (pa_cons (pv 0) (pa_cons (pe_glob (v := .ref (He.ga K "NoText")) rfl E17.gC rfl) pa_nil)))) (pss_one (ps_ret (pe_lstS (pa_cons (pe_fld (pv 0)) pa_nil)))) pss_nil)
    (pss_cons (ps_if (pt_val (pe_callB call_isH rfl mi boot_isi (pa_cons (pv 0) (pa_cons (pe_glob (v := .ref (He.ga K "Fault")) rfl E21.gC rfl) pa_nil)))) (pss_one (ps_ret (pe_lstS (pa_cons (pe_fld (pv 0)) (pa_cons (pe_fld (pv 0)) pa_nil))))) pss_nil)
    (pss_cons (ps_if (pt_val (pe_callB call_isH rfl mi boot_isi (pa_cons (pv 0) (pa_cons (pe_glob (v := .ref (He.ga K "Thrown")) rfl E22.gC rfl) pa_nil)))) (pss_one (ps_ret (pe_lstS (pa_cons (pe_fld (pv 0)) pa_nil)))) pss_nil)
    (pss_cons (ps_if (pt_val (pe_callB call_isHT rfl mi boot_isi (pa_cons (pv 0) (pa_cons (pe_tupS (pa_cons (pe_glob (v := .ref (He.ga K "TooMuch")) rfl E23.gC rfl) (pa_cons (pe_glob (v := .ref (He.ga K "Waits")) rfl E24.gC rfl) pa_nil))) pa_nil)))) (pss_one (ps_ret (pe_lstS (pa_cons (pe_fld (pv 0)) pa_nil)))) pss_nil)
    (pss_cons (ps_if (pt_val (pe_callB call_isH rfl mi boot_isi (pa_cons (pv 0) (pa_cons (pe_glob (v := .ref (He.ga K "Over")) rfl E20.gC rfl) pa_nil)))) (pss_one (ps_ret (pe_lstS pa_nil))) pss_nil)
    (pss_one (ps_ret (pe_lstS (pa_cons (pe_fld (pv 0)) pa_nil)))))))), ?_⟩
  have kd := hK.kd
  refine ⟨_, rfl, a, _, _, _, _, _, rfl, .own _, hE, kd.ex, kd.k 17 (by decide), _, rfl, ?_⟩
  by_cases c17 : i = 17
  · subst c17
    exact iteT ⟨_, rfl, a, _, _, x, rfl, hE, kd.ex, hK.no _ (by decide), rfl, (by show 1 ≤ sizeLine; decide), fun p G _ s e => q p G s e⟩
  rw [decide_eq_false c17]
  refine iteF ⟨_, rfl, a, _, _, _, _, _, rfl, .own _, hE, kd.ex, kd.k 21 (by decide), _, rfl, ?_⟩
  by_cases c21 : i = 21
  · subst c21
    exact iteT ⟨_, rfl, a, _, _, x, rfl, hE, kd.ex, hK.no _ (by decide), rfl, _, rfl, a, _, _, y, rfl, hE, kd.ex, hK.no _ (by decide), rfl, (by show 2 ≤ sizeLine; decide), fun p G _ s e => q p G s e⟩
  rw [decide_eq_false c21]
  refine iteF ⟨_, rfl, a, _, _, _, _, _, rfl, .own _, hE, kd.ex, kd.k 22 (by decide), _, rfl, ?_⟩
  by_cases c22 : i = 22
  · subst c22
    exact iteT ⟨_, rfl, a, _, _, x, rfl, hE, kd.ex, hK.no _ (by decide), rfl, (by show 1 ≤ sizeLine; decide), fun p G _ s e => q p G s e⟩
  rw [decide_eq_false c22]
  have kt : PySem.W.kitAny K (.ref (He.ga K (nmOf i))) [.ref (He.ga K "TooMuch"), .ref (He.ga K "Waits")] = some (decide (i = 23) || decide (i = 24)) := by
    have k1 := kd.k 23 (by decide)
    have k2 := kd.k 24 (by decide)
    have z1 : nmOf 23 = "TooMuch" := rfl
    have z2 : nmOf 24 = "Waits" := rfl
    rw [z1] at k1
    rw [z2] at k2
    unfold PySem.W.kitAny
    rw [k1]
    cases decide (i = 23)
    · unfold PySem.W.kitAny
      dsimp only
      rw [k2]
      cases decide (i = 24) <;> rfl
    · rfl
  refine iteF ⟨_, rfl, (by show 2 ≤ sizeLine; decide), fun tp G0 _ s0 e0 => ⟨a, _, tp, _, _, _, _, rfl, e0, .cons (.own _) (.cons (.own _) .nil), hE.le s0, kd.ex, kt, _, rfl, ?_⟩⟩
  have hE0 := ErAt.le hE s0
  have qq : ∀ p G, Same G0 G → G p = some (.lst (dueL i x y)) → Q (.ref p) G := fun p G s e => q p G (s0.trans s) e
  by_cases c23 : i = 23
  · subst c23
    exact iteT ⟨_, rfl, a, _, _, x, rfl, hE0, kd.ex, hK.no _ (by decide), rfl, (by show 1 ≤ sizeLine; decide), fun p G _ s e => qq p G s e⟩
  by_cases c24 : i = 24
  · subst c24
    exact iteT ⟨_, rfl, a, _, _, x, rfl, hE0, kd.ex, hK.no _ (by decide), rfl, (by show 1 ≤ sizeLine; decide), fun p G _ s e => qq p G s e⟩
  rw [decide_eq_false c23, decide_eq_false c24]
  refine iteF ⟨_, rfl, a, _, _, _, _, _, rfl, .own _, hE0, kd.ex, kd.k 20 (by decide), _, rfl, ?_⟩
  by_cases c20 : i = 20
  · subst c20
    exact iteT ⟨(by show 0 ≤ sizeLine; decide), fun p G _ s e => qq p G s e⟩
  rw [decide_eq_false c20]
  have d1 : dueL i x y = [x] := by
    unfold dueL
    rw [if_neg c20, if_neg c21]
  have fs : fsOf i x y = ([("found", x)] : List (Str × V)) := by
    unfold fsOf
    rw [if_neg c17, if_neg c20, if_neg c21, if_neg c22, if_neg c23, if_neg c24]
  have hE1 : ErAt G0 a (He.ga K (nmOf i)) ([("found", x)] : List (Str × V)) := by
    rw [← fs]
    exact hE0
  exact iteF ⟨_, rfl, a, _, _, x, rfl, hE1, kd.ex, hK.no _ (by decide), rfl, (by show 1 ≤ sizeLine; decide), fun p G _ s e => qq p G s (by rw [d1]; exact e)⟩
end
end K2
/-! a text times a number -/
namespace Gr
open PySem PySem.Spec PyProof.Rows L2
section
variable {X : Cx}
theorem op_mulS : OpR X (binaryOp .Mult) (fun x y H Q => ∃ i n, x = .str i ∧ y = .int n ∧ MulOk i n ∧ Q (.str (Txt.mul i n)) H) := by
  intro pins s σ H x y v u Q I rx ry h
  obtain ⟨i, j, rfl, rfl, hz, q⟩ := h
  obtain ⟨t, rfl⟩ := rx
  obtain ⟨t', rfl⟩ := ry
  exact SB.mul hz (fun t' tk => ⟨.str (Txt.mul i j), H, I.tok _, ⟨_, rfl⟩, q⟩)
end
end Gr
namespace K2
open PySem PySem.Spec PyProof.Rows L2 Gr
/-! ### the law's own steps, as data -/
/-- all but lists and dicts stay -/
def Nl (H G : Hp) : Prop := ∀ b o, H b = some o → (∀ xs, o ≠ .lst xs) → (∀ ps, o ≠ .dK ps) → G b = some o
theorem Nl.of_same {H G : Hp} (e : Same H G) : Nl H G := fun b o z _ _ => e b o z
theorem Nl.trans {H G F : Hp} (x : Nl H G) (y : Nl G F) : Nl H F := fun b o e n m => y b o (x b o e n m) n m
theorem Nl.of_but {H G : Hp} {L : Addr} {xs : List V} (hL : H L = some (.lst xs)) (k : ∀ b o, b ≠ L → H b = some o → G b = some o) : Nl H G := fun b o e n _ => k b o (fun z => by
  rw [z, hL] at e
  cases e
  exact n xs rfl) e
theorem Nl.of_stays {F : List Addr} {H G : Hp} (c : ∀ b ∈ F, ∃ o, H b = some o ∧ Chg o) (k : Stays F H G) : Nl H G := fun b o e n m => k b o (fun z => by
  obtain ⟨o2, e2, q⟩ := c b z
  rw [e] at e2
  cases e2
  rcases q with ⟨xs, rfl⟩ | ⟨ks, rfl⟩
  · exact n xs rfl
  · exact m ks rfl) e
/-- what is kept -/
def Kept (K : PySem.W.Frag) (x y : V) (G : Hp) (vs : List V) : Prop := ∀ v ∈ vs, ∃ (t : Addr) (i : Nat) (a : Addr), v = .ref t ∧ G t = some (.tup [.int i, .ref a]) ∧ i < 27 ∧ Ej K G x y i a
theorem Kept.nl {K : PySem.W.Frag} {x y : V} {G F : Hp} {vs : List V} (h : Kept K x y G vs) (k : Nl G F) : Kept K x y F vs := fun v m => by
  obtain ⟨t, i, a, e, ht, hi, he⟩ := h v m
  exact ⟨t, i, a, e, k _ _ ht (fun _ z => by cases z) (fun _ z => by cases z), hi, ErAt.same he k⟩
def dueD (i : Nat) (dx dy : PyData) : List PyData := if i = 20 then [] else if i = 21 then [dx, dy] else [dx]
theorem due_dw {K : PySem.W.Frag} {G : Hp} {x y : V} {dx dy : PyData} (hx : Dw K G x dx) (hy : Dw K G y dy) (i : Nat) : DwAll K G (dueL i x y) (dueD i dx dy) := by
  unfold dueL dueD
  split
  · exact .nil
  split
  · exact .cons hx (.cons hy .nil)
  · exact .cons hx .nil
theorem due_fit {dx dy : PyData} {n p : Nat} (hx : Fit n p dx) (hy : Fit n p dy) (i : Nat) : Fit (2 * n + 1) (p + 1) (.list (dueD i dx dy)) := by
  unfold dueD
  split
  · exact (FitAll.nil.list : Fit (0 + 1) (p + 1) _).mono (by omega) (Nat.le_refl _)
  split
  · exact (((FitAll.nil.snoc hx).snoc hy).list).mono (by omega) (Nat.le_refl _)
  · exact ((FitAll.nil.snoc hx).list).mono (by omega) (Nat.le_refl _)
/-- what is told of kinds -/
def kindsD (h : Nat) : PyData := .list [.list (if h < 27 then [.int (h : Nat)] else []), .list ((aboveL h).map .bool)]
theorem bools_dp {K : PySem.W.Frag} {G : Hp} : ∀ bs : List Bool, DpAll K G (bs.map V.bl) (bs.map PyData.bool)
  | [] => .nil
  | b :: bs => .cons (.bl b) (bools_dp bs)
theorem kinds_dp {K : PySem.W.Frag} {G : Hp} {p l1 l2 : Addr} {h : Nat} (e0 : G p = some (.lst [.ref l1, .ref l2])) (e1 : G l1 = some (.lst (if h < 27 then [V.int (h : Nat)] else []))) (e2 : G l2 = some (.lst ((aboveL h).map V.bl))) : Dp K G (.ref p) (kindsD h) := by
  refine .lst (SqL.of e0) (.cons (.lst (SqL.of e1) ?_) (.cons (.lst (SqL.of e2) (bools_dp _)) .nil))
  split
  · exact .cons (.int _) .nil
  · exact .nil
theorem KindsAt.dp {K : PySem.W.Frag} {G : Hp} {p : Addr} {h : Nat} (q : KindsAt G p h) : Dp K G (.ref p) (kindsD h) := by
  obtain ⟨l1, l2, e0, e1, e2⟩ := q
  exact kinds_dp e0 e1 e2
theorem kinds_lay (h : Nat) : (kindsD h).canLay0 = true := by
  unfold kindsD
  split <;> simp [PyData.canLay0, PyData.canLayAll0, aboveL]
theorem kinds_shaped (h : Nat) : SeqAt.shaped (kindsD h) = true := by
  unfold SeqAt.shaped
  rw [kinds_lay, Bool.true_and, decide_eq_true_eq]
  unfold kindsD
  split <;> simp [PyData.depth, PyData.depthAll, aboveL]
theorem not_st {H G : Hp} {st : Addr} {v : V} {d : PyData} {F : List Addr} (h : Df (fresh H G) v d F) (hs : H st ≠ none) : st ∉ F := fun m => by
  obtain ⟨o, e, _⟩ := h.there _ _ _ st m
  unfold fresh at e
  split at e
  · rename_i q
    exact hs q
  · cases e
theorem not_new {G : Hp} {p : Addr} {v : V} {d : PyData} {F : List Addr} (h : Df G v d F) (hp : G p = none) : p ∉ F := fun m => by
  obtain ⟨o, e, _⟩ := h.there _ _ _ p m
  rw [hp] at e
  cases e
end K2
namespace K2
open PySem PySem.Spec PyProof.Rows L2 Gr 
def spLaw (K : PySem.W.Frag) : Sp := fun vs H Q _ => ∃ (a : Addr) (ns : List Int), vs = [.ref a] ∧ SqL K H a (ns.map V.int) ∧ ∀ H', Q (.bl true) H'
theorem scLaw : FnScope ["_law_script", "_law_k", "_law_state", "_law_one", "_law_other", "_law_kept", "_law_spot", "_law_e", "_law_text", "_law_families"] ["_law_script"] (defScope lLaw) := ⟨rfl, rfl, rfl, by decide +kernel, rfl, by decide +kernel, by decide +kernel⟩
/-- what is told of the families, so far -/
def Fam (D : Addr) (C G : Hp) (j : Nat) : Prop := (∀ b o, b ≠ D → C b = some o → G b = some o) ∧ ∃ vs, G D = some (.lst vs) ∧ vs.length = j ∧ ∀ i v, vs[i]? = some v → ∃ p l1 l2, v = .ref p ∧ p ≠ D ∧ l1 ≠ D ∧ l2 ≠ D ∧ G p = some (.lst [.ref l1, .ref l2]) ∧ G l1 = some (.lst []) ∧ G l2 = some (.lst ((aboveL (27 + i)).map V.bl))
theorem fam_step {D : Addr} {C G F : Hp} {j : Nat} {p : Addr} (h : Fam D C G j) (s : Same G F) (k : KindsN G F p (27 + j)) : ∃ acc, F D = some (.lst acc) ∧ acc.length = j ∧ Fam D C (upd F D (.lst (acc ++ [.ref p]))) (j + 1) := by
  obtain ⟨hk, vs, eD, lv, hv⟩ := h
  obtain ⟨l1, l2, a0, a1, a2, b0, b1, b2⟩ := k
  have ne : ∀ {b}, G b = none → b ≠ D := fun {b} e z => by rw [z, eD] at e; cases e
  refine ⟨vs, s _ _ eD, lv, fun b o n e => by rw [upd_ne n]; exact s _ _ (hk b o n e), _, upd_same, by rw [List.length_append, lv]; rfl, fun i v e => ?_⟩
  by_cases l : i < vs.length
  · rw [List.getElem?_append_left l] at e
    obtain ⟨p', m1, m2, rfl, n0, n1, n2, c0, c1, c2⟩ := hv i v e
    exact ⟨p', m1, m2, rfl, n0, n1, n2, by rw [upd_ne n0]; exact s _ _ c0, by rw [upd_ne n1]; exact s _ _ c1, by rw [upd_ne n2]; exact s _ _ c2⟩
  · rw [List.getElem?_append_right (Nat.le_of_not_lt l)] at e
    have q := (List.getElem?_eq_some_iff.mp e).1
    rw [List.length_singleton] at q
    obtain rfl : i = j := by omega
    rw [show i - vs.length = 0 by omega] at e
    cases e
    rw [if_neg (by omega)] at b1
    exact ⟨p, l1, l2, rfl, ne a0, ne a1, ne a2, by rw [upd_ne (ne a0)]; exact b0, by rw [upd_ne (ne a1)]; exact b1, by rw [upd_ne (ne a2)]; exact b2⟩
section
variable {X : Cx} {k n : Nat} {x : Str} {ps : List Str} {sp : Sp} {f : Addr} {fd : FuncData} {e : Expr} {es : List Expr} {t : TA} {p pos : Pos}
theorem pe_cal (C : Cal X.prog X.w X.K X.mg X.base k x ps sp f fd) (hr : Room n X.A) (gl : Gl X x) (ha : PA X (e :: es) t) (hk : k ≤ n := by decide) (hdb : (x == ("__debug__" : Str)) = false := by decide) (he : starEach (e :: es) X.env = (false, eval e X.env) :: starEach es X.env := by rfl) (hpl : (backTo pos (starEach es X.env)).any (·.1) = false := by rfl) :
    PE X (.Call (.Name x p) (e :: es) [] pos) (tCall sp [] E0 t) := pe_call C.ok (hr.mono hk) gl C.at_ C.kp C.bd .nil pass0 ha hdb he hpl
end
section
variable {P : Program} {w : World} {K : PySem.W.Frag} {mg : Str → Option Value} {base : Heap} {f fC fB fA fM fN fK fV fF fD fG fP : Addr} {fd fdC fdB fdA fdM fdN fdK fdV fdF fdD fdG fdP : FuncData}
theorem ok_law (F : Fun K "law" "law" lLaw f fd) (CE : Cal P w K mg base 1 "_law_cell" ["_law_script", "_law_k"] (spCell K) fC fdC) (BE : Cal P w K mg base 1 "_law_begun" ["_law_cell_here"] spBegun fB fdB) (AN : Cal P w K mg base 6 "_law_any" ["_law_state", "_law_deep"] (spAny K 4) fA fdA)
    (PU : Cal P w K mg base 2 "_law_pull" ["_law_state", "_law_so_many"] spPull fP fdP) (MA : Cal P w K mg base 3 "_law_made" ["_law_spot", "_law_one", "_law_other"] (spMade K) fM fdM) (BN : Cal P w K mg base 3 "_law_by_name" ["_law_spot", "_law_one", "_law_other"] (spMade K) fN fdN)
    (KI : Cal P w K mg base 1 "_law_kinds" ["_law_e"] (spKinds K) fK fdK) (AB : Cal P w K mg base 1 "_law_above" ["_law_spot"] spAbove fV fdV) (FI : Cal P w K mg base 1 "_law_fields" ["_law_e", "_law_spot"] (spFields K) fF fdF) (DU : Cal P w K mg base 1 "_law_due" ["_law_spot", "_law_one", "_law_other"] spDue fD fdD)
    (GO : Cal P w K mg base 7 "_law_grown" ["_law_thing"] (spGrown 7) fG fdG) (KF : ∀ i, i < 27 → Kf K i) (K27 : Kd K "PlanError" 27) (K28 : Kd K "Missing" 28) (K29 : Kd K "Barred" 29) (EPlanError : Err0 K mg "PlanError") (EMissing : Err0 K mg "Missing") (EBarred : Err0 K mg "Barred")
    (m_repr : mg "repr" = none) (m_range : mg "range" = none) (m_len : mg "len" = none) (m_max : mg "max" = none) (m_min : mg "min" = none) : FnQ P w K mg base CX0 8 f fd ["_law_script"] (spLaw K) := by
  refine fun_q F scLaw (fun vs H Q E h => ?_) (fun cdv A outer s H vs Q E hg hr h => ?_)
  · obtain ⟨a, ns, rfl, _⟩ := h
    rfl
  obtain ⟨a, ns, rfl, hS, q⟩ := h
  have hgD : (A.deeper (envOfC "law" (defScope lLaw) s.heap.objs.size f cdv)).guards = some [] := guards_in hg
  have rp {X : Cx} (e1 : X.A.guards = some []) (e2 : X.A.units + 64 < cLine) (e3 : X.K = K) : CallR X (.builtin "repr") (rShow2 K) := e3 ▸ call_repr2 e1 e2
  refine ⟨_, (pss_cons (ps_for PassesOwn.never rfl (pi_range1 rfl m_range (pa_cons (pe_callB (call_max2 rfl) rfl m_max (by decide +kernel) (pa_cons pe_int (pa_cons (pe_callB (call_min2 rfl) rfl m_min (by decide +kernel) (pa_cons pe_int (pa_cons (pe_callB call_len_seq rfl m_len PySem.boot_len (pa_cons (pv 0) pa_nil)) pa_nil))) pa_nil))) pa_nil)) (pg_name (i := 1) scLaw.nd rfl (Or.inl rfl))
 (pss_cons (ps_set (i := 2) scLaw.nd rfl (Or.inl rfl) (pe_cal BE hr rfl (pa_cons (pe_cal CE hr rfl (pa_cons (pv 0) (pa_cons (pv 1) pa_nil))) pa_nil)))
 (pss_cons (ps_par (i := 3) (j := 4) rfl scLaw.nd rfl rfl (by decide) rfl rfl (pa_cons (pe_cal AN hr rfl (pa_cons (pv 2) (pa_cons pe_int pa_nil))) (pa_cons (pe_cal AN hr rfl (pa_cons (pv 2) (pa_cons pe_int pa_nil))) pa_nil)) (by rfl))
 (pss_cons (ps_set (i := 5) scLaw.nd rfl (Or.inl rfl) (pe_lst pa_nil))
 (pss_cons (ps_for PassesOwn.never rfl (pi_range1 rfl m_range (pa_cons pe_int pa_nil)) (pg_name (i := 6) scLaw.nd rfl (Or.inl rfl))
 (pss_one (ps_for PassesOwn.never rfl (pi_list (pe_lst (pa_cons (pe_cal MA hr rfl (pa_cons (pv 6) (pa_cons (pv 3) (pa_cons (pv 4) pa_nil)))) (pa_cons (pe_cal BN hr rfl (pa_cons (pv 6) (pa_cons (pv 3) (pa_cons (pv 4) pa_nil)))) pa_nil)))) (pg_name (i := 7) scLaw.nd rfl (Or.inl rfl))
 (pss_cons (ps_if (pt_cmpR (op_neD hr.units) (pe_cal KI hr rfl (pa_cons (pv 7) pa_nil)) (pe_lst (pa_cons (pe_lst (pa_cons (pv 6) pa_nil)) (pa_cons (pe_cal AB hr rfl (pa_cons (pv 6) pa_nil)) pa_nil))) (nomark _))
 (pss_one (ps_ret pe_bl))
 pss_nil)
 (pss_cons (ps_if (pt_cmpR op_ne (pe_callB (rp hgD hr.units rfl) rfl m_repr Gr.boot_repr (pa_cons (pe_cal FI hr rfl (pa_cons (pv 7) (pa_cons (pv 6) pa_nil))) pa_nil)) (pe_callB (rp hgD hr.units rfl) rfl m_repr Gr.boot_repr (pa_cons (pe_cal DU hr rfl (pa_cons (pv 6) (pa_cons (pv 3) (pa_cons (pv 4) pa_nil)))) pa_nil)) (nomark _))
 (pss_one (ps_ret pe_bl))
 pss_nil)
 (pss_one (ps_expr (pe_bm PySem.F.plainAttrs_list PySem.F.slot_list_append PySem.F.type_list_append mt_append (pv 5) (pa_cons (pe_tup (pa_cons (pv 6) (pa_cons (pv 7) pa_nil))) pa_nil)))))))))
 (pss_cons (ps_expr (pe_cal GO hr rfl (pa_cons (pv 3) pa_nil)))
 (pss_cons (ps_expr (pe_cal GO hr rfl (pa_cons (pv 4) pa_nil)))
 (pss_cons (ps_for PassesOwn.never rfl (pi_list (pv 5)) (pg_tup rfl (pgs_cons (pg_name (i := 6) scLaw.nd rfl (Or.inl rfl)) (pgs_cons (pg_name (i := 7) scLaw.nd rfl (Or.inl rfl)) pgs_nil)))
 (pss_one (ps_if (pt_cmpR op_ne (pe_callB (rp hgD hr.units rfl) rfl m_repr Gr.boot_repr (pa_cons (pe_cal FI hr rfl (pa_cons (pv 7) (pa_cons (pv 6) pa_nil))) pa_nil)) (pe_callB (rp hgD hr.units rfl) rfl m_repr Gr.boot_repr (pa_cons (pe_cal DU hr rfl (pa_cons (pv 6) (pa_cons (pv 3) (pa_cons (pv 4) pa_nil)))) pa_nil)) (nomark _))
 (pss_one (ps_ret pe_bl))
 pss_nil)))
 (pss_cons (ps_set (i := 8) scLaw.nd rfl (Or.inl rfl) (pe_op op_mulS pe_str (pe_cal PU hr rfl (pa_cons (pv 2) (pa_cons pe_int pa_nil)))))
 (pss_cons (ps_setLc (i := 9) (own := [("_law_e", 7)]) (g := gName 7) (tt := tYes) rfl scLaw.nd rfl rfl (sw_true rfl rfl rfl (by decide +kernel)) (pi_list (pe_lst (pa_cons (pe_new1 EPlanError rfl (pv 8)) (pa_cons (pe_new1 EMissing rfl (pv 8)) (pa_cons (pe_new1 EBarred rfl (pv 8)) pa_nil))))) (blkOk_by (N := ["_law_script", "_law_k", "_law_state", "_law_one", "_law_other", "_law_kept", "_law_spot", "_law_e", "_law_text", "_law_families"]) (sc := defScope lLaw) (by decide +kernel)) (fun _ _ _ _ _ => (pg_name (i := 7) scLaw.nd rfl (Or.inl rfl))) (fun _ _ _ _ _ => pts_nil) (fun _ _ _ _ _ => (pe_cal KI hr rfl (pa_cons (pv 7) pa_nil))))
 (pss_one (ps_if (pt_cmpR (op_neD hr.units) (pv 9) (pe_lst (pa_cons (pe_lst (pa_cons (pe_lst pa_nil) (pa_cons (pe_cal AB hr rfl (pa_cons pe_int pa_nil)) pa_nil))) (pa_cons (pe_lst (pa_cons (pe_lst pa_nil) (pa_cons (pe_cal AB hr rfl (pa_cons pe_int pa_nil)) pa_nil))) (pa_cons (pe_lst (pa_cons (pe_lst pa_nil) (pa_cons (pe_cal AB hr rfl (pa_cons pe_int pa_nil)) pa_nil))) pa_nil)))) (nomark _))
 (pss_one (ps_ret pe_bl))
 pss_nil))))))))))))
 (pss_one (ps_ret pe_bl))), ?_⟩
  have zl := sizeLine_eq
  refine ⟨_, rfl, a, _, rfl, .inl hS, _, _, rfl, _, _, rfl, _, rfl, by (repeat' split) <;> omega, by (repeat' split) <;> omega, ?_⟩
  refine for_range (fun i σ G => Same H G ∧ ∃ o1 o2 o3 o4 o5 o6 o7 o8 o9, σ = [some (.ref a), o1, o2, o3, o4, o5, o6, o7, o8, o9]) ⟨Same.refl _, _, _, _, _, _, _, _, _, _, rfl⟩ (fun i σ G hi pv => ?_) (fun σ G pv => ?_)
  rotate_left
  · obtain ⟨_, o1, o2, o3, o4, o5, o6, o7, o8, o9, rfl⟩ := pv
    exact q G
  obtain ⟨sG, o1, o2, o3, o4, o5, o6, o7, o8, o9, rfl⟩ := pv
  refine ⟨_, rfl, _, rfl, a, ns, _, rfl, sG.seq hS, by omega, fun c => ⟨c, rfl, fun st G1 nst s1 e1 => ?_⟩⟩
  refine ⟨_, rfl, st, 3, rfl, by decide, s1, fun x dx G2 t2 F1 hx fx rx => ?_⟩
  refine ⟨_, rfl, st, 2, rfl, by decide, t2.now, fun y dy G3 t3 F2 hy fy ry => ?_⟩
  refine ⟨x, y, rfl, by show 0 ≤ sizeLine; omega, fun L hL => ?_⟩
  -- the data, apart
  have n1 : st ∉ F1 := not_st hx s1.some
  have n2 : st ∉ F2 := not_st hy t2.now.some
  have hx2 : Df G2 x dx F1 := hx.le fresh_le
  have hy3 : Df G3 y dy F2 := hy.le fresh_le
  have stF : ∀ {b : Addr} {o : HO} {F : List Addr}, st ∉ F → ∀ {G}, StAt G st → (b ∈ F ∨ ∃ xs, o = HO.tup xs) → G b = some o → b ≠ st := by
    intro b o F nF G hs k e z
    rcases k with k | ⟨ys, rfl⟩
    · exact nF (z ▸ k)
    · obtain ⟨i1, i2, i3, e2⟩ := hs
      rw [z, e2] at e
      cases e
  have hx3 : Df G3 x dx F1 := hx2.keep _ _ _ fun b o k e => t3.keep (stF n1 t2.now k e) e
  have dj : ∀ b ∈ F2, b ∉ F1 := fun b m2 m1 => by
    obtain ⟨o, e, _⟩ := hx2.there _ _ _ b m1
    obtain ⟨o2, e2, _⟩ := hy.there _ _ _ b m2
    unfold fresh at e2
    rw [e] at e2
    cases e2
  have L1 : L ∉ F1 := not_new hx3 hL
  have L2 : L ∉ F2 := not_new hy3 hL
  have Ls : L ≠ st := t3.now.ne hL
  have sL := same_upd hL (.lst [])
  have hxL := hx3.le sL
  have hyL := hy3.le sL
  have stL := t3.now.same sL
  have eL : (upd G3 L (.lst [])) L = some (.lst []) := upd_same
  have gB : ∀ b o, G b = some o → b ≠ st ∧ b ≠ L ∧ b ∉ F1 ∧ b ∉ F2 ∧ (upd G3 L (.lst [])) b = some o := fun b o e => by
    have h1 := e1 b o e
    have ns1 : b ≠ st := fun z => by rw [z, nst] at e; cases e
    have h2 := t2.keep ns1 h1
    have h3 := t3.keep ns1 h2
    refine ⟨ns1, (fun z => by rw [z, hL] at h3; cases h3), fun m => ?_, fun m => ?_, sL _ _ h3⟩
    · obtain ⟨o2, e2, _⟩ := hx.there _ _ _ b m
      unfold fresh at e2
      rw [h1] at e2
      cases e2
    · obtain ⟨o2, e2, _⟩ := hy.there _ _ _ b m
      unfold fresh at e2
      rw [h2] at e2
      cases e2
  generalize upd G3 L (HO.lst []) = B at sL hxL hyL stL eL gB ⊢
  have dwx : ∀ {G : Hp}, (∀ b o, b ≠ L → B b = some o → G b = some o) → Df G x dx F1 := fun {G} k => hxL.keep _ _ _ fun b o m e => k b o (fun z => by
    rcases m with m | ⟨ys, rfl⟩
    · exact L1 (z ▸ m)
    · rw [z, eL] at e
      cases e) e
  have dwy : ∀ {G : Hp}, (∀ b o, b ≠ L → B b = some o → G b = some o) → Df G y dy F2 := fun {G} k => hyL.keep _ _ _ fun b o m e => k b o (fun z => by
    rcases m with m | ⟨ys, rfl⟩
    · exact L2 (z ▸ m)
    · rw [z, eL] at e
      cases e) e
  have fitD : ∀ i, Fit (2 * 66 + 1) 7 (.list (dueD i dx dy)) := fun i => due_fit (fx : Fit 66 6 dx) (fy.mono (by decide) (by decide) : Fit 66 6 dy) i
  refine ⟨_, rfl, by decide, by decide, ?_⟩
  refine for_range (fun i σ G => (∀ b o, b ≠ L → B b = some o → G b = some o) ∧ (∃ vs, G L = some (.lst vs) ∧ vs.length ≤ 2 * i ∧ Kept K x y G vs) ∧ ∃ o1 o6 o7 o8 o9, σ = [some (.ref a), o1, some (.ref st), some x, some y, some (.ref L), o6, o7, o8, o9])
    ⟨fun b o _ e => e, ⟨[], eL, Nat.zero_le _, fun v m => nomatch m⟩, _, _, _, _, _, rfl⟩ (fun j σ G hj pv => ?_) (fun σ G pv => ?_)
  · obtain ⟨kG, ⟨vs, eV, lV, hV⟩, p1, p6, p7, p8, p9, rfl⟩ := pv
    have ej : (0 + (j : Int)) = (j : Int) := Int.zero_add _
    have Kj := KF j (by omega)
    refine ⟨_, rfl, _, rfl, _, rfl, j, x, y, ?_, by omega, fun a1 H1 u1 he1 => ?_⟩
    · show [V.int (0 + (j : Int)), x, y] = [V.int (j : Int), x, y]
      rw [ej]
    refine ⟨_, rfl, _, rfl, _, rfl, j, x, y, ?_, by omega, fun a2 H2 u2 he2 => ?_⟩
    · show [V.int (0 + (j : Int)), x, y] = [V.int (j : Int), x, y]
      rw [ej]
    refine ⟨by show 2 ≤ sizeLine; omega, fun D hD => ?_⟩
    have u3 := same_upd hD (.lst [.ref a1, .ref a2])
    have eD : (upd H2 D (.lst [.ref a1, .ref a2])) D = some (.lst [.ref a1, .ref a2]) := upd_same
    have u123 := u1.trans (u2.trans u3)
    have w1 : Ej K (upd H2 D (.lst [.ref a1, .ref a2])) x y j a1 := ErAt.le he1 (u2.trans u3)
    have w2 : Ej K (upd H2 D (.lst [.ref a1, .ref a2])) x y j a2 := ErAt.le he2 u3
    have nDL : D ≠ L := fun z => by
      have e := (u1.trans u2) _ _ eV
      rw [← z, hD] at e
      cases e
    have eV1 := u123 _ _ eV
    have hV1 := hV.nl (Nl.of_same u123)
    have kG1 : ∀ b o, b ≠ L → B b = some o → (upd H2 D (.lst [.ref a1, .ref a2])) b = some o := fun b o n e => u123 _ _ (kG b o n e)
    generalize upd H2 D (HO.lst [.ref a1, .ref a2]) = C at eD w1 w2 eV1 hV1 kG1 ⊢
    refine ⟨D, rfl, ⟨_, SqL.of eD⟩, ?_⟩
    refine for_list (a := D) (xs := [.ref a1, .ref a2]) (fun m σ G => (∀ b o, b ≠ L → C b = some o → G b = some o) ∧ (∃ vs, G L = some (.lst vs) ∧ vs.length ≤ 2 * j + m ∧ Kept K x y G vs) ∧ ∃ o7, σ = [some (.ref a), p1, some (.ref st), some x, some y, some (.ref L), some (.int (j : Int)), o7, p8, p9])
      ⟨fun b o _ e => e, ⟨vs, eV1, lV, hV1⟩, p7, by simp only [ej, List.set]⟩ (fun m σ G _ pv => SqL.of (pv.1 _ _ nDL eD)) (fun m e σ G ex pv => ?_) (fun σ G pv => ?_)
    · obtain ⟨kC, ⟨us, eU, lU, hU⟩, q7, rfl⟩ := pv
      obtain ⟨ae, rfl, wC, hm⟩ : ∃ ae, e = .ref ae ∧ Ej K C x y j ae ∧ m < 2 := by
        match m, ex with
        | 0, ex => cases ex; exact ⟨_, rfl, w1, by omega⟩
        | 1, ex => cases ex; exact ⟨_, rfl, w2, by omega⟩
        | m + 2, ex => simp at ex
      have wG : Ej K G x y j ae := ErAt.same wC (Nl.of_but eV1 kC)
      have kB : ∀ b o, b ≠ L → B b = some o → G b = some o := fun b o n e => kC b o n (kG1 b o n e)
      refine ⟨_, rfl, ae, nmOf j, j, fsOf j x y, rfl, wG, Kj.kd, fun p Gk sk hk => ?_⟩
      refine ⟨_, rfl, by show 1 ≤ sizeLine; omega, fun r1 hr1 => ?_⟩
      have v1 := same_upd hr1 (.lst [.int (j : Int)])
      have e1' : (upd Gk r1 (.lst [.int (j : Int)])) r1 = some (.lst [.int (j : Int)]) := upd_same
      have hk1 := hk.at_.le v1
      have sk1 := sk.trans v1
      generalize upd Gk r1 (HO.lst [.int (j : Int)]) = Gl at v1 e1' hk1 sk1 ⊢
      refine ⟨_, rfl, j, rfl, by omega, fun r2 Ga sa ea => ⟨by show 2 ≤ sizeLine; omega, fun r3 hr3 => ?_⟩⟩
      have v3 := same_upd hr3 (.lst [.ref r1, .ref r2])
      have s03 := sk1.trans (sa.trans v3)
      have dp1 := (hk1.le (sa.trans v3)).dp (K := K)
      have dp2 : Dp K (upd Ga r3 (.lst [.ref r1, .ref r2])) (.ref r3) (kindsD j) := kinds_dp (h := j) upd_same (by rw [if_pos (by omega)]; exact (sa.trans v3) _ _ e1') (v3 _ _ ea)
      refine ⟨kindsD j, kindsD j, dp1, dp2, kinds_shaped j, kinds_shaped j, _, rfl, ?_⟩
      rw [SeqAt.eqv_refl _ (kinds_lay j)]
      refine iteF ?_
      generalize upd Ga r3 (HO.lst [.ref r1, .ref r2]) = G4 at s03 ⊢
      have w4 : Ej K G4 x y j ae := ErAt.le wG s03
      have k4 : ∀ b o, b ≠ L → B b = some o → G4 b = some o := fun b o n e => s03 _ _ (kB b o n e)
      refine ⟨_, rfl, _, rfl, ae, j, x, y, rfl, by omega, w4, Kj, fun p5 G5 s5 e5 => ?_⟩
      have k5 : ∀ b o, b ≠ L → B b = some o → G5 b = some o := fun b o n e => s5 _ _ (k4 b o n e)
      have dw5 : Dw K G5 (.ref p5) (.list (dueD j dx dy)) := .lst (SqL.of e5) (due_dw ((dwx k5).dw _ _ _) ((dwy k5).dw _ _ _) j)
      refine ⟨_, _, rfl, dw5, showable_fine _ (fitD j).ok, (fitD j).shown (by decide), Nat.le_trans (fitD j).deep (by decide), ?_⟩
      refine ⟨_, rfl, _, rfl, _, rfl, j, x, y, rfl, by omega, fun p6 G6 s6 e6 => ?_⟩
      have k6 : ∀ b o, b ≠ L → B b = some o → G6 b = some o := fun b o n e => s6 _ _ (k5 b o n e)
      have dw6 : Dw K G6 (.ref p6) (.list (dueD j dx dy)) := .lst (SqL.of e6) (due_dw ((dwx k6).dw _ _ _) ((dwy k6).dw _ _ _) j)
      refine ⟨_, _, rfl, dw6, showable_fine _ (fitD j).ok, (fitD j).shown (by decide), Nat.le_trans (fitD j).deep (by decide), ?_⟩
      refine ⟨rfl, _, rfl, ?_⟩
      rw [decide_eq_true rfl]
      refine iteF ?_
      have s06 := s03.trans (s5.trans s6)
      have eU6 := s06 _ _ eU
      refine ⟨_, rfl, .inl ⟨rfl, _, SqL.of eU6⟩, _, rfl, _, rfl, by show 2 ≤ sizeLine; omega, fun t ht => ?_⟩
      have s7 := same_upd ht (.tup [.int (j : Int), .ref ae])
      refine ⟨L, us, _, rfl, rfl, s7 _ _ eU6, by omega, ?_⟩
      have s07 := s06.trans s7
      have et : (upd G6 t (.tup [.int (j : Int), .ref ae])) t = some (.tup [.int (j : Int), .ref ae]) := upd_same
      generalize upd G6 t (HO.tup [.int (j : Int), .ref ae]) = G7 at s07 et ⊢
      have k7 : ∀ b o, b ≠ L → G b = some o → (upd G7 L (.lst (us ++ [.ref t]))) b = some o := fun b o n e => by
        rw [upd_ne n]
        exact s07 _ _ e
      refine ⟨fun b o n e => k7 b o n (kC b o n e), ⟨_, upd_same, ?_, ?_⟩, _, rfl⟩
      · rw [List.length_append]
        show us.length + 1 ≤ _
        omega
      · have nl : Nl G (upd G7 L (.lst (us ++ [.ref t]))) := Nl.of_but eU k7
        intro v mv
        rcases List.mem_append.mp mv with mv | mv
        · exact (hU.nl nl) v mv
        · obtain rfl : v = .ref t := by simpa using mv
          have nt : t ≠ L := fun z => by
            rw [z, s06 _ _ eU] at ht
            cases ht
          exact ⟨t, j, ae, rfl, by rw [upd_ne nt]; exact et, by omega, ErAt.same wG nl⟩
    · obtain ⟨kC, ⟨us, eU, lU, hU⟩, q7, rfl⟩ := pv
      exact ⟨fun b o n e => kC b o n (kG1 b o n e), ⟨us, eU, by have : us.length ≤ 2 * j + 2 := lU; omega, hU⟩, _, _, _, _, _, rfl⟩
  obtain ⟨kG, ⟨vs, eV, lV, hV⟩, p1, p6, p7, p8, p9, rfl⟩ := pv
  -- grown
  refine ⟨_, rfl, x, dx, F1, rfl, dwx kG, rx, Nat.lt_of_le_of_lt fx.deep (by decide), Nat.le_trans fx.few (by decide), fun G5 s5 hx5 => ?_⟩
  have hy5 : Df G5 y dy F2 := (dwy kG).keep _ _ _ (s5.keep (fun b m => (dwx kG).there _ _ _ b m) dj)
  refine ⟨_, rfl, y, dy, F2, rfl, hy5, ry, Nat.lt_of_le_of_lt fy.deep (by decide), Nat.le_trans fy.few (by decide), fun G6 s6 hy6 => ?_⟩
  have hx6 : Df G6 x (grow dx) F1 := hx5.keep _ _ _ (s6.keep (fun b m => hy5.there _ _ _ b m) fun b m1 m2 => dj b m2 m1)
  have eV6 : G6 L = some (.lst vs) := s6 _ _ L2 (s5 _ _ L1 eV)
  have hV6 : Kept K x y G6 vs := hV.nl ((Nl.of_stays (fun b m => (dwx kG).there _ _ _ b m) s5).trans (Nl.of_stays (fun b m => hy5.there _ _ _ b m) s6))
  have st6 : StAt G6 st := by
    obtain ⟨i1, i2, i3, e⟩ := stL
    exact ⟨i1, i2, i3, s6 _ _ n2 (s5 _ _ n1 (kG _ _ (Ne.symm Ls) e))⟩
  have fgD : ∀ i, Fit (2 * (3 * 66) + 1) 7 (.list (dueD i (grow dx) (grow dy))) := fun i => due_fit (grow_fit (fx : Fit 66 6 dx)) (grow_fit (fy.mono (by decide) (by decide) : Fit 66 6 dy)) i
  refine ⟨_, rfl, L, rfl, ⟨_, SqL.of eV6⟩, ?_⟩
  refine for_list (a := L) (xs := vs) (fun m σ G => Same G6 G ∧ ∃ o6 o7, σ = [some (.ref a), p1, some (.ref st), some x, some y, some (.ref L), o6, o7, p8, p9]) ⟨Same.refl _, _, _, rfl⟩ (fun m σ G _ pv => SqL.of (pv.1 _ _ eV6)) (fun m v σ G ex pv => ?_) (fun σ G pv => ?_)
  · obtain ⟨kC, q6, q7, rfl⟩ := pv
    obtain ⟨t, i, ae, rfl, et, hi, he⟩ := hV6 v (List.mem_of_getElem? ex)
    refine ⟨t, _, rfl, SqT.of (kC _ _ et), rfl, _, _, rfl, _, _, rfl, rfl, ?_⟩
    have Ki := KF i hi
    refine ⟨_, rfl, _, rfl, ae, i, x, y, rfl, hi, ErAt.le he kC, Ki, fun p7 G7 s7 e7 => ?_⟩
    have k7 := kC.trans s7
    have dw7 : Dw K G7 (.ref p7) (.list (dueD i (grow dx) (grow dy))) := .lst (SqL.of e7) (due_dw ((hx6.le k7).dw _ _ _) ((hy6.le k7).dw _ _ _) i)
    refine ⟨_, _, rfl, dw7, showable_fine _ (fgD i).ok, (fgD i).shown (by decide), Nat.le_trans (fgD i).deep (by decide), ?_⟩
    refine ⟨_, rfl, _, rfl, _, rfl, i, x, y, rfl, hi, fun p8 G8 s8 e8 => ?_⟩
    have k8 := k7.trans s8
    have dw8 : Dw K G8 (.ref p8) (.list (dueD i (grow dx) (grow dy))) := .lst (SqL.of e8) (due_dw ((hx6.le k8).dw _ _ _) ((hy6.le k8).dw _ _ _) i)
    refine ⟨_, _, rfl, dw8, showable_fine _ (fgD i).ok, (fgD i).shown (by decide), Nat.le_trans (fgD i).deep (by decide), ?_⟩
    refine ⟨rfl, _, rfl, ?_⟩
    rw [decide_eq_true rfl]
    exact iteF ⟨k8, _, _, rfl⟩
  obtain ⟨kC, q6, q7, rfl⟩ := pv
  -- families
  refine ⟨_, rfl, st, 9, rfl, st6.same kC, by decide, by decide, fun nn G7 n0 n9 t7 => ?_⟩
  refine ⟨_, _, rfl, rfl, ?_, ?_⟩
  · have n9 : nn = 0 ∨ nn = 1 ∨ nn = 2 ∨ nn = 3 ∨ nn = 4 ∨ nn = 5 ∨ nn = 6 ∨ nn = 7 ∨ nn = 8 := by omega
    rcases n9 with rfl | rfl | rfl | rfl | rfl | rfl | rfl | rfl | rfl <;> exact ⟨by decide +kernel, fun h _ => by first | exact absurd (by decide) h | decide +kernel, fun h _ => by first | exact absurd (by decide) h | decide +kernel⟩
  refine ⟨_, rfl, fun a1 H1 u1 z1 he1 => ⟨_, rfl, fun a2 H2 u2 z2 he2 => ⟨_, rfl, fun a3 H3 u3 z3 he3 => ⟨by show 3 ≤ sizeLine; omega, fun D hD => ?_⟩⟩⟩⟩
  have u4 := same_upd hD (.lst [.ref a1, .ref a2, .ref a3])
  have eD : (upd H3 D (.lst [.ref a1, .ref a2, .ref a3])) D = some (.lst [.ref a1, .ref a2, .ref a3]) := upd_same
  have f1 := he1.le (u2.trans (u3.trans u4))
  have f2 := he2.le (u3.trans u4)
  have f3 := he3.le u4
  have s7C := u1.trans (u2.trans (u3.trans u4))
  generalize upd H3 D (HO.lst [.ref a1, .ref a2, .ref a3]) = C at eD f1 f2 f3 s7C ⊢
  refine ⟨D, rfl, ⟨_, SqL.of eD⟩, fun R hR => ?_⟩
  have nDR : D ≠ R := fun z => by rw [← z, eD] at hR; cases hR
  have sR := same_upd hR (.lst [])
  refine lc_list (a := D) (xs := [.ref a1, .ref a2, .ref a3]) (fun m G => Fam R C G m) ⟨fun b o n e => sR b o e, [], upd_same, rfl, fun i v e => by simp at e⟩ (fun m G _ pv => SqL.of (pv.1 _ _ nDR eD)) (fun m e G ex pv => ?_) (fun G pv => ?_)
  · obtain ⟨ae, nm, rfl, wC, hK⟩ : ∃ (ae : Addr) (nm : Str), e = .ref ae ∧ ErAt C ae (He.ga K nm) [] ∧ Kd K nm (27 + m) := by
      match m, ex with
      | 0, ex => cases ex; exact ⟨_, _, rfl, f1, K27⟩
      | 1, ex => cases ex; exact ⟨_, _, rfl, f2, K28⟩
      | 2, ex => cases ex; exact ⟨_, _, rfl, f3, K29⟩
      | m + 3, ex => simp at ex
    have hm : m < 3 := (List.getElem?_eq_some_iff.mp ex).1
    have wG : ErAt G ae (He.ga K nm) [] := by
      obtain ⟨kk, vs, eR, _⟩ := pv
      obtain ⟨d, h1, h2⟩ := wC
      have stay : ∀ {b o}, C b = some o → G b = some o := fun {b o} e => kk b o (fun z => by rw [z, hR] at e; cases e) e
      refine ⟨d, stay h1, ?_⟩
      rcases h2 with h2 | ⟨x, e1, e2⟩
      · exact .inl h2
      · exact .inr ⟨x, e1, stay e2⟩
    refine ⟨rfl, yes_if ⟨_, rfl, ae, nm, 27 + m, [], rfl, wG, hK, fun p Gk sk hk => ?_⟩⟩
    obtain ⟨acc, e1, l1, fm⟩ := fam_step pv sk hk
    exact ⟨acc, e1, by omega, fm⟩
  · obtain ⟨kk, vs, eR, lv, hv⟩ := pv
    obtain ⟨v0, v1, v2, rfl⟩ : ∃ v0 v1 v2, vs = [v0, v1, v2] := by
      match vs, lv with
      | [v0, v1, v2], _ => exact ⟨_, _, _, rfl⟩
    have dpL : ∀ {G2}, Same G G2 → Dp K G2 (.ref R) (.list [kindsD 27, kindsD 28, kindsD 29]) := fun {G2} sg => by
      have one : ∀ i v, ([v0, v1, v2] : List V)[i]? = some v → Dp K G2 v (kindsD (27 + i)) := fun i v e => by
        obtain ⟨p, l1, l2, rfl, _, _, _, c0, c1, c2⟩ := hv i v e
        exact kinds_dp (sg _ _ c0) (by rw [if_neg (by omega)]; exact sg _ _ c1) (sg _ _ c2)
      exact .lst (SqL.of (sg _ _ eR)) (.cons (one 0 _ rfl) (.cons (one 1 _ rfl) (.cons (one 2 _ rfl) .nil)))
    refine ⟨_, rfl, ?_⟩
    refine ⟨by show 0 ≤ sizeLine; omega, fun q1 hq1 => ⟨0, rfl, by omega, fun r1 A1 sa1 ea1 => ⟨by show 2 ≤ sizeLine; omega, fun t1 ht1 => ?_⟩⟩⟩
    refine ⟨by show 0 ≤ sizeLine; omega, fun q2 hq2 => ⟨18, rfl, by omega, fun r2 A2 sa2 ea2 => ⟨by show 2 ≤ sizeLine; omega, fun t2 ht2 => ?_⟩⟩⟩
    refine ⟨by show 0 ≤ sizeLine; omega, fun q3 hq3 => ⟨20, rfl, by omega, fun r3 A3 sa3 ea3 => ⟨by show 2 ≤ sizeLine; omega, fun t3 ht3 => ⟨by show 3 ≤ sizeLine; omega, fun t4 ht4 => ?_⟩⟩⟩⟩
    have w1 := same_upd hq1 (.lst [])
    have w1' := same_upd ht1 (.lst [.ref q1, .ref r1])
    have w2 := same_upd hq2 (.lst [])
    have w2' := same_upd ht2 (.lst [.ref q2, .ref r2])
    have w3 := same_upd hq3 (.lst [])
    have w3' := same_upd ht3 (.lst [.ref q3, .ref r3])
    have w4 := same_upd ht4 (.lst [.ref t1, .ref t2, .ref t3])
    have y2 := w3.trans (sa3.trans (w3'.trans w4))
    have z2 := w2'.trans y2
    have y1 := w2.trans (sa2.trans z2)
    have dpR : Dp K (upd (upd A3 t3 (.lst [.ref q3, .ref r3])) t4 (.lst [.ref t1, .ref t2, .ref t3])) (.ref t4) (.list [kindsD 27, kindsD 28, kindsD 29]) := by
      refine .lst (SqL.of upd_same) (.cons ?_ (.cons ?_ (.cons ?_ .nil)))
      · exact kinds_dp (h := 27) (y1 _ _ upd_same) ((sa1.trans (w1'.trans y1)) _ _ upd_same) ((w1'.trans y1) _ _ ea1)
      · exact kinds_dp (h := 28) (y2 _ _ upd_same) ((sa2.trans z2) _ _ upd_same) (z2 _ _ ea2)
      · exact kinds_dp (h := 29) (w4 _ _ upd_same) ((sa3.trans (w3'.trans w4)) _ _ upd_same) ((w3'.trans w4) _ _ ea3)
    have sEnd := w1.trans (sa1.trans (w1'.trans y1))
    have dpL2 := dpL sEnd
    have lay : PyData.canLay0 (.list [kindsD 27, kindsD 28, kindsD 29]) = true := by decide +kernel
    refine ⟨_, _, dpL2, dpR, by decide +kernel, by decide +kernel, _, rfl, ?_⟩
    rw [SeqAt.eqv_refl _ lay]
    refine iteF ?_
    refine ⟨?_, _, _, _, _, _, _, _, _, _, rfl⟩
    intro b o e
    obtain ⟨n0, nL, nF1, nF2, eb⟩ := gB b o (sG b o e)
    have e7 := s7C _ _ (t7.keep n0 (kC _ _ (s6 _ _ nF2 (s5 _ _ nF1 (kG _ _ nL eb)))))
    exact sEnd _ _ (kk _ _ (fun z => by rw [z, hR] at e7; cases e7) e7)
end
end K2
/-! families of errors: checks at the head -/
namespace Gr
open PySem PySem.Spec PyProof.Rows L2
def keBase : List Value := [.type "KeyError", .type "LookupError", .type "Exception", .type "BaseException", .type "object"]
/-- what a family's line gives -/
structure FamOk (bm : List Value) (newId sB initId : String) : Prop where
  fn : ∃ nB inN bmN, ExcBaseFacts nB newId inN bmN ∧ PySem.HandSPX.LineOk nB bm
  free : ∀ e : Addr, refuseLoop (.ref e) "__setattr__" bm = pure ()
  obj : bm.contains (.type "object") = true
  start : PySem.HandSPX.StartOk sB initId
  has : bm.contains (.type sB) = true
theorem famV : FamOk He.veBase "ValueError.__new__" "ValueError" "ValueError.__init__" :=
  ⟨⟨_, _, _, F.excBase_ValueError, ⟨by decide +kernel, by decide +kernel, by decide +kernel⟩⟩, fun e => by kernel_rfl, by decide +kernel, ⟨F.excBase_ValueError.init, F.excBase_ValueError.initEntry, F.excBase_ValueError.initSplit, F.excBase_ValueError.initKind, F.excBase_ValueError.initRow, F.excBase_ValueError.noStar⟩, by decide +kernel⟩
theorem famL : FamOk leBase "LookupError.__new__" "LookupError" "LookupError.__init__" :=
  ⟨⟨_, _, _, F.excBase_LookupError, ⟨by decide +kernel, by decide +kernel, by decide +kernel⟩⟩, fun e => by kernel_rfl, by decide +kernel, ⟨F.excBase_LookupError.init, F.excBase_LookupError.initEntry, F.excBase_LookupError.initSplit, F.excBase_LookupError.initKind, F.excBase_LookupError.initRow, F.excBase_LookupError.noStar⟩, by decide +kernel⟩
theorem famK : FamOk keBase "LookupError.__new__" "KeyError" "KeyError.__init__" :=
  ⟨⟨_, _, _, F.excBase_LookupError, ⟨by decide +kernel, by decide +kernel, by decide +kernel⟩⟩, fun e => by kernel_rfl, by decide +kernel, ⟨excClass_KeyError.init, excClass_KeyError.initEntry, excClass_KeyError.initSplit, excClass_KeyError.initKind, excClass_KeyError.initSig, excClass_KeyError.notStar⟩, by decide +kernel⟩
def oexFB (bm : List Value) (newId : String) (K : PySem.W.Frag) (C : Addr) : Bool := PySem.W.excInitIn K C bm newId && (PySem.W.hasDictIn K C && (lineF bm K C && (He.eqO (PySem.W.findIn K (.ref C) "__setattr__") (some (some (.builtin "object.__setattr__"))) &&
  (decide (PySem.W.subIn K (.ref C) (.type "BaseException") = some true) && (decide (PySem.W.typeIn K (.ref C) = some (.type "type")) && PySem.W.keepIn K (.ref C))))))
theorem oexFB_ok {bm : List Value} {newId sB initId : String} {K : PySem.W.Frag} {h : Heap} {C : Addr} (M : FamOk bm newId sB initId) (X : K.In h) (c : oexFB bm newId K C = true) : MkOk K C bm newId := by
  refine ⟨M.fn, ?_⟩
  obtain ⟨c1, c⟩ := He.ba c
  obtain ⟨c2, c⟩ := He.ba c
  obtain ⟨c3, c⟩ := He.ba c
  obtain ⟨c4, c⟩ := He.ba c
  obtain ⟨c5, c⟩ := He.ba c
  obtain ⟨c6, c7⟩ := He.ba c
  obtain ⟨nm, N, qn, bs, bm2, hdct, sn, sub, ab, col, dd, k0, k1, k2, k3, k5, at_, _⟩ := PySem.W.excInit_of X c1
  have there : ∃ o, K.lookup C = some o := by
    unfold PySem.W.excInitIn at c1
    cases e : K.lookup C with
    | none => rw [e] at c1; cases c1
    | some o => exact ⟨o, rfl⟩
  obtain ⟨o, e⟩ := there
  have eo := X C o e
  rw [at_] at eo
  obtain rfl := Option.some.inj eo
  have hd : hdct = true := by
    unfold PySem.W.hasDictIn PySem.W.clsIn at c2
    rw [e] at c2
    exact c2
  subst hd
  have line : PySem.W.excTail bm bm2 = true := by
    unfold lineF at c3
    rw [e] at c3
    exact c3
  exact ⟨⟨nm, qn, N, bs, bm2, sn, sub, ab, col, dd, k0, k1, k2, k3, k5, e, line⟩, M.free, M.obj, He.eqO_ok c4, of_decide_eq_true c5, of_decide_eq_true c6, c7⟩
/-- a class with its own start -/
def ownB (C : Str) (K : PySem.W.Frag) : Bool := He.eqO (PySem.W.findIn K (.ref (He.ga K C)) "__init__") (some (some (.ref (He.ma K (He.ga K C) "__init__")))) && decide (PySem.W.typeIn K (.ref (He.ma K (He.ga K C) "__init__")) = some (.type "function"))
theorem ownB_ok {C : Str} {K : PySem.W.Frag} (c : ownB C K = true) : PySem.W.findIn K (.ref (He.ga K C)) "__init__" = some (some (.ref (He.ma K (He.ga K C) "__init__"))) ∧ PySem.W.typeIn K (.ref (He.ma K (He.ga K C) "__init__")) = some (.type "function") := by
  obtain ⟨c1, c2⟩ := He.ba c
  exact ⟨He.eqO_ok c1, of_decide_eq_true c2⟩
def noFB (C f : Str) (K : PySem.W.Frag) : Bool := He.eqO (PySem.W.findIn K (.ref (He.ga K C)) f) (some none)
/-- a class without -/
def startB (initId : String) (C : Str) (K : PySem.W.Frag) : Bool := He.eqO (PySem.W.findIn K (.ref (He.ga K C)) "__init__") (some (some (.builtin initId)))
end Gr
/-! Tables of the module with text keys: what stands in them, what doesn't. A head with tables and checks. -/
namespace Gr
open PySem PySem.Spec PyProof.Rows L2
theorem tab_not {P : Params} {z : Str} : ∀ {l : List DictEntry} {ks : List Str}, l.map He.keyOf = He.keysIn P ks → z ∉ ks → l.find? (fun e => e.key.isStr z) = none ∧ l.any (fun e => e.refKey) = false
  | [], _, _, _ => ⟨rfl, rfl⟩
  | e :: r, [], h, _ => by cases h
  | e :: r, k :: ks, h, n => by
    have h1 : He.keyOf e :: r.map He.keyOf = some (k, PyData.keyHash P k) :: He.keysIn P ks := h
    injection h1 with h2 h3
    have ih := tab_not (z := z) h3 (fun m => n (List.mem_cons_of_mem _ m))
    unfold He.keyOf at h2
    split at h2
    · rename_i x t q
      have h4 := Option.some.inj h2
      obtain ⟨h5, h6⟩ := Prod.mk.inj h4
      have ne : (x == z) = false := by
        rw [beq_eq_false_iff_ne]
        intro e2
        exact n (by rw [← e2, h5]; exact List.mem_cons_self)
      constructor
      · rw [List.find?_cons]
        have : e.key.isStr z = false := by rw [q]; exact ne
        rw [this]
        exact ih.1
      · rw [List.any_cons, ih.2, Bool.or_false]
        unfold DictEntry.refKey
        rw [q]
    · cases h2
theorem tab_absent {K : PySem.W.Frag} {w : World} {a : Addr} {ks : List Str} {z : Str} (h : He.dicW K a = some (He.keysIn w.params ks)) (n : z ∉ ks) : PySem.W.nsIn K a z = some none := by
  unfold He.dicW at h
  split at h
  · rename_i c es m sl lk
    split at h
    · have q := tab_not (z := z) (Option.some.inj h) n
      unfold PySem.W.nsIn
      rw [lk]
      dsimp only
      rw [q.1]
      dsimp only
      rw [q.2]
      all_goals rfl
    · cases h
  · cases h
def rowsB (K : PySem.W.Frag) (a : Addr) (kvs : List (Str × V)) : Bool := kvs.all fun q => match PySem.W.nsIn K a q.1 with
  | some (some u) => He.relB q.2 u
  | _ => false
theorem rowsB_ok {K : PySem.W.Frag} {a : Addr} {kvs : List (Str × V)} (h : rowsB K a kvs = true) {q : Str × V} (hq : q ∈ kvs) : ∃ u, PySem.W.nsIn K a q.1 = some (some u) ∧ RelV q.2 u := by
  have h2 := List.all_eq_true.mp h q hq
  cases e : PySem.W.nsIn K a q.1 with
  | none =>
    rw [e] at h2
    cases h2
  | some r =>
    rw [e] at h2
    cases r with
    | none => cases h2
    | some u => exact ⟨u, rfl, He.relB_ok h2⟩
/-- as hookT, one check more -/
def hookGT (n : Nat) (fa : List He.Fa) (fn : List He.DefD) (ts : List He.Tab) (more : PySem.W.Frag → Bool) : PySem.W.Hook where
  α := He.AlT × Bool
  obs := fun s => (He.obsTG n fa fn ts s.heap.get?, more (He.frG s.heap.get? (He.asD s.heap.get? n)))
  val := fun w => (He.valT fn ts w, true)
  says := fun w h => ∃ K : PySem.W.Frag, K.In h ∧ He.SaysT fa fn ts w K ∧ more K = true
  of := fun _ _ e => ⟨_, He.frG_in, congrArg Prod.fst e, congrArg Prod.snd e⟩
  keeps := fun _ _ _ ⟨K, i, c, m⟩ k => ⟨K, PySem.W.Frag.In.keeps i k, c, m⟩
def obGT (n : Nat) (fa : List He.Fa) (fn : List He.DefD) (ts : List He.Tab) (more : PySem.W.Frag → Bool) (s : PySem.W.SharedT) : He.AlT × Bool := (He.obsTG n fa fn ts (HandSHeadRun.getT s), more (He.frG (HandSHeadRun.getT s) (He.asD (HandSHeadRun.getT s) n)))
theorem obGT_eq {n : Nat} {fa : List He.Fa} {fn : List He.DefD} {ts : List He.Tab} {more : PySem.W.Frag → Bool} (s : PySem.W.SharedT) : obGT n fa fn ts more s = (hookGT n fa fn ts more).obs s.abs := by
  have e : HandSHeadRun.getT s = s.abs.heap.get? := funext (HandSHeadRun.getT_eq s)
  unfold obGT
  rw [e]
  all_goals rfl
theorem SaysT_keys {fa : List He.Fa} {fn : List He.DefD} {ts : List He.Tab} {w : World} {K : PySem.W.Frag} (c : He.SaysT fa fn ts w K) (i : Nat) {t : He.Tab} (h : ts[i]? = some t := by rfl) : He.dicW K (t.1 K) = some (He.keysIn w.params t.2) := by
  have e : ts.map (fun t => He.dicW K (t.1 K)) = ts.map fun t => some (He.keysIn w.params t.2) := congrArg (fun z : He.AlT => z.2) c
  have e2 : (ts.map fun t => He.dicW K (t.1 K))[i]? = (ts.map fun t => some (He.keysIn w.params t.2))[i]? := by rw [e]
  rw [List.getElem?_map, List.getElem?_map, h] at e2
  exact Option.some.inj e2
/-- one class under another, or not -/
def kitB (C D : Str) (v : Bool) (K : PySem.W.Frag) : Bool := decide (PySem.W.kitOne K (.ref (He.ga K C)) (.ref (He.ga K D)) = some v)
/-- a clause for D takes a C -/
def takeB (C D : Str) (K : PySem.W.Frag) : Bool := decide (PySem.W.exmOne K (.ref (He.ga K C)) (.ref (He.ga K D)) = some true)
end Gr
namespace Gr
open PySem PySem.Spec PyProof.Rows L2
/-! ### binding -/
section
variable {K : PySem.W.Frag} {x qual : Str} {params : Arguments} {body : List Stmt} {scope : Scope} {kws : List (Str × V)} {f : Addr} {fd : FuncData} {ps : List Str} {st : Stmt}
theorem fun_of (F : FunD K x qual (defArgs st) (defBody st) (defScope st) [] kws f fd) : Fun K x qual st f fd := by
  obtain ⟨oc, od, dV, kV, doc, pm, an, cdv, ct, osl, e, lk, hcd, hD, _⟩ := F.ex
  rcases hD with ⟨_, rfl⟩ | ⟨n, _⟩
  · exact ⟨⟨oc, od, kV, doc, pm, an, cdv, ct, osl, e, lk, hcd⟩, F.kp⟩
  · exact absurd rfl n
/-- called by names alone -/
theorem kbN (F : FunD K x qual params body scope [] kws f fd) (ks : List Str) (g : {α : Type} → List α → List α) (hrel : ∀ {zs : List V} {ws : List Value}, Vals zs ws → Vals (g zs) (g ws))
    (h : ∀ (kV doc pm : Value) (an : Option Addr) (cdv ct : Value) (ws : List Value), ws.length = ks.length → bindArgs (PySem.W.fnOf x qual params body scope .none kV doc pm an cdv ct) ⟨[], ks.zip ws⟩ = pure (ps.zip (g ws))) : KBn K fd ps 0 ks (fun _ ws => g ws) (fun _ zs => g zs) := by
  obtain ⟨oc, od, dV, kV, doc, pm, an, cdv, ct, osl, rfl, lk, hcd, hD, _⟩ := F.ex
  rcases hD with ⟨_, rfl⟩ | ⟨n, _⟩
  · refine ⟨fun s us ws _ l1 l2 => ?_, fun _ r => hrel r⟩
    obtain rfl : us = [] := List.eq_nil_of_length_eq_zero l1
    exact .of_eq (h kV doc pm an cdv ct ws l2)
  · exact absurd rfl n
end
section
variable {K : PySem.W.Frag} {f : Addr} {fd : FuncData}
abbrev FnD (K : PySem.W.Frag) (x : Str) (st : Stmt) (f : Addr) (fd : FuncData) : Prop := FunD K x x (defArgs st) (defBody st) (defScope st) [] [] f fd
end
end Gr
namespace K2
open PySem PySem.Spec PyProof.Rows L2 Gr
/-- a start called by names alone, behind the new one -/
theorem kbI {K : PySem.W.Frag} {x qual : Str} {params : Arguments} {body : List Stmt} {scope : Scope} {kws : List (Str × V)} {f : Addr} {fd : FuncData} {ps : List Str} (F : FunD K x qual params body scope [] kws f fd) (ks : List Str) (g : {α : Type} → List α → List α) (hrel : ∀ {zs : List V} {ws : List Value}, Vals zs ws → Vals (g zs) (g ws))
    (h : ∀ (kV doc pm : Value) (an : Option Addr) (cdv ct u : Value) (ws : List Value), ws.length = ks.length → bindArgs (PySem.W.fnOf x qual params body scope .none kV doc pm an cdv ct) ⟨[u], ks.zip ws⟩ = pure (ps.zip (u :: g ws))) : KBn K fd ps 1 ks (fun us ws => us ++ g ws) (fun vs zs => vs ++ g zs) := by
  obtain ⟨oc, od, dV, kV, doc, pm, an, cdv, ct, osl, rfl, lk, hcd, hD, _⟩ := F.ex
  rcases hD with ⟨_, rfl⟩ | ⟨n, _⟩
  · refine ⟨fun s us ws _ l1 l2 => ?_, fun q r => Vals.append q (hrel r)⟩
    obtain ⟨u, rfl⟩ : ∃ u, us = [u] := by
      match us, l1 with
      | [u], _ => exact ⟨u, rfl⟩
    exact .of_eq (h kV doc pm an cdv ct u ws l2)
  · exact absurd rfl n
def nmV : List Str := ["NoNumber", "NoName", "NoThing", "NoDeeds", "NoTests", "NoPlan", "NoSource", "NoShelf", "NoTruth"]
def nmW : List Str := ["NoList", "NoRow", "NoSpot", "NoWord", "NoLine", "NoPaper", "NoOrder", "Doubled", "NoText", "PlanError"]
def nmK : List Str := ["NotThere", "NotOpen", "Missing"]
def nmL : List Str := ["Over", "Fault", "Thrown", "TooMuch", "Waits", "NotShut", "Begun", "Barred"]
def nmI : List Str := ["NotThere", "NotOpen", "Fault", "Thrown", "TooMuch", "Waits", "NotShut", "Begun"]
def nmJ : List Str := ["NoList", "NoRow", "NoSpot", "NoWord", "NoLine", "NoPaper", "NoOrder", "Doubled", "NoText"]
def nm30 : List (Str × Nat) := ((List.range 27).map fun i => (nmOf i, i)) ++ ([("PlanError", 27), ("Missing", 28), ("Barred", 29)] : List (Str × Nat))
def kdB (x : Str) (h : Nat) (K : PySem.W.Frag) : Bool := excB K (He.ga K x) && (((List.range 27).all fun j => decide (PySem.W.kitOne K (.ref (He.ga K x)) (.ref (He.ga K (nmOf j))) = some (decide (h = j)))) &&
  (decide (PySem.W.kitOne K (.ref (He.ga K x)) (.ref (He.ga K "PlanError")) = some (abP h)) && (decide (PySem.W.kitOne K (.ref (He.ga K x)) (.ref (He.ga K "Missing")) = some (abM h)) && (decide (PySem.W.kitOne K (.ref (He.ga K x)) (.ref (He.ga K "Barred")) = some (abB h)) &&
  (decide (PySem.W.kitOne K (.ref (He.ga K x)) (.type "ValueError") = some (abP h)) && (decide (PySem.W.kitOne K (.ref (He.ga K x)) (.type "KeyError") = some (abM h)) && decide (PySem.W.kitOne K (.ref (He.ga K x)) (.type "LookupError") = some (abM h || abB h))))))))
theorem kdB_ok {x : Str} {h : Nat} {K : PySem.W.Frag} (c : kdB x h K = true) : Kd K x h := by
  obtain ⟨c0, c⟩ := He.ba c
  obtain ⟨ck, c⟩ := He.ba c
  obtain ⟨c1, c⟩ := He.ba c
  obtain ⟨c2, c⟩ := He.ba c
  obtain ⟨c3, c⟩ := He.ba c
  obtain ⟨c4, c⟩ := He.ba c
  obtain ⟨c5, c6⟩ := He.ba c
  exact ⟨excB_ok c0, fun j hj => of_decide_eq_true (List.all_eq_true.mp ck j (List.mem_range.mpr hj)), of_decide_eq_true c1, of_decide_eq_true c2, of_decide_eq_true c3, of_decide_eq_true c4, of_decide_eq_true c5, of_decide_eq_true c6⟩
def d_law_cell : He.DefD := ⟨("_law_cell", none), "_law_cell", "_law_cell", defArgs lCell, defBody lCell, defScope lCell, [], []⟩
def d_law_mix : He.DefD := ⟨("_law_mix", none), "_law_mix", "_law_mix", defArgs lMix, defBody lMix, defScope lMix, [], []⟩
def d_law_begun : He.DefD := ⟨("_law_begun", none), "_law_begun", "_law_begun", defArgs lBegun, defBody lBegun, defScope lBegun, [], []⟩
def d_law_pull : He.DefD := ⟨("_law_pull", none), "_law_pull", "_law_pull", defArgs lPull, defBody lPull, defScope lPull, [], []⟩
def d_law_any : He.DefD := ⟨("_law_any", none), "_law_any", "_law_any", defArgs lAny, defBody lAny, defScope lAny, [], []⟩
def d_law_grown : He.DefD := ⟨("_law_grown", none), "_law_grown", "_law_grown", defArgs lGrown, defBody lGrown, defScope lGrown, [], []⟩
def d_law_made : He.DefD := ⟨("_law_made", none), "_law_made", "_law_made", defArgs lMade, defBody lMade, defScope lMade, [], []⟩
def d_law_by_name : He.DefD := ⟨("_law_by_name", none), "_law_by_name", "_law_by_name", defArgs lByName, defBody lByName, defScope lByName, [], []⟩
def d_law_kinds : He.DefD := ⟨("_law_kinds", none), "_law_kinds", "_law_kinds", defArgs lKinds, defBody lKinds, defScope lKinds, [], []⟩
def d_law_above : He.DefD := ⟨("_law_above", none), "_law_above", "_law_above", defArgs lAbove, defBody lAbove, defScope lAbove, [], []⟩
def d_law_fields : He.DefD := ⟨("_law_fields", none), "_law_fields", "_law_fields", defArgs lFields, defBody lFields, defScope lFields, [], []⟩
def d_law_due : He.DefD := ⟨("_law_due", none), "_law_due", "_law_due", defArgs lDue, defBody lDue, defScope lDue, [], []⟩
def d_law : He.DefD := ⟨("law", none), "law", "law", defArgs lLaw, defBody lLaw, defScope lLaw, [], []⟩
def d_initNoNumber : He.DefD := ⟨("NoNumber", some "__init__"), "__init__", "NoNumber.__init__", defArgs (inClass (top 2) 0), defBody (inClass (top 2) 0), defScope (inClass (top 2) 0), [], []⟩
def d_initNoName : He.DefD := ⟨("NoName", some "__init__"), "__init__", "NoName.__init__", defArgs (inClass (top 3) 0), defBody (inClass (top 3) 0), defScope (inClass (top 3) 0), [], []⟩
def d_initNoThing : He.DefD := ⟨("NoThing", some "__init__"), "__init__", "NoThing.__init__", defArgs (inClass (top 4) 0), defBody (inClass (top 4) 0), defScope (inClass (top 4) 0), [], []⟩
def d_initNoDeeds : He.DefD := ⟨("NoDeeds", some "__init__"), "__init__", "NoDeeds.__init__", defArgs (inClass (top 5) 0), defBody (inClass (top 5) 0), defScope (inClass (top 5) 0), [], []⟩
def d_initNoTests : He.DefD := ⟨("NoTests", some "__init__"), "__init__", "NoTests.__init__", defArgs (inClass (top 6) 0), defBody (inClass (top 6) 0), defScope (inClass (top 6) 0), [], []⟩
def d_initNoPlan : He.DefD := ⟨("NoPlan", some "__init__"), "__init__", "NoPlan.__init__", defArgs (inClass (top 7) 0), defBody (inClass (top 7) 0), defScope (inClass (top 7) 0), [], []⟩
def d_initNoSource : He.DefD := ⟨("NoSource", some "__init__"), "__init__", "NoSource.__init__", defArgs (inClass (top 8) 0), defBody (inClass (top 8) 0), defScope (inClass (top 8) 0), [], []⟩
def d_initNoShelf : He.DefD := ⟨("NoShelf", some "__init__"), "__init__", "NoShelf.__init__", defArgs (inClass (top 9) 0), defBody (inClass (top 9) 0), defScope (inClass (top 9) 0), [], []⟩
def d_initNoTruth : He.DefD := ⟨("NoTruth", some "__init__"), "__init__", "NoTruth.__init__", defArgs (inClass (top 10) 0), defBody (inClass (top 10) 0), defScope (inClass (top 10) 0), [], []⟩
def d_initNoList : He.DefD := ⟨("NoList", some "__init__"), "__init__", "NoList.__init__", defArgs (inClass (top 11) 0), defBody (inClass (top 11) 0), defScope (inClass (top 11) 0), [], []⟩
def d_initNoRow : He.DefD := ⟨("NoRow", some "__init__"), "__init__", "NoRow.__init__", defArgs (inClass (top 12) 0), defBody (inClass (top 12) 0), defScope (inClass (top 12) 0), [], []⟩
def d_initNoSpot : He.DefD := ⟨("NoSpot", some "__init__"), "__init__", "NoSpot.__init__", defArgs (inClass (top 13) 0), defBody (inClass (top 13) 0), defScope (inClass (top 13) 0), [], []⟩
def d_initNoWord : He.DefD := ⟨("NoWord", some "__init__"), "__init__", "NoWord.__init__", defArgs (inClass (top 14) 0), defBody (inClass (top 14) 0), defScope (inClass (top 14) 0), [], []⟩
def d_initNoLine : He.DefD := ⟨("NoLine", some "__init__"), "__init__", "NoLine.__init__", defArgs (inClass (top 15) 0), defBody (inClass (top 15) 0), defScope (inClass (top 15) 0), [], []⟩
def d_initNoPaper : He.DefD := ⟨("NoPaper", some "__init__"), "__init__", "NoPaper.__init__", defArgs (inClass (top 16) 0), defBody (inClass (top 16) 0), defScope (inClass (top 16) 0), [], []⟩
def d_initNoOrder : He.DefD := ⟨("NoOrder", some "__init__"), "__init__", "NoOrder.__init__", defArgs (inClass (top 17) 0), defBody (inClass (top 17) 0), defScope (inClass (top 17) 0), [], []⟩
def d_initDoubled : He.DefD := ⟨("Doubled", some "__init__"), "__init__", "Doubled.__init__", defArgs (inClass (top 18) 0), defBody (inClass (top 18) 0), defScope (inClass (top 18) 0), [], []⟩
def d_initNoText : He.DefD := ⟨("NoText", some "__init__"), "__init__", "NoText.__init__", defArgs (inClass (top 19) 0), defBody (inClass (top 19) 0), defScope (inClass (top 19) 0), [], []⟩
def d_initNotThere : He.DefD := ⟨("NotThere", some "__init__"), "__init__", "NotThere.__init__", defArgs (inClass (top 21) 0), defBody (inClass (top 21) 0), defScope (inClass (top 21) 0), [], []⟩
def d_initNotOpen : He.DefD := ⟨("NotOpen", some "__init__"), "__init__", "NotOpen.__init__", defArgs (inClass (top 22) 0), defBody (inClass (top 22) 0), defScope (inClass (top 22) 0), [], []⟩
def d_initFault : He.DefD := ⟨("Fault", some "__init__"), "__init__", "Fault.__init__", defArgs (inClass (top 25) 0), defBody (inClass (top 25) 0), defScope (inClass (top 25) 0), [], []⟩
def d_initThrown : He.DefD := ⟨("Thrown", some "__init__"), "__init__", "Thrown.__init__", defArgs (inClass (top 26) 0), defBody (inClass (top 26) 0), defScope (inClass (top 26) 0), [], []⟩
def d_initTooMuch : He.DefD := ⟨("TooMuch", some "__init__"), "__init__", "TooMuch.__init__", defArgs (inClass (top 27) 0), defBody (inClass (top 27) 0), defScope (inClass (top 27) 0), [], []⟩
def d_initWaits : He.DefD := ⟨("Waits", some "__init__"), "__init__", "Waits.__init__", defArgs (inClass (top 28) 0), defBody (inClass (top 28) 0), defScope (inClass (top 28) 0), [], []⟩
def d_initNotShut : He.DefD := ⟨("NotShut", some "__init__"), "__init__", "NotShut.__init__", defArgs (inClass (top 29) 0), defBody (inClass (top 29) 0), defScope (inClass (top 29) 0), [], []⟩
def d_initBegun : He.DefD := ⟨("Begun", some "__init__"), "__init__", "Begun.__init__", defArgs (inClass (top 30) 0), defBody (inClass (top 30) 0), defScope (inClass (top 30) 0), [], []⟩
def fn0 : List He.DefD := [d_law_cell, d_law_mix, d_law_begun, d_law_pull, d_law_any, d_law_grown, d_law_made, d_law_by_name, d_law_kinds, d_law_above, d_law_fields, d_law_due]
def fn1 : List He.DefD := [d_law, d_initNoNumber, d_initNoName, d_initNoThing, d_initNoDeeds, d_initNoTests, d_initNoPlan, d_initNoSource, d_initNoShelf, d_initNoTruth, d_initNoList, d_initNoRow]
def fn2 : List He.DefD := [d_initNoSpot, d_initNoWord, d_initNoLine, d_initNoPaper, d_initNoOrder, d_initDoubled, d_initNoText, d_initNotThere, d_initNotOpen, d_initFault, d_initThrown, d_initTooMuch]
def fn3 : List He.DefD := [d_initWaits, d_initNotShut, d_initBegun]
def fn : List He.DefD := fn0 ++ (fn1 ++ (fn2 ++ (fn3)))
def fa0 : List He.Fa := [.glo "_law_cell", .glo "_law_mix", .glo "_law_begun", .glo "_law_pull", .glo "_law_any", .glo "_law_grown", .glo "_law_made", .glo "_law_by_name", .glo "_law_kinds", .glo "_law_above", .glo "_law_fields", .glo "_law_due"]
def fa1 : List He.Fa := [.glo "law", .glo "PlanError", .glo "NoNumber", .glo "NoName", .glo "NoThing", .glo "NoDeeds", .glo "NoTests", .glo "NoPlan", .glo "NoSource", .glo "NoShelf", .glo "NoTruth", .glo "NoList"]
def fa2 : List He.Fa := [.glo "NoRow", .glo "NoSpot", .glo "NoWord", .glo "NoLine", .glo "NoPaper", .glo "NoOrder", .glo "Doubled", .glo "NoText", .glo "Missing", .glo "NotThere", .glo "NotOpen", .glo "Barred"]
def fa3 : List He.Fa := [.glo "Over", .glo "Fault", .glo "Thrown", .glo "TooMuch", .glo "Waits", .glo "NotShut", .glo "Begun", .free "KeyError", .free "LookupError", .free "ValueError", .free "dict", .free "enumerate"]
def fa4 : List He.Fa := [.free "int", .free "isinstance", .free "len", .free "list", .free "max", .free "min", .free "range", .free "repr", .free "tuple"]
def fa : List He.Fa := fa0 ++ (fa1 ++ (fa2 ++ (fa3 ++ (fa4))))
def mV (K : PySem.W.Frag) : Bool := (nmV ++ nmW).all fun x => oexFB He.veBase "ValueError.__new__" K (He.ga K x)
def mK (K : PySem.W.Frag) : Bool := nmK.all fun x => oexFB keBase "LookupError.__new__" K (He.ga K x)
def mL (K : PySem.W.Frag) : Bool := nmL.all fun x => oexFB leBase "LookupError.__new__" K (He.ga K x)
def mO (K : PySem.W.Frag) : Bool := (nmV ++ (nmJ ++ nmI)).all fun x => ownB x K
def mS (K : PySem.W.Frag) : Bool := startB "ValueError.__init__" "PlanError" K && (startB "KeyError.__init__" "Missing" K && (startB "LookupError.__init__" "Barred" K && startB "LookupError.__init__" "Over" K))
def mF (K : PySem.W.Frag) : Bool := nms.all fun x => (("word" : Str) :: fldN).all fun f => noFB x f K
def mD (K : PySem.W.Frag) : Bool := nm30.all fun q => kdB q.1 q.2 K
def more (K : PySem.W.Frag) : Bool := mV K && (mK K && (mL K && (mO K && (mS K && (mF K && mD K)))))
theorem facts {P : Program} {w : World} {K : PySem.W.Frag} {h : Heap} {mg : Str → Option Value} {f : Addr} (X : K.In h) (G : h.Ns mainGlobals mg) (hfa : mg ("law" : Str) = some (.ref f)) (c : He.SaysD fa fn K) (cm : more K = true) :
    ∃ fd : FuncData, (∀ (s : Shared) (v : Value), BindsTo s fd ⟨[v], []⟩ [("_law_script", v)]) ∧ ∀ base : Heap, K.In base → base.Ns mainGlobals mg → FnQ P w K mg base CX0 8 f fd ["_law_script"] (spLaw K) := by
  obtain ⟨fd_law_cell, F_law_cell⟩ := c.def_ 0 (d := d_law_cell) rfl
  have F_law_cell : FnD K "_law_cell" lCell (He.ga K "_law_cell") fd_law_cell := F_law_cell
  have g_law_cell : mg "_law_cell" = some (.ref (He.ga K "_law_cell")) := He.glo_ok X G (c.fact 0 (f := .glo "_law_cell") rfl)
  have b_law_cell : Binds K fd_law_cell ["_law_script", "_law_k"] [] := F_law_cell.bindsN fun _ _ _ _ _ _ us hl => match us, hl with | [_, _], _ => rfl
  obtain ⟨fd_law_mix, F_law_mix⟩ := c.def_ 1 (d := d_law_mix) rfl
  have F_law_mix : FnD K "_law_mix" lMix (He.ga K "_law_mix") fd_law_mix := F_law_mix
  have g_law_mix : mg "_law_mix" = some (.ref (He.ga K "_law_mix")) := He.glo_ok X G (c.fact 1 (f := .glo "_law_mix") rfl)
  have b_law_mix : Binds K fd_law_mix ["_law_cell_here", "_law_k"] [] := F_law_mix.bindsN fun _ _ _ _ _ _ us hl => match us, hl with | [_, _], _ => rfl
  obtain ⟨fd_law_begun, F_law_begun⟩ := c.def_ 2 (d := d_law_begun) rfl
  have F_law_begun : FnD K "_law_begun" lBegun (He.ga K "_law_begun") fd_law_begun := F_law_begun
  have g_law_begun : mg "_law_begun" = some (.ref (He.ga K "_law_begun")) := He.glo_ok X G (c.fact 2 (f := .glo "_law_begun") rfl)
  have b_law_begun : Binds K fd_law_begun ["_law_cell_here"] [] := F_law_begun.bindsN fun _ _ _ _ _ _ us hl => match us, hl with | [_], _ => rfl
  obtain ⟨fd_law_pull, F_law_pull⟩ := c.def_ 3 (d := d_law_pull) rfl
  have F_law_pull : FnD K "_law_pull" lPull (He.ga K "_law_pull") fd_law_pull := F_law_pull
  have g_law_pull : mg "_law_pull" = some (.ref (He.ga K "_law_pull")) := He.glo_ok X G (c.fact 3 (f := .glo "_law_pull") rfl)
  have b_law_pull : Binds K fd_law_pull ["_law_state", "_law_so_many"] [] := F_law_pull.bindsN fun _ _ _ _ _ _ us hl => match us, hl with | [_, _], _ => rfl
  obtain ⟨fd_law_any, F_law_any⟩ := c.def_ 4 (d := d_law_any) rfl
  have F_law_any : FnD K "_law_any" lAny (He.ga K "_law_any") fd_law_any := F_law_any
  have g_law_any : mg "_law_any" = some (.ref (He.ga K "_law_any")) := He.glo_ok X G (c.fact 4 (f := .glo "_law_any") rfl)
  have b_law_any : Binds K fd_law_any ["_law_state", "_law_deep"] [] := F_law_any.bindsN fun _ _ _ _ _ _ us hl => match us, hl with | [_, _], _ => rfl
  obtain ⟨fd_law_grown, F_law_grown⟩ := c.def_ 5 (d := d_law_grown) rfl
  have F_law_grown : FnD K "_law_grown" lGrown (He.ga K "_law_grown") fd_law_grown := F_law_grown
  have g_law_grown : mg "_law_grown" = some (.ref (He.ga K "_law_grown")) := He.glo_ok X G (c.fact 5 (f := .glo "_law_grown") rfl)
  have b_law_grown : Binds K fd_law_grown ["_law_thing"] [] := F_law_grown.bindsN fun _ _ _ _ _ _ us hl => match us, hl with | [_], _ => rfl
  obtain ⟨fd_law_made, F_law_made⟩ := c.def_ 6 (d := d_law_made) rfl
  have F_law_made : FnD K "_law_made" lMade (He.ga K "_law_made") fd_law_made := F_law_made
  have g_law_made : mg "_law_made" = some (.ref (He.ga K "_law_made")) := He.glo_ok X G (c.fact 6 (f := .glo "_law_made") rfl)
  have b_law_made : Binds K fd_law_made ["_law_spot", "_law_one", "_law_other"] [] := F_law_made.bindsN fun _ _ _ _ _ _ us hl => match us, hl with | [_, _, _], _ => rfl
  obtain ⟨fd_law_by_name, F_law_by_name⟩ := c.def_ 7 (d := d_law_by_name) rfl
  have F_law_by_name : FnD K "_law_by_name" lByName (He.ga K "_law_by_name") fd_law_by_name := F_law_by_name
  have g_law_by_name : mg "_law_by_name" = some (.ref (He.ga K "_law_by_name")) := He.glo_ok X G (c.fact 7 (f := .glo "_law_by_name") rfl)
  have b_law_by_name : Binds K fd_law_by_name ["_law_spot", "_law_one", "_law_other"] [] := F_law_by_name.bindsN fun _ _ _ _ _ _ us hl => match us, hl with | [_, _, _], _ => rfl
  obtain ⟨fd_law_kinds, F_law_kinds⟩ := c.def_ 8 (d := d_law_kinds) rfl
  have F_law_kinds : FnD K "_law_kinds" lKinds (He.ga K "_law_kinds") fd_law_kinds := F_law_kinds
  have g_law_kinds : mg "_law_kinds" = some (.ref (He.ga K "_law_kinds")) := He.glo_ok X G (c.fact 8 (f := .glo "_law_kinds") rfl)
  have b_law_kinds : Binds K fd_law_kinds ["_law_e"] [] := F_law_kinds.bindsN fun _ _ _ _ _ _ us hl => match us, hl with | [_], _ => rfl
  obtain ⟨fd_law_above, F_law_above⟩ := c.def_ 9 (d := d_law_above) rfl
  have F_law_above : FnD K "_law_above" lAbove (He.ga K "_law_above") fd_law_above := F_law_above
  have g_law_above : mg "_law_above" = some (.ref (He.ga K "_law_above")) := He.glo_ok X G (c.fact 9 (f := .glo "_law_above") rfl)
  have b_law_above : Binds K fd_law_above ["_law_spot"] [] := F_law_above.bindsN fun _ _ _ _ _ _ us hl => match us, hl with | [_], _ => rfl
  obtain ⟨fd_law_fields, F_law_fields⟩ := c.def_ 10 (d := d_law_fields) rfl
  have F_law_fields : FnD K "_law_fields" lFields (He.ga K "_law_fields") fd_law_fields := F_law_fields
  have g_law_fields : mg "_law_fields" = some (.ref (He.ga K "_law_fields")) := He.glo_ok X G (c.fact 10 (f := .glo "_law_fields") rfl)
  have b_law_fields : Binds K fd_law_fields ["_law_e", "_law_spot"] [] := F_law_fields.bindsN fun _ _ _ _ _ _ us hl => match us, hl with | [_, _], _ => rfl
  obtain ⟨fd_law_due, F_law_due⟩ := c.def_ 11 (d := d_law_due) rfl
  have F_law_due : FnD K "_law_due" lDue (He.ga K "_law_due") fd_law_due := F_law_due
  have g_law_due : mg "_law_due" = some (.ref (He.ga K "_law_due")) := He.glo_ok X G (c.fact 11 (f := .glo "_law_due") rfl)
  have b_law_due : Binds K fd_law_due ["_law_spot", "_law_one", "_law_other"] [] := F_law_due.bindsN fun _ _ _ _ _ _ us hl => match us, hl with | [_, _, _], _ => rfl
  obtain ⟨fd_law, F_law⟩ := c.def_ 12 (d := d_law) rfl
  have F_law : FnD K "law" lLaw (He.ga K "law") fd_law := F_law
  have g_law : mg "law" = some (.ref (He.ga K "law")) := He.glo_ok X G (c.fact 12 (f := .glo "law") rfl)
  have b_law : Binds K fd_law ["_law_script"] [] := F_law.bindsN fun _ _ _ _ _ _ us hl => match us, hl with | [_], _ => rfl
  obtain ⟨fd_iNoNumber, F_iNoNumber⟩ := c.def_ 13 (d := d_initNoNumber) rfl
  have F_iNoNumber : FunD K "__init__" "NoNumber.__init__" (defArgs (inClass (top 2) 0)) (defBody (inClass (top 2) 0)) (defScope (inClass (top 2) 0)) [] [] (He.ma K (He.ga K "NoNumber") "__init__") fd_iNoNumber := F_iNoNumber
  have b_iNoNumber : Binds K fd_iNoNumber ["self", "found"] [] := F_iNoNumber.bindsN fun _ _ _ _ _ _ us hl => match us, hl with | [_, _], _ => rfl
  obtain ⟨fd_iNoName, F_iNoName⟩ := c.def_ 14 (d := d_initNoName) rfl
  have F_iNoName : FunD K "__init__" "NoName.__init__" (defArgs (inClass (top 3) 0)) (defBody (inClass (top 3) 0)) (defScope (inClass (top 3) 0)) [] [] (He.ma K (He.ga K "NoName") "__init__") fd_iNoName := F_iNoName
  have b_iNoName : Binds K fd_iNoName ["self", "found"] [] := F_iNoName.bindsN fun _ _ _ _ _ _ us hl => match us, hl with | [_, _], _ => rfl
  obtain ⟨fd_iNoThing, F_iNoThing⟩ := c.def_ 15 (d := d_initNoThing) rfl
  have F_iNoThing : FunD K "__init__" "NoThing.__init__" (defArgs (inClass (top 4) 0)) (defBody (inClass (top 4) 0)) (defScope (inClass (top 4) 0)) [] [] (He.ma K (He.ga K "NoThing") "__init__") fd_iNoThing := F_iNoThing
  have b_iNoThing : Binds K fd_iNoThing ["self", "found"] [] := F_iNoThing.bindsN fun _ _ _ _ _ _ us hl => match us, hl with | [_, _], _ => rfl
  obtain ⟨fd_iNoDeeds, F_iNoDeeds⟩ := c.def_ 16 (d := d_initNoDeeds) rfl
  have F_iNoDeeds : FunD K "__init__" "NoDeeds.__init__" (defArgs (inClass (top 5) 0)) (defBody (inClass (top 5) 0)) (defScope (inClass (top 5) 0)) [] [] (He.ma K (He.ga K "NoDeeds") "__init__") fd_iNoDeeds := F_iNoDeeds
  have b_iNoDeeds : Binds K fd_iNoDeeds ["self", "found"] [] := F_iNoDeeds.bindsN fun _ _ _ _ _ _ us hl => match us, hl with | [_, _], _ => rfl
  obtain ⟨fd_iNoTests, F_iNoTests⟩ := c.def_ 17 (d := d_initNoTests) rfl
  have F_iNoTests : FunD K "__init__" "NoTests.__init__" (defArgs (inClass (top 6) 0)) (defBody (inClass (top 6) 0)) (defScope (inClass (top 6) 0)) [] [] (He.ma K (He.ga K "NoTests") "__init__") fd_iNoTests := F_iNoTests
  have b_iNoTests : Binds K fd_iNoTests ["self", "found"] [] := F_iNoTests.bindsN fun _ _ _ _ _ _ us hl => match us, hl with | [_, _], _ => rfl
  obtain ⟨fd_iNoPlan, F_iNoPlan⟩ := c.def_ 18 (d := d_initNoPlan) rfl
  have F_iNoPlan : FunD K "__init__" "NoPlan.__init__" (defArgs (inClass (top 7) 0)) (defBody (inClass (top 7) 0)) (defScope (inClass (top 7) 0)) [] [] (He.ma K (He.ga K "NoPlan") "__init__") fd_iNoPlan := F_iNoPlan
  have b_iNoPlan : Binds K fd_iNoPlan ["self", "found"] [] := F_iNoPlan.bindsN fun _ _ _ _ _ _ us hl => match us, hl with | [_, _], _ => rfl
  obtain ⟨fd_iNoSource, F_iNoSource⟩ := c.def_ 19 (d := d_initNoSource) rfl
  have F_iNoSource : FunD K "__init__" "NoSource.__init__" (defArgs (inClass (top 8) 0)) (defBody (inClass (top 8) 0)) (defScope (inClass (top 8) 0)) [] [] (He.ma K (He.ga K "NoSource") "__init__") fd_iNoSource := F_iNoSource
  have b_iNoSource : Binds K fd_iNoSource ["self", "found"] [] := F_iNoSource.bindsN fun _ _ _ _ _ _ us hl => match us, hl with | [_, _], _ => rfl
  obtain ⟨fd_iNoShelf, F_iNoShelf⟩ := c.def_ 20 (d := d_initNoShelf) rfl
  have F_iNoShelf : FunD K "__init__" "NoShelf.__init__" (defArgs (inClass (top 9) 0)) (defBody (inClass (top 9) 0)) (defScope (inClass (top 9) 0)) [] [] (He.ma K (He.ga K "NoShelf") "__init__") fd_iNoShelf := F_iNoShelf
  have b_iNoShelf : Binds K fd_iNoShelf ["self", "found"] [] := F_iNoShelf.bindsN fun _ _ _ _ _ _ us hl => match us, hl with | [_, _], _ => rfl
  obtain ⟨fd_iNoTruth, F_iNoTruth⟩ := c.def_ 21 (d := d_initNoTruth) rfl
  have F_iNoTruth : FunD K "__init__" "NoTruth.__init__" (defArgs (inClass (top 10) 0)) (defBody (inClass (top 10) 0)) (defScope (inClass (top 10) 0)) [] [] (He.ma K (He.ga K "NoTruth") "__init__") fd_iNoTruth := F_iNoTruth
  have b_iNoTruth : Binds K fd_iNoTruth ["self", "found"] [] := F_iNoTruth.bindsN fun _ _ _ _ _ _ us hl => match us, hl with | [_, _], _ => rfl
  obtain ⟨fd_iNoList, F_iNoList⟩ := c.def_ 22 (d := d_initNoList) rfl
  have F_iNoList : FunD K "__init__" "NoList.__init__" (defArgs (inClass (top 11) 0)) (defBody (inClass (top 11) 0)) (defScope (inClass (top 11) 0)) [] [] (He.ma K (He.ga K "NoList") "__init__") fd_iNoList := F_iNoList
  have b_iNoList : Binds K fd_iNoList ["self", "found"] [] := F_iNoList.bindsN fun _ _ _ _ _ _ us hl => match us, hl with | [_, _], _ => rfl
  obtain ⟨fd_iNoRow, F_iNoRow⟩ := c.def_ 23 (d := d_initNoRow) rfl
  have F_iNoRow : FunD K "__init__" "NoRow.__init__" (defArgs (inClass (top 12) 0)) (defBody (inClass (top 12) 0)) (defScope (inClass (top 12) 0)) [] [] (He.ma K (He.ga K "NoRow") "__init__") fd_iNoRow := F_iNoRow
  have b_iNoRow : Binds K fd_iNoRow ["self", "found"] [] := F_iNoRow.bindsN fun _ _ _ _ _ _ us hl => match us, hl with | [_, _], _ => rfl
  obtain ⟨fd_iNoSpot, F_iNoSpot⟩ := c.def_ 24 (d := d_initNoSpot) rfl
  have F_iNoSpot : FunD K "__init__" "NoSpot.__init__" (defArgs (inClass (top 13) 0)) (defBody (inClass (top 13) 0)) (defScope (inClass (top 13) 0)) [] [] (He.ma K (He.ga K "NoSpot") "__init__") fd_iNoSpot := F_iNoSpot
  have b_iNoSpot : Binds K fd_iNoSpot ["self", "found"] [] := F_iNoSpot.bindsN fun _ _ _ _ _ _ us hl => match us, hl with | [_, _], _ => rfl
  obtain ⟨fd_iNoWord, F_iNoWord⟩ := c.def_ 25 (d := d_initNoWord) rfl
  have F_iNoWord : FunD K "__init__" "NoWord.__init__" (defArgs (inClass (top 14) 0)) (defBody (inClass (top 14) 0)) (defScope (inClass (top 14) 0)) [] [] (He.ma K (He.ga K "NoWord") "__init__") fd_iNoWord := F_iNoWord
  have b_iNoWord : Binds K fd_iNoWord ["self", "found"] [] := F_iNoWord.bindsN fun _ _ _ _ _ _ us hl => match us, hl with | [_, _], _ => rfl
  obtain ⟨fd_iNoLine, F_iNoLine⟩ := c.def_ 26 (d := d_initNoLine) rfl
  have F_iNoLine : FunD K "__init__" "NoLine.__init__" (defArgs (inClass (top 15) 0)) (defBody (inClass (top 15) 0)) (defScope (inClass (top 15) 0)) [] [] (He.ma K (He.ga K "NoLine") "__init__") fd_iNoLine := F_iNoLine
  have b_iNoLine : Binds K fd_iNoLine ["self", "found"] [] := F_iNoLine.bindsN fun _ _ _ _ _ _ us hl => match us, hl with | [_, _], _ => rfl
  obtain ⟨fd_iNoPaper, F_iNoPaper⟩ := c.def_ 27 (d := d_initNoPaper) rfl
  have F_iNoPaper : FunD K "__init__" "NoPaper.__init__" (defArgs (inClass (top 16) 0)) (defBody (inClass (top 16) 0)) (defScope (inClass (top 16) 0)) [] [] (He.ma K (He.ga K "NoPaper") "__init__") fd_iNoPaper := F_iNoPaper
  have b_iNoPaper : Binds K fd_iNoPaper ["self", "found"] [] := F_iNoPaper.bindsN fun _ _ _ _ _ _ us hl => match us, hl with | [_, _], _ => rfl
  obtain ⟨fd_iNoOrder, F_iNoOrder⟩ := c.def_ 28 (d := d_initNoOrder) rfl
  have F_iNoOrder : FunD K "__init__" "NoOrder.__init__" (defArgs (inClass (top 17) 0)) (defBody (inClass (top 17) 0)) (defScope (inClass (top 17) 0)) [] [] (He.ma K (He.ga K "NoOrder") "__init__") fd_iNoOrder := F_iNoOrder
  have b_iNoOrder : Binds K fd_iNoOrder ["self", "found"] [] := F_iNoOrder.bindsN fun _ _ _ _ _ _ us hl => match us, hl with | [_, _], _ => rfl
  obtain ⟨fd_iDoubled, F_iDoubled⟩ := c.def_ 29 (d := d_initDoubled) rfl
  have F_iDoubled : FunD K "__init__" "Doubled.__init__" (defArgs (inClass (top 18) 0)) (defBody (inClass (top 18) 0)) (defScope (inClass (top 18) 0)) [] [] (He.ma K (He.ga K "Doubled") "__init__") fd_iDoubled := F_iDoubled
  have b_iDoubled : Binds K fd_iDoubled ["self", "found"] [] := F_iDoubled.bindsN fun _ _ _ _ _ _ us hl => match us, hl with | [_, _], _ => rfl
  obtain ⟨fd_iNoText, F_iNoText⟩ := c.def_ 30 (d := d_initNoText) rfl
  have F_iNoText : FunD K "__init__" "NoText.__init__" (defArgs (inClass (top 19) 0)) (defBody (inClass (top 19) 0)) (defScope (inClass (top 19) 0)) [] [] (He.ma K (He.ga K "NoText") "__init__") fd_iNoText := F_iNoText
  have b_iNoText : Binds K fd_iNoText ["self", "at"] [] := F_iNoText.bindsN fun _ _ _ _ _ _ us hl => match us, hl with | [_, _], _ => rfl
  obtain ⟨fd_iNotThere, F_iNotThere⟩ := c.def_ 31 (d := d_initNotThere) rfl
  have F_iNotThere : FunD K "__init__" "NotThere.__init__" (defArgs (inClass (top 21) 0)) (defBody (inClass (top 21) 0)) (defScope (inClass (top 21) 0)) [] [] (He.ma K (He.ga K "NotThere") "__init__") fd_iNotThere := F_iNotThere
  have b_iNotThere : Binds K fd_iNotThere ["self", "found"] [] := F_iNotThere.bindsN fun _ _ _ _ _ _ us hl => match us, hl with | [_, _], _ => rfl
  obtain ⟨fd_iNotOpen, F_iNotOpen⟩ := c.def_ 32 (d := d_initNotOpen) rfl
  have F_iNotOpen : FunD K "__init__" "NotOpen.__init__" (defArgs (inClass (top 22) 0)) (defBody (inClass (top 22) 0)) (defScope (inClass (top 22) 0)) [] [] (He.ma K (He.ga K "NotOpen") "__init__") fd_iNotOpen := F_iNotOpen
  have b_iNotOpen : Binds K fd_iNotOpen ["self", "found"] [] := F_iNotOpen.bindsN fun _ _ _ _ _ _ us hl => match us, hl with | [_, _], _ => rfl
  obtain ⟨fd_iFault, F_iFault⟩ := c.def_ 33 (d := d_initFault) rfl
  have F_iFault : FunD K "__init__" "Fault.__init__" (defArgs (inClass (top 25) 0)) (defBody (inClass (top 25) 0)) (defScope (inClass (top 25) 0)) [] [] (He.ma K (He.ga K "Fault") "__init__") fd_iFault := F_iFault
  have b_iFault : Binds K fd_iFault ["self", "name", "at"] [] := F_iFault.bindsN fun _ _ _ _ _ _ us hl => match us, hl with | [_, _, _], _ => rfl
  obtain ⟨fd_iThrown, F_iThrown⟩ := c.def_ 34 (d := d_initThrown) rfl
  have F_iThrown : FunD K "__init__" "Thrown.__init__" (defArgs (inClass (top 26) 0)) (defBody (inClass (top 26) 0)) (defScope (inClass (top 26) 0)) [] [] (He.ma K (He.ga K "Thrown") "__init__") fd_iThrown := F_iThrown
  have b_iThrown : Binds K fd_iThrown ["self", "word"] [] := F_iThrown.bindsN fun _ _ _ _ _ _ us hl => match us, hl with | [_, _], _ => rfl
  obtain ⟨fd_iTooMuch, F_iTooMuch⟩ := c.def_ 35 (d := d_initTooMuch) rfl
  have F_iTooMuch : FunD K "__init__" "TooMuch.__init__" (defArgs (inClass (top 27) 0)) (defBody (inClass (top 27) 0)) (defScope (inClass (top 27) 0)) [] [] (He.ma K (He.ga K "TooMuch") "__init__") fd_iTooMuch := F_iTooMuch
  have b_iTooMuch : Binds K fd_iTooMuch ["self", "many"] [] := F_iTooMuch.bindsN fun _ _ _ _ _ _ us hl => match us, hl with | [_, _], _ => rfl
  obtain ⟨fd_iWaits, F_iWaits⟩ := c.def_ 36 (d := d_initWaits) rfl
  have F_iWaits : FunD K "__init__" "Waits.__init__" (defArgs (inClass (top 28) 0)) (defBody (inClass (top 28) 0)) (defScope (inClass (top 28) 0)) [] [] (He.ma K (He.ga K "Waits") "__init__") fd_iWaits := F_iWaits
  have b_iWaits : Binds K fd_iWaits ["self", "many"] [] := F_iWaits.bindsN fun _ _ _ _ _ _ us hl => match us, hl with | [_, _], _ => rfl
  obtain ⟨fd_iNotShut, F_iNotShut⟩ := c.def_ 37 (d := d_initNotShut) rfl
  have F_iNotShut : FunD K "__init__" "NotShut.__init__" (defArgs (inClass (top 29) 0)) (defBody (inClass (top 29) 0)) (defScope (inClass (top 29) 0)) [] [] (He.ma K (He.ga K "NotShut") "__init__") fd_iNotShut := F_iNotShut
  have b_iNotShut : Binds K fd_iNotShut ["self", "found"] [] := F_iNotShut.bindsN fun _ _ _ _ _ _ us hl => match us, hl with | [_, _], _ => rfl
  obtain ⟨fd_iBegun, F_iBegun⟩ := c.def_ 38 (d := d_initBegun) rfl
  have F_iBegun : FunD K "__init__" "Begun.__init__" (defArgs (inClass (top 30) 0)) (defBody (inClass (top 30) 0)) (defScope (inClass (top 30) 0)) [] [] (He.ma K (He.ga K "Begun") "__init__") fd_iBegun := F_iBegun
  have b_iBegun : Binds K fd_iBegun ["self", "found"] [] := F_iBegun.bindsN fun _ _ _ _ _ _ us hl => match us, hl with | [_, _], _ => rfl
  have g_PlanError : mg "PlanError" = some (.ref (He.ga K "PlanError")) := He.glo_ok X G (c.fact 13 (f := .glo "PlanError") rfl)
  have g_NoNumber : mg "NoNumber" = some (.ref (He.ga K "NoNumber")) := He.glo_ok X G (c.fact 14 (f := .glo "NoNumber") rfl)
  have g_NoName : mg "NoName" = some (.ref (He.ga K "NoName")) := He.glo_ok X G (c.fact 15 (f := .glo "NoName") rfl)
  have g_NoThing : mg "NoThing" = some (.ref (He.ga K "NoThing")) := He.glo_ok X G (c.fact 16 (f := .glo "NoThing") rfl)
  have g_NoDeeds : mg "NoDeeds" = some (.ref (He.ga K "NoDeeds")) := He.glo_ok X G (c.fact 17 (f := .glo "NoDeeds") rfl)
  have g_NoTests : mg "NoTests" = some (.ref (He.ga K "NoTests")) := He.glo_ok X G (c.fact 18 (f := .glo "NoTests") rfl)
  have g_NoPlan : mg "NoPlan" = some (.ref (He.ga K "NoPlan")) := He.glo_ok X G (c.fact 19 (f := .glo "NoPlan") rfl)
  have g_NoSource : mg "NoSource" = some (.ref (He.ga K "NoSource")) := He.glo_ok X G (c.fact 20 (f := .glo "NoSource") rfl)
  have g_NoShelf : mg "NoShelf" = some (.ref (He.ga K "NoShelf")) := He.glo_ok X G (c.fact 21 (f := .glo "NoShelf") rfl)
  have g_NoTruth : mg "NoTruth" = some (.ref (He.ga K "NoTruth")) := He.glo_ok X G (c.fact 22 (f := .glo "NoTruth") rfl)
  have g_NoList : mg "NoList" = some (.ref (He.ga K "NoList")) := He.glo_ok X G (c.fact 23 (f := .glo "NoList") rfl)
  have g_NoRow : mg "NoRow" = some (.ref (He.ga K "NoRow")) := He.glo_ok X G (c.fact 24 (f := .glo "NoRow") rfl)
  have g_NoSpot : mg "NoSpot" = some (.ref (He.ga K "NoSpot")) := He.glo_ok X G (c.fact 25 (f := .glo "NoSpot") rfl)
  have g_NoWord : mg "NoWord" = some (.ref (He.ga K "NoWord")) := He.glo_ok X G (c.fact 26 (f := .glo "NoWord") rfl)
  have g_NoLine : mg "NoLine" = some (.ref (He.ga K "NoLine")) := He.glo_ok X G (c.fact 27 (f := .glo "NoLine") rfl)
  have g_NoPaper : mg "NoPaper" = some (.ref (He.ga K "NoPaper")) := He.glo_ok X G (c.fact 28 (f := .glo "NoPaper") rfl)
  have g_NoOrder : mg "NoOrder" = some (.ref (He.ga K "NoOrder")) := He.glo_ok X G (c.fact 29 (f := .glo "NoOrder") rfl)
  have g_Doubled : mg "Doubled" = some (.ref (He.ga K "Doubled")) := He.glo_ok X G (c.fact 30 (f := .glo "Doubled") rfl)
  have g_NoText : mg "NoText" = some (.ref (He.ga K "NoText")) := He.glo_ok X G (c.fact 31 (f := .glo "NoText") rfl)
  have g_Missing : mg "Missing" = some (.ref (He.ga K "Missing")) := He.glo_ok X G (c.fact 32 (f := .glo "Missing") rfl)
  have g_NotThere : mg "NotThere" = some (.ref (He.ga K "NotThere")) := He.glo_ok X G (c.fact 33 (f := .glo "NotThere") rfl)
  have g_NotOpen : mg "NotOpen" = some (.ref (He.ga K "NotOpen")) := He.glo_ok X G (c.fact 34 (f := .glo "NotOpen") rfl)
  have g_Barred : mg "Barred" = some (.ref (He.ga K "Barred")) := He.glo_ok X G (c.fact 35 (f := .glo "Barred") rfl)
  have g_Over : mg "Over" = some (.ref (He.ga K "Over")) := He.glo_ok X G (c.fact 36 (f := .glo "Over") rfl)
  have g_Fault : mg "Fault" = some (.ref (He.ga K "Fault")) := He.glo_ok X G (c.fact 37 (f := .glo "Fault") rfl)
  have g_Thrown : mg "Thrown" = some (.ref (He.ga K "Thrown")) := He.glo_ok X G (c.fact 38 (f := .glo "Thrown") rfl)
  have g_TooMuch : mg "TooMuch" = some (.ref (He.ga K "TooMuch")) := He.glo_ok X G (c.fact 39 (f := .glo "TooMuch") rfl)
  have g_Waits : mg "Waits" = some (.ref (He.ga K "Waits")) := He.glo_ok X G (c.fact 40 (f := .glo "Waits") rfl)
  have g_NotShut : mg "NotShut" = some (.ref (He.ga K "NotShut")) := He.glo_ok X G (c.fact 41 (f := .glo "NotShut") rfl)
  have g_Begun : mg "Begun" = some (.ref (He.ga K "Begun")) := He.glo_ok X G (c.fact 42 (f := .glo "Begun") rfl)
  have m_KeyError : mg "KeyError" = none := He.free_ok X G (c.fact 43 (f := .free "KeyError") rfl)
  have m_LookupError : mg "LookupError" = none := He.free_ok X G (c.fact 44 (f := .free "LookupError") rfl)
  have m_ValueError : mg "ValueError" = none := He.free_ok X G (c.fact 45 (f := .free "ValueError") rfl)
  have m_dict : mg "dict" = none := He.free_ok X G (c.fact 46 (f := .free "dict") rfl)
  have m_enumerate : mg "enumerate" = none := He.free_ok X G (c.fact 47 (f := .free "enumerate") rfl)
  have m_int : mg "int" = none := He.free_ok X G (c.fact 48 (f := .free "int") rfl)
  have m_isinstance : mg "isinstance" = none := He.free_ok X G (c.fact 49 (f := .free "isinstance") rfl)
  have m_len : mg "len" = none := He.free_ok X G (c.fact 50 (f := .free "len") rfl)
  have m_list : mg "list" = none := He.free_ok X G (c.fact 51 (f := .free "list") rfl)
  have m_max : mg "max" = none := He.free_ok X G (c.fact 52 (f := .free "max") rfl)
  have m_min : mg "min" = none := He.free_ok X G (c.fact 53 (f := .free "min") rfl)
  have m_range : mg "range" = none := He.free_ok X G (c.fact 54 (f := .free "range") rfl)
  have m_repr : mg "repr" = none := He.free_ok X G (c.fact 55 (f := .free "repr") rfl)
  have m_tuple : mg "tuple" = none := He.free_ok X G (c.fact 56 (f := .free "tuple") rfl)
  have e := hfa.symm.trans g_law
  cases e
  obtain ⟨cV, cm⟩ := He.ba cm
  obtain ⟨cK, cm⟩ := He.ba cm
  obtain ⟨cL, cm⟩ := He.ba cm
  obtain ⟨cO, cm⟩ := He.ba cm
  obtain ⟨cS, cm⟩ := He.ba cm
  obtain ⟨cF, cD⟩ := He.ba cm
  obtain ⟨s1, cS⟩ := He.ba cS
  obtain ⟨s2, cS⟩ := He.ba cS
  obtain ⟨s3, s4⟩ := He.ba cS
  have okV : ∀ x ∈ nmV ++ nmW, MkOk K (He.ga K x) He.veBase "ValueError.__new__" := fun x hx => oexFB_ok famV X (List.all_eq_true.mp cV x hx)
  have okK : ∀ x ∈ nmK, MkOk K (He.ga K x) keBase "LookupError.__new__" := fun x hx => oexFB_ok famK X (List.all_eq_true.mp cK x hx)
  have okL : ∀ x ∈ nmL, MkOk K (He.ga K x) leBase "LookupError.__new__" := fun x hx => oexFB_ok famL X (List.all_eq_true.mp cL x hx)
  have own : ∀ x ∈ nmV ++ (nmJ ++ nmI), PySem.W.findIn K (.ref (He.ga K x)) "__init__" = some (some (.ref (He.ma K (He.ga K x) "__init__"))) ∧ PySem.W.typeIn K (.ref (He.ma K (He.ga K x) "__init__")) = some (.type "function") := fun x hx => ownB_ok (List.all_eq_true.mp cO x hx)
  have noF : ∀ x ∈ nms, ∀ f ∈ ("word" : Str) :: fldN, PySem.W.findIn K (.ref (He.ga K x)) f = some none := fun x hx f hf => He.eqO_ok (List.all_eq_true.mp (List.all_eq_true.mp cF x hx) f hf)
  have kd : ∀ q ∈ nm30, Kd K q.1 q.2 := fun q hq => kdB_ok (List.all_eq_true.mp cD q hq)
  have KD : ∀ i, i < 27 → Kd K (nmOf i) i := fun i hi => kd (nmOf i, i) (List.mem_append_left _ (List.mem_map.mpr ⟨i, List.mem_range.mpr hi, rfl⟩))
  have inN : ∀ i, i < 27 → nmOf i ∈ nms := fun i hi => by
    have z : ∀ i ∈ List.range 27, nmOf i ∈ nms := by decide +kernel
    exact z i (List.mem_range.mpr hi)
  have KF : ∀ i, i < 27 → Kf K i := fun i hi => ⟨KD i hi, fun f hf => noF _ (inN i hi) f (List.mem_cons_of_mem _ hf)⟩
  have K27 : Kd K "PlanError" 27 := kd ("PlanError", 27) (by decide +kernel)
  have K28 : Kd K "Missing" 28 := kd ("Missing", 28) (by decide +kernel)
  have K29 : Kd K "Barred" 29 := kd ("Barred", 29) (by decide +kernel)
  have EP : Err0 K mg "PlanError" := ⟨⟨_, _, _, _, okV _ (by decide +kernel), famV.start, famV.has, He.eqO_ok s1⟩, g_PlanError⟩
  have EM : Err0 K mg "Missing" := ⟨⟨_, _, _, _, okK _ (by decide +kernel), famK.start, famK.has, He.eqO_ok s2⟩, g_Missing⟩
  have EB : Err0 K mg "Barred" := ⟨⟨_, _, _, _, okL _ (by decide +kernel), famL.start, famL.has, He.eqO_ok s3⟩, g_Barred⟩
  have EO : Err0 K mg "Over" := ⟨⟨_, _, _, _, okL _ (by decide +kernel), famL.start, famL.has, He.eqO_ok s4⟩, g_Over⟩
  refine ⟨fd_law, fun s v => FunD.bindsA (ps := ["_law_script"]) F_law (fun _ _ _ _ _ _ us hl => match us, hl with | [_], _ => rfl) s [v] rfl, fun base _ _ => ?_⟩
  have eNoNumber : ∃ fdI, ErrV P w K mg base "NoNumber" "found" fdI := ⟨_, ⟨⟨_, _, okV _ (by decide +kernel)⟩, g_NoNumber, (own _ (by decide +kernel)).1, (own _ (by decide +kernel)).2, noF _ (by decide +kernel) _ (by decide +kernel), ok_iNoNumber (fun_of F_iNoNumber), b_iNoNumber, kbI F_iNoNumber ["found"] (fun l => l) (fun r => r) fun _ _ _ _ _ _ _ ws hl => match ws, hl with | [_], _ => rfl⟩⟩
  have eNoName : ∃ fdI, ErrV P w K mg base "NoName" "found" fdI := ⟨_, ⟨⟨_, _, okV _ (by decide +kernel)⟩, g_NoName, (own _ (by decide +kernel)).1, (own _ (by decide +kernel)).2, noF _ (by decide +kernel) _ (by decide +kernel), ok_iNoName (fun_of F_iNoName), b_iNoName, kbI F_iNoName ["found"] (fun l => l) (fun r => r) fun _ _ _ _ _ _ _ ws hl => match ws, hl with | [_], _ => rfl⟩⟩
  have eNoThing : ∃ fdI, ErrV P w K mg base "NoThing" "found" fdI := ⟨_, ⟨⟨_, _, okV _ (by decide +kernel)⟩, g_NoThing, (own _ (by decide +kernel)).1, (own _ (by decide +kernel)).2, noF _ (by decide +kernel) _ (by decide +kernel), ok_iNoThing (fun_of F_iNoThing), b_iNoThing, kbI F_iNoThing ["found"] (fun l => l) (fun r => r) fun _ _ _ _ _ _ _ ws hl => match ws, hl with | [_], _ => rfl⟩⟩
  have eNoDeeds : ∃ fdI, ErrV P w K mg base "NoDeeds" "found" fdI := ⟨_, ⟨⟨_, _, okV _ (by decide +kernel)⟩, g_NoDeeds, (own _ (by decide +kernel)).1, (own _ (by decide +kernel)).2, noF _ (by decide +kernel) _ (by decide +kernel), ok_iNoDeeds (fun_of F_iNoDeeds), b_iNoDeeds, kbI F_iNoDeeds ["found"] (fun l => l) (fun r => r) fun _ _ _ _ _ _ _ ws hl => match ws, hl with | [_], _ => rfl⟩⟩
  have eNoTests : ∃ fdI, ErrV P w K mg base "NoTests" "found" fdI := ⟨_, ⟨⟨_, _, okV _ (by decide +kernel)⟩, g_NoTests, (own _ (by decide +kernel)).1, (own _ (by decide +kernel)).2, noF _ (by decide +kernel) _ (by decide +kernel), ok_iNoTests (fun_of F_iNoTests), b_iNoTests, kbI F_iNoTests ["found"] (fun l => l) (fun r => r) fun _ _ _ _ _ _ _ ws hl => match ws, hl with | [_], _ => rfl⟩⟩
  have eNoPlan : ∃ fdI, ErrV P w K mg base "NoPlan" "found" fdI := ⟨_, ⟨⟨_, _, okV _ (by decide +kernel)⟩, g_NoPlan, (own _ (by decide +kernel)).1, (own _ (by decide +kernel)).2, noF _ (by decide +kernel) _ (by decide +kernel), ok_iNoPlan (fun_of F_iNoPlan), b_iNoPlan, kbI F_iNoPlan ["found"] (fun l => l) (fun r => r) fun _ _ _ _ _ _ _ ws hl => match ws, hl with | [_], _ => rfl⟩⟩
  have eNoSource : ∃ fdI, ErrV P w K mg base "NoSource" "found" fdI := ⟨_, ⟨⟨_, _, okV _ (by decide +kernel)⟩, g_NoSource, (own _ (by decide +kernel)).1, (own _ (by decide +kernel)).2, noF _ (by decide +kernel) _ (by decide +kernel), ok_iNoSource (fun_of F_iNoSource), b_iNoSource, kbI F_iNoSource ["found"] (fun l => l) (fun r => r) fun _ _ _ _ _ _ _ ws hl => match ws, hl with | [_], _ => rfl⟩⟩
  have eNoShelf : ∃ fdI, ErrV P w K mg base "NoShelf" "found" fdI := ⟨_, ⟨⟨_, _, okV _ (by decide +kernel)⟩, g_NoShelf, (own _ (by decide +kernel)).1, (own _ (by decide +kernel)).2, noF _ (by decide +kernel) _ (by decide +kernel), ok_iNoShelf (fun_of F_iNoShelf), b_iNoShelf, kbI F_iNoShelf ["found"] (fun l => l) (fun r => r) fun _ _ _ _ _ _ _ ws hl => match ws, hl with | [_], _ => rfl⟩⟩
  have eNoTruth : ∃ fdI, ErrV P w K mg base "NoTruth" "found" fdI := ⟨_, ⟨⟨_, _, okV _ (by decide +kernel)⟩, g_NoTruth, (own _ (by decide +kernel)).1, (own _ (by decide +kernel)).2, noF _ (by decide +kernel) _ (by decide +kernel), ok_iNoTruth (fun_of F_iNoTruth), b_iNoTruth, kbI F_iNoTruth ["found"] (fun l => l) (fun r => r) fun _ _ _ _ _ _ _ ws hl => match ws, hl with | [_], _ => rfl⟩⟩
  have eNoList : ∃ fdI, ErrV P w K mg base "NoList" "found" fdI := ⟨_, ⟨⟨_, _, okV _ (by decide +kernel)⟩, g_NoList, (own _ (by decide +kernel)).1, (own _ (by decide +kernel)).2, noF _ (by decide +kernel) _ (by decide +kernel), ok_iNoList (fun_of F_iNoList), b_iNoList, kbI F_iNoList ["found"] (fun l => l) (fun r => r) fun _ _ _ _ _ _ _ ws hl => match ws, hl with | [_], _ => rfl⟩⟩
  have eNoRow : ∃ fdI, ErrV P w K mg base "NoRow" "found" fdI := ⟨_, ⟨⟨_, _, okV _ (by decide +kernel)⟩, g_NoRow, (own _ (by decide +kernel)).1, (own _ (by decide +kernel)).2, noF _ (by decide +kernel) _ (by decide +kernel), ok_iNoRow (fun_of F_iNoRow), b_iNoRow, kbI F_iNoRow ["found"] (fun l => l) (fun r => r) fun _ _ _ _ _ _ _ ws hl => match ws, hl with | [_], _ => rfl⟩⟩
  have eNoSpot : ∃ fdI, ErrV P w K mg base "NoSpot" "found" fdI := ⟨_, ⟨⟨_, _, okV _ (by decide +kernel)⟩, g_NoSpot, (own _ (by decide +kernel)).1, (own _ (by decide +kernel)).2, noF _ (by decide +kernel) _ (by decide +kernel), ok_iNoSpot (fun_of F_iNoSpot), b_iNoSpot, kbI F_iNoSpot ["found"] (fun l => l) (fun r => r) fun _ _ _ _ _ _ _ ws hl => match ws, hl with | [_], _ => rfl⟩⟩
  have eNoWord : ∃ fdI, ErrV P w K mg base "NoWord" "found" fdI := ⟨_, ⟨⟨_, _, okV _ (by decide +kernel)⟩, g_NoWord, (own _ (by decide +kernel)).1, (own _ (by decide +kernel)).2, noF _ (by decide +kernel) _ (by decide +kernel), ok_iNoWord (fun_of F_iNoWord), b_iNoWord, kbI F_iNoWord ["found"] (fun l => l) (fun r => r) fun _ _ _ _ _ _ _ ws hl => match ws, hl with | [_], _ => rfl⟩⟩
  have eNoLine : ∃ fdI, ErrV P w K mg base "NoLine" "found" fdI := ⟨_, ⟨⟨_, _, okV _ (by decide +kernel)⟩, g_NoLine, (own _ (by decide +kernel)).1, (own _ (by decide +kernel)).2, noF _ (by decide +kernel) _ (by decide +kernel), ok_iNoLine (fun_of F_iNoLine), b_iNoLine, kbI F_iNoLine ["found"] (fun l => l) (fun r => r) fun _ _ _ _ _ _ _ ws hl => match ws, hl with | [_], _ => rfl⟩⟩
  have eNoPaper : ∃ fdI, ErrV P w K mg base "NoPaper" "found" fdI := ⟨_, ⟨⟨_, _, okV _ (by decide +kernel)⟩, g_NoPaper, (own _ (by decide +kernel)).1, (own _ (by decide +kernel)).2, noF _ (by decide +kernel) _ (by decide +kernel), ok_iNoPaper (fun_of F_iNoPaper), b_iNoPaper, kbI F_iNoPaper ["found"] (fun l => l) (fun r => r) fun _ _ _ _ _ _ _ ws hl => match ws, hl with | [_], _ => rfl⟩⟩
  have eNoOrder : ∃ fdI, ErrV P w K mg base "NoOrder" "found" fdI := ⟨_, ⟨⟨_, _, okV _ (by decide +kernel)⟩, g_NoOrder, (own _ (by decide +kernel)).1, (own _ (by decide +kernel)).2, noF _ (by decide +kernel) _ (by decide +kernel), ok_iNoOrder (fun_of F_iNoOrder), b_iNoOrder, kbI F_iNoOrder ["found"] (fun l => l) (fun r => r) fun _ _ _ _ _ _ _ ws hl => match ws, hl with | [_], _ => rfl⟩⟩
  have eDoubled : ∃ fdI, ErrV P w K mg base "Doubled" "found" fdI := ⟨_, ⟨⟨_, _, okV _ (by decide +kernel)⟩, g_Doubled, (own _ (by decide +kernel)).1, (own _ (by decide +kernel)).2, noF _ (by decide +kernel) _ (by decide +kernel), ok_iDoubled (fun_of F_iDoubled), b_iDoubled, kbI F_iDoubled ["found"] (fun l => l) (fun r => r) fun _ _ _ _ _ _ _ ws hl => match ws, hl with | [_], _ => rfl⟩⟩
  have eNoText : ∃ fdI, ErrV P w K mg base "NoText" "at" fdI := ⟨_, ⟨⟨_, _, okV _ (by decide +kernel)⟩, g_NoText, (own _ (by decide +kernel)).1, (own _ (by decide +kernel)).2, noF _ (by decide +kernel) _ (by decide +kernel), ok_iNoText (fun_of F_iNoText), b_iNoText, kbI F_iNoText ["at"] (fun l => l) (fun r => r) fun _ _ _ _ _ _ _ ws hl => match ws, hl with | [_], _ => rfl⟩⟩
  have eNotThere : ∃ fdI, ErrV P w K mg base "NotThere" "found" fdI := ⟨_, ⟨⟨_, _, okK _ (by decide +kernel)⟩, g_NotThere, (own _ (by decide +kernel)).1, (own _ (by decide +kernel)).2, noF _ (by decide +kernel) _ (by decide +kernel), ok_iNotThere (fun_of F_iNotThere), b_iNotThere, kbI F_iNotThere ["found"] (fun l => l) (fun r => r) fun _ _ _ _ _ _ _ ws hl => match ws, hl with | [_], _ => rfl⟩⟩
  have eNotOpen : ∃ fdI, ErrV P w K mg base "NotOpen" "found" fdI := ⟨_, ⟨⟨_, _, okK _ (by decide +kernel)⟩, g_NotOpen, (own _ (by decide +kernel)).1, (own _ (by decide +kernel)).2, noF _ (by decide +kernel) _ (by decide +kernel), ok_iNotOpen (fun_of F_iNotOpen), b_iNotOpen, kbI F_iNotOpen ["found"] (fun l => l) (fun r => r) fun _ _ _ _ _ _ _ ws hl => match ws, hl with | [_], _ => rfl⟩⟩
  have eFault : ∃ fdI, ErrW P w K mg base "Fault" "name" "at" fdI := ⟨_, ⟨⟨_, _, okL _ (by decide +kernel)⟩, g_Fault, (own _ (by decide +kernel)).1, (own _ (by decide +kernel)).2, noF _ (by decide +kernel) _ (by decide +kernel), noF _ (by decide +kernel) _ (by decide +kernel), ok_iFault (fun_of F_iFault), b_iFault, kbI F_iFault ["at", "name"] List.reverse Vals.reverse fun _ _ _ _ _ _ _ ws hl => match ws, hl with | [_, _], _ => rfl⟩⟩
  have eThrown : ∃ fdI, ErrV P w K mg base "Thrown" "word" fdI := ⟨_, ⟨⟨_, _, okL _ (by decide +kernel)⟩, g_Thrown, (own _ (by decide +kernel)).1, (own _ (by decide +kernel)).2, noF _ (by decide +kernel) _ (by decide +kernel), ok_iThrown (fun_of F_iThrown), b_iThrown, kbI F_iThrown ["word"] (fun l => l) (fun r => r) fun _ _ _ _ _ _ _ ws hl => match ws, hl with | [_], _ => rfl⟩⟩
  have eTooMuch : ∃ fdI, ErrV P w K mg base "TooMuch" "many" fdI := ⟨_, ⟨⟨_, _, okL _ (by decide +kernel)⟩, g_TooMuch, (own _ (by decide +kernel)).1, (own _ (by decide +kernel)).2, noF _ (by decide +kernel) _ (by decide +kernel), ok_iTooMuch (fun_of F_iTooMuch), b_iTooMuch, kbI F_iTooMuch ["many"] (fun l => l) (fun r => r) fun _ _ _ _ _ _ _ ws hl => match ws, hl with | [_], _ => rfl⟩⟩
  have eWaits : ∃ fdI, ErrV P w K mg base "Waits" "many" fdI := ⟨_, ⟨⟨_, _, okL _ (by decide +kernel)⟩, g_Waits, (own _ (by decide +kernel)).1, (own _ (by decide +kernel)).2, noF _ (by decide +kernel) _ (by decide +kernel), ok_iWaits (fun_of F_iWaits), b_iWaits, kbI F_iWaits ["many"] (fun l => l) (fun r => r) fun _ _ _ _ _ _ _ ws hl => match ws, hl with | [_], _ => rfl⟩⟩
  have eNotShut : ∃ fdI, ErrV P w K mg base "NotShut" "found" fdI := ⟨_, ⟨⟨_, _, okL _ (by decide +kernel)⟩, g_NotShut, (own _ (by decide +kernel)).1, (own _ (by decide +kernel)).2, noF _ (by decide +kernel) _ (by decide +kernel), ok_iNotShut (fun_of F_iNotShut), b_iNotShut, kbI F_iNotShut ["found"] (fun l => l) (fun r => r) fun _ _ _ _ _ _ _ ws hl => match ws, hl with | [_], _ => rfl⟩⟩
  have eBegun : ∃ fdI, ErrV P w K mg base "Begun" "found" fdI := ⟨_, ⟨⟨_, _, okL _ (by decide +kernel)⟩, g_Begun, (own _ (by decide +kernel)).1, (own _ (by decide +kernel)).2, noF _ (by decide +kernel) _ (by decide +kernel), ok_iBegun (fun_of F_iBegun), b_iBegun, kbI F_iBegun ["found"] (fun l => l) (fun r => r) fun _ _ _ _ _ _ _ ws hl => match ws, hl with | [_], _ => rfl⟩⟩
  have ER : Errs P w K mg base := ⟨eNoNumber, eNoName, eNoThing, eNoDeeds, eNoTests, eNoPlan, eNoSource, eNoShelf, eNoTruth, eNoList, eNoRow, eNoSpot, eNoWord, eNoLine, eNoPaper, eNoOrder, eDoubled, eNoText, eNotThere, eNotOpen, EO, eFault, eThrown, eTooMuch, eWaits, eNotShut, eBegun⟩
  have CE : Cal P w K mg base 1 "_law_cell" ["_law_script", "_law_k"] (spCell K) _ fd_law_cell := ⟨ok_cell (fun_of F_law_cell) m_len, b_law_cell, F_law_cell.kp, g_law_cell⟩
  have MI : FnOk P w K mg base CX0 1 _ fd_law_mix ["_law_cell_here", "_law_k"] spMix := ok_mix (fun_of F_law_mix)
  have BE : Cal P w K mg base 1 "_law_begun" ["_law_cell_here"] spBegun _ fd_law_begun := ⟨ok_begun (fun_of F_law_begun) m_max, b_law_begun, F_law_begun.kp, g_law_begun⟩
  have PU : Cal P w K mg base 2 "_law_pull" ["_law_state", "_law_so_many"] spPull _ fd_law_pull := ⟨ok_pull (fun_of F_law_pull) MI b_law_mix F_law_mix.kp g_law_mix, b_law_pull, F_law_pull.kp, g_law_pull⟩
  have AN : Cal P w K mg base 6 "_law_any" ["_law_state", "_law_deep"] (spAny K 4) _ fd_law_any := ⟨any_all (fun_of F_law_any) g_law_any b_law_any PU m_range m_tuple 4, b_law_any, F_law_any.kp, g_law_any⟩
  have MA : Cal P w K mg base 3 "_law_made" ["_law_spot", "_law_one", "_law_other"] (spMade K) _ fd_law_made := ⟨okMade (fun_of F_law_made) ER, b_law_made, F_law_made.kp, g_law_made⟩
  have BN : Cal P w K mg base 3 "_law_by_name" ["_law_spot", "_law_one", "_law_other"] (spMade K) _ fd_law_by_name := ⟨okByName (fun_of F_law_by_name) ER, b_law_by_name, F_law_by_name.kp, g_law_by_name⟩
  have KI : Cal P w K mg base 1 "_law_kinds" ["_law_e"] (spKinds K) _ fd_law_kinds := ⟨okKinds (fun_of F_law_kinds) ER EP EM EB m_isinstance m_enumerate m_ValueError m_KeyError m_LookupError, b_law_kinds, F_law_kinds.kp, g_law_kinds⟩
  have AB : Cal P w K mg base 1 "_law_above" ["_law_spot"] spAbove _ fd_law_above := ⟨okAbove (fun_of F_law_above), b_law_above, F_law_above.kp, g_law_above⟩
  have FI : Cal P w K mg base 1 "_law_fields" ["_law_e", "_law_spot"] (spFields K) _ fd_law_fields := ⟨okFields (fun_of F_law_fields) ER m_isinstance, b_law_fields, F_law_fields.kp, g_law_fields⟩
  have DU : Cal P w K mg base 1 "_law_due" ["_law_spot", "_law_one", "_law_other"] spDue _ fd_law_due := ⟨okDue (fun_of F_law_due) m_int, b_law_due, F_law_due.kp, g_law_due⟩
  have GO : Cal P w K mg base 7 "_law_grown" ["_law_thing"] (spGrown 7) _ fd_law_grown := ⟨grown_all (fun_of F_law_grown) g_law_grown b_law_grown m_isinstance m_dict m_tuple m_list 7, b_law_grown, F_law_grown.kp, g_law_grown⟩
  exact ok_law (fun_of F_law) CE BE AN PU MA BN KI AB FI DU GO KF K27 K28 K29 EP EM EB m_repr m_range m_len m_max m_min
end K2
namespace K2
open PySem PySem.Spec PyProof.Rows L2 Gr
abbrev R : PySem.W.OpenRow := PySem.W.OpenLaw.row PySem.Challenge.rw_greatrows_k02_refusals_apart
def loose0 : List Str := ["__name__", "PlanError", "NoNumber", "NoName", "NoThing", "NoDeeds", "NoTests", "NoPlan", "NoSource", "NoShelf", "NoTruth", "NoList"]
def loose1 : List Str := ["NoRow", "NoSpot", "NoWord", "NoLine", "NoPaper", "NoOrder", "Doubled", "NoText", "Missing", "NotThere", "NotOpen", "Barred"]
def loose2 : List Str := ["Over", "Fault", "Thrown", "TooMuch", "Waits", "NotShut", "Begun", "_law_cell", "_law_mix", "_law_begun", "_law_pull", "_law_any"]
def loose3 : List Str := ["_law_grown", "_law_made", "_law_by_name", "_law_kinds", "_law_above", "_law_fields", "_law_due"]
def loose : List Str := loose0 ++ (loose1 ++ (loose2 ++ (loose3)))
theorem run (w : World) : HandSHeadRun.RunEq R (PySem.W.view R.prog [44]) (hookG 4 fa fn more) (obG 4 fa fn more) 12000 loose w := by
  intro os
  kernel_rfl
end K2
open PySem PySem.W PySem.Calls PyProof.Rows
theorem PySem.Challenge.cw_greatrows_k02_refusals_apart_holds : PySem.Challenge.rw_greatrows_k02_refusals_apart.Holds := by
  w_on; o_law
  refine HandSHeadRun.head_any (r := OpenLaw.row PySem.Challenge.rw_greatrows_k02_refusals_apart) (q := view (OpenLaw.row PySem.Challenge.rw_greatrows_k02_refusals_apart).prog [44]) (H := Gr.hookG 4 K2.fa K2.fn K2.more) (ob := Gr.obG 4 K2.fa K2.fn K2.more) (M := 12000) (loose := K2.loose)
    (d := HandSHeadRun.topDef (OpenLaw.row PySem.Challenge.rw_greatrows_k02_refusals_apart).prog 44) (kwd := []) (fun s => Gr.obG_eq s)
    (by kernel_rfl) (fun s => by kernel_rfl) K2.run (by kernel_rfl) (by kernel_rfl) (by kernel_rfl) (by rfl) (by first | assumption | decide +kernel) (by decide +kernel) ⟨rfl, rfl, rfl, rfl, rfl, by decide +kernel⟩ ?hw ?hc
  case hw => w_witness2
  case hc =>
    refine Gr.walkQ (l := PySem.Challenge.rw_greatrows_k02_refusals_apart) (n := 63) (k := 8) (x := "_law_script") (CX := L2.CX0) rfl (by decide) (by kernel_rfl) ⟨rfl, by decide, by decide⟩ ?F (fun _ _ _ _ z => z)
    intro w mg fa h Y G hmg0
    obtain ⟨K, KX, c, cm⟩ := Y
    have hmg : mg ("law" : PySem.Str) = some (.ref fa) := by
      have e : (HandSHeadRun.topDef (OpenLaw.row PySem.Challenge.rw_greatrows_k02_refusals_apart).prog 44).name = ("law" : PySem.Str) := by kernel_rfl
      rw [← e]
      exact hmg0
    obtain ⟨fd, hb, hF⟩ := K2.facts (P := (PySem.Challenge.rw_greatrows_k02_refusals_apart).prog) (w := w) KX G hmg c cm
    exact ⟨K, fd, K2.spLaw K, KX, hb, fun H a ns hl _ hS => ⟨a, ns, rfl, hS, fun _ => rfl⟩, hF⟩
