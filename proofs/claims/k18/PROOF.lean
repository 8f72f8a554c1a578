import PyProof.Rows.All
import Wide.All
import OpenK.AllK
import Wide.FinOn
import HandS.ForMost
import HandS.WordsExc
import HandS.HeadEnd
import PyProof.ReprRoads
import HandS.Wide
import HandS.IsInst
import HandS.More
import HandS.StrMore
import PyProof.StrLawsRepr
import PyProof.FitsInt
import Flt.Len
import PyProof.EqKinds
import KE.KEqNest
import KE.KEqDict
import HandS.Iter
import HandS.ListItems
import HandS.DictTup
import HandS.Walk
import KE.KeyNested
import HandS.TupLen
import PyProof.AutoSeq1
import PyProof.EqAt
import HandS.Comp
import HandS.HotCalls
import HandS.ExcCtx
import HandS.ExcInit
import HandS.MakeKwOnly
import HandS.HeadNt
import HandS.ExcOwn
import HandS.ExcIs
import HandS.ExcField
import KE.KExcIs
import HandS.Head0
import HandS.Head1
import HandS.Head2
import HandS.HeadHook1
import HandS.HeadHook2
import KE.KExcInit
import HandS.HeadHook3
import PyProof.ExcBaseAll.LookupError
import HandS.Nested
import HandS.Call
import KE.KSuper
import HandS.HeadHook4
import HandS.Codes
import HandS.TupAny
import HandS.TupMul
import HandS.FStr
import HandS.TryOnly
import HandS.CallSlots
import HandS.Dict
import PyProof.NeKinds
import HandS.DictComp
import PySem.Challenge.RW_greatrows_k18_machines_refused
set_option Elab.async false
set_option linter.all false
set_option maxRecDepth 100000
set_option maxHeartbeats 0
/-! A def's promise where no repr is under way around the call. -/
namespace Gr
open PySem PySem.Spec PyProof.Rows L2

/-- as a promise, but asked only where nothing is being shown around it -/
structure FnQ (P : Program) (w : World) (K : PySem.W.Frag) (mg : Str → Option Value) (base : Heap) (CX : CXT) (k : Nat) (f : Addr) (fd : FuncData) (ps : List Str) (sp : Sp) : Prop where
  arity : ∀ vs H Q E, sp vs H Q E → vs.length = ps.length
  goes : ∀ (A : Around) (out : List Env) (s : Shared) (H : Hp) (as : Args) (us : List Value) (vs : List V) (Q : VK) (E : XK),
    A.guards = some [] → Room k A → Env0 P w K mg base A out s H → BindsTo s fd as (ps.zip us) → Vals vs us → sp vs H Q E →
    codeAny (model P w) A (.call (.ref f) as) (CR CX out P w H s Q E) s

theorem FnQ.of {P : Program} {w : World} {K : PySem.W.Frag} {mg : Str → Option Value} {base : Heap} {CX : CXT} {k : Nat} {f : Addr} {fd : FuncData} {ps : List Str} {sp : Sp}
    (F : FnOk P w K mg base CX k f fd ps sp) : FnQ P w K mg base CX k f fd ps sp :=
  ⟨F.len, fun A out s H as us vs Q E _ => F.run A out s H as us vs Q E⟩

theorem guards_in {A : Around} {env : Env} (h : A.guards = some []) : (A.deeper env).guards = some [] := by
  first
    | exact h
    | simpa [Around.deeper] using h

/-- a def by its body -/
theorem q_of {CX : CXT} {P : Program} {w : World} {K : PySem.W.Frag} {mg : Str → Option Value} {base : Heap} {k : Nat} {f : Addr} {name qual : Str} {params : Arguments} {body : List Stmt} {sc : Scope} {dV kV doc pm cdv ct oc : Value} {an od : Option Addr}
    {osl : Array (Option Value)} {N ps : List Str} {sp : Sp}
    (lk : K.lookup f = some ⟨oc, od, .func (PySem.W.fnOf name qual params body sc dV kV doc pm an cdv ct), osl⟩) (hcd : PySem.W.codeIn K cdv qual = true) (S : FnScope N ps sc)
    (ar : ∀ vs H Q E, sp vs H Q E → vs.length = ps.length)
    (hb : ∀ (A : Around) (out : List Env) (s : Shared) (H : Hp) (vs : List V) (Q : VK) (E : XK), A.guards = some [] → Room k (A.deeper (envOfC qual sc s.heap.objs.size f cdv)) → sp vs H Q E →
      ∃ t, PSs (cxOf CX P w K mg base N qual sc f cdv A out s H E) body t ∧ t { nx := fun _ G => Q .non G, rt := Q } (start N vs) H) :
    FnQ P w K mg base CX (k + 1) f (PySem.W.fnOf name qual params body sc dV kV doc pm an cdv ct) ps sp := by
  refine ⟨ar, ?_⟩
  intro A out s H as us vs Q E hg hr e0 bind rel pre
  have same : ∀ b o, base.get? b = some o → s.heap.get? b = some o := fun b o e => (e0.bs b o e).1
  have kinds : ∀ y ∈ ps.zip us, sc.names.lookup y.1 = some .local ∨ (sc.names.lookup y.1 = some .cell ∧ ((cellsFrom (s.heap.objs.size + 1) sc.names []).lookup y.1).isSome = true) := by
    rintro ⟨n, v⟩ hy
    cases S.par n (List.of_mem_zip hy).1 with
    | inl q => exact .inl q
    | inr q => exact .inr ⟨q, PySem.W.cellsFrom_some _ _ _ (.inl q)⟩
  refine codeAny_call_function hr.depth (e0.mod.kin.keeps same _ _ lk) rfl S.co S.gen rfl (PySem.W.codeRec_of (e0.mod.kin.keeps same) hcd) (bind _ _ _ _ ?_)
  refine wpAny_newFunctionEnv_cells S.kind kinds fun env he s1 x => ?_
  subst he
  refine ⟨(e0.mod.nolimit.keeps same).keeps x.toInCall.keep, codeAny_func ?_⟩
  obtain ⟨t, ht, hq⟩ := hb A out s H vs Q E hg (hr.deeper _) pre
  have I0 := inv_start (CX := CX) (K := K) (mg := mg) (base := base) (E := E) S hr.hd e0 (ar _ _ _ _ pre) rel x
  refine wpAny_mono (ht.run [] s1 (start N vs) H _ I0 hq) ?_ fun e s' z => z
  intro fl s' z
  match fl, z with
  | .ret u, ⟨v, τ, G, J, r, q⟩ => exact ⟨v, G, J.os, J.bare, J.base, J.hok, r, q⟩
  | .next, ⟨τ, G, J, q⟩ => exact ⟨.non, G, J.os, J.bare, J.base, J.hok, rfl, q⟩
  | .brk, ⟨_, _, _, q⟩ => exact q.elim
  | .cont, ⟨_, _, _, q⟩ => exact q.elim

/-- a def of the text, no exception leaves it -/
theorem fun_q {P : Program} {w : World} {K : PySem.W.Frag} {mg : Str → Option Value} {base : Heap} {x qual : Str} {st : Stmt} {f : Addr} {fd : FuncData} {N ps : List Str} {k : Nat} {sp : Sp}
    (F : Fun K x qual st f fd) (S : FnScope N ps (defScope st)) (ar : ∀ vs H Q E, sp vs H Q E → vs.length = ps.length)
    (hb : ∀ (cdv : Value) (A : Around) (out : List Env) (s : Shared) (H : Hp) (vs : List V) (Q : VK) (E : XK), A.guards = some [] → Room k (A.deeper (envOfC qual (defScope st) s.heap.objs.size f cdv)) → sp vs H Q E →
      ∃ t, PSs (cxOf CX0 P w K mg base N qual (defScope st) f cdv A out s H E).nox (defBody st) t ∧ t { nx := fun _ G => Q .non G, rt := Q } (start N vs) H) :
    FnQ P w K mg base CX0 (k + 1) f fd ps sp := by
  obtain ⟨oc, od, kV, doc, pm, an, cdv, ct, osl, rfl, lk, hcd⟩ := F.ex
  refine q_of lk hcd S ar ?_
  intro A out s H vs Q E hg hr pre
  obtain ⟨t, h, q⟩ := hb cdv A out s H vs Q E hg hr pre
  exact ⟨t, h.nox, q⟩

section
variable {X : Cx} {CX : CXT} {k : Nat} {f : Addr} {fd : FuncData} {ps : List Str} {sp : Sp} {dvs : List V} {ds : List Value} {E : XK} {x : Str} {p pos : Pos} {e : Expr} {es : List Expr} {t : TA}
/-- f(e, ..) for such a def -/
theorem pe_callQ (F : FnQ X.prog X.w X.K X.mg X.base CX k f fd ps sp) (hg : X.A.guards = some []) (hr : Room k X.A) (gl : Gl X x) (hm : X.mg x = some (.ref f)) (hk : PySem.W.keepIn X.K (.ref f) = true) (hb : Binds X.K fd ps ds) (hd : Vals dvs ds) (hx : Passes CX X E)
    (ha : PA X (e :: es) t) (hdb : (x == ("__debug__" : Str)) = false := by decide) (he : starEach (e :: es) X.env = (false, eval e X.env) :: starEach es X.env := by rfl) (hpl : (backTo pos (starEach es X.env)).any (·.1) = false := by rfl) :
    PE X (.Call (.Name x p) (e :: es) [] pos) (tCall sp dvs E t) := by
  constructor
  intro pins s σ H Q I h
  refine wpAny_Call_Name_kw (ld_glob I gl hm ?_ hdb)
  refine PySem.W.callWith_K (h₀ := X.base) I.ok.mod.kin hk (thn (ha.run pos pins s σ H _ I h) ?_) he hpl
  rintro us s1 ⟨vs, H1, J, r, q⟩
  refine ⟨J.kIn, ?_⟩
  have rr : Vals (vs ++ dvs) (us ++ ds) := r.append hd
  have hl : (us ++ ds).length = ps.length := rr.length.symm.trans (F.arity _ _ _ _ q)
  refine wpAny_call (codeAny_mono (F.goes X.A X.stack s1 H1 ⟨us, []⟩ (us ++ ds) (vs ++ dvs) Q E hg hr J.env0 (hb s1 us J.kIn hl) rr q) ?_)
  intro res s' z
  match res, z with
  | .error ex, z => exact hx pins σ H1 s1 ex s' J z
  | .ok (.ret u), z => exact J.after z
  | .ok .next, z => exact z.elim
  | .ok .brk, z => exact z.elim
  | .ok .cont, z => exact z.elim
end

/-- from an abstract heap that tracks the script at most -/
theorem law_core {P : Program} {w : World} {K : PySem.W.Frag} {mg mb : Str → Option Value} {CX : CXT} {k : Nat} {fa a : Addr} {fd : FuncData} {x : Str} {sp : Sp} {s₁ : Shared} {vs : List Value}
    (KX : K.In s₁.heap) (hns : s₁.heap.Ns mainGlobals mg) (hb : s₁.heap.Ns builtinsNs mb) (hbb : ∀ x : Str, x ≠ "__name__" → mb x = bootBuiltins x) (hlim : s₁.heap.NoLimit) (gens : s₁.gens = #[])
    (ha : s₁.heap.get? a = some { cls := .type "list", data := .seq vs.toArray }) (room : Room k callerA)
    (F : ∀ base : Heap, K.In base → base.Ns mainGlobals mg → FnQ P w K mg base CX k fa fd [x] sp) (bind : ∀ (s : Shared) (u : Value), BindsTo s fd ⟨[u], []⟩ [(x, u)])
    (hCX : ∀ H e s', CX [] H s₁ (fun _ _ _ => False) e s' → False)
    (H : Hp) (only : Only H) (hok : HOk P w H s₁.heap) (at_ : ∀ b, H b ≠ none → b = a) (nk : H a ≠ none → K.lookup a = none)
    (pre : sp [.ref a] H (fun v _ => v = .bl true) fun _ _ _ => False) :
    codeAny (model P w) callerA (.call (.ref fa) ⟨[.ref a], []⟩) (fun r s' => r = .ok (.ret (.bool true)) ∧ OldK s₁.heap s'.heap ∧ s'.os = s₁.os ∧ AllBare s'.gens) s₁ := by
  have dictFree : ∀ (b : Addr) (o : Obj) (es : Array DictEntry) (ep : Nat), s₁.heap.get? b = some o → o.data = .dict es ep → H b = none := by
    intro b o es ep e d
    refine Classical.byContradiction fun nn => ?_
    have eb := at_ b nn
    rw [eb, ha] at e
    rw [← Option.some.inj e] at d
    exact nomatch d
  have nsB : ∀ (b : Addr) (m : Str → Option Value), s₁.heap.Ns b m → (hidT s₁.heap H).Ns b m := by
    rintro b m ⟨o, es, ep, e, d, r⟩
    exact ⟨o, es, ep, hidT_get e (dictFree b o es ep e d), d, r⟩
  have kB : K.In (hidT s₁.heap H) := by
    intro b o e
    refine hidT_get (KX b o e) (Classical.byContradiction fun nn => ?_)
    have eb := at_ b nn
    rw [eb] at nn e
    rw [nk nn] at e
    exact nomatch e
  obtain ⟨mc, l1, l2⟩ := hlim
  have md : Mod K mg (hidT s₁.heap H) := ⟨kB, nsB _ _ hns, ⟨mb, nsB _ _ hb, hbb⟩, ⟨mc, nsB _ _ l1, l2⟩⟩
  have e0 : Env0 P w K mg (hidT s₁.heap H) callerA [] s₁ H := by
    refine ⟨rfl, md, fun b o e => of_hidT e, Nat.le_of_eq (hidT_size _ _), trivial, ?_, hok, .of_eq gens⟩
    intro b z
    exact absurd (show b ∈ ([] : List Addr) from z) (by simp)
  refine codeAny_mono ((F _ kB (nsB _ _ hns)).goes callerA [] s₁ H ⟨[.ref a], []⟩ [.ref a] [.ref a] _ _ rfl room e0 (bind s₁ (.ref a)) (.cons rfl .nil) pre) ?_
  intro res s' z
  match res, z with
  | .error e, z => exact (hCX H e s' z).elim
  | .ok .next, z => exact z.elim
  | .ok .brk, z => exact z.elim
  | .ok .cont, z => exact z.elim
  | .ok (.ret u), ⟨v, G, os, bare, un, hokG, r, q⟩ =>
    have qv : v = .bl true := q
    rw [qv] at r
    obtain rfl : u = Value.bool true := r
    refine ⟨rfl, OldK.of_keep ?_, os, bare⟩
    intro b o e
    cases hb0 : H b with
    | none => exact un.keep b o e hb0 (by intro z; exact absurd (show b ∈ ([] : List Addr) from z) (by simp)) (by simp)
    | some u =>
      rcases only b with z | ⟨ob, xs, z⟩
      · rw [hb0] at z
        exact nomatch z
      · have o1 := (hok b _ z).1
        have o2 := (hokG b _ (un.frzs b ob _ z)).1
        rw [e] at o1
        rw [Option.some.inj o1]
        exact o2

/-- a law's end over a head by facts, its def a FnQ -/
theorem walkQ {l : PySem.W.OpenLaw} {n k : Nat} {q : Program} {loose : List Str} {XP : (Str → Option Value) → Heap → Prop} {YP : World → Heap → Prop} {d : DefRec} {CX : CXT} {x : Str}
    (hn : l.most = some n) (hn2 : n ≤ sizeLine) (hdf : d.params.defaults = []) (room : Room k callerA)
    (F : ∀ (w : World) (mg : Str → Option Value) (fa : Addr) (h : Heap), YP w h → h.Ns mainGlobals mg → mg d.name = some (.ref fa) →
      ∃ (K : PySem.W.Frag) (fd : FuncData) (sp : Sp), K.In h ∧ (∀ (s : Shared) (u : Value), BindsTo s fd ⟨[u], []⟩ [(x, u)]) ∧
        (∀ (H : Hp) (a : Addr) (ns : List Int), ns.length ≤ n → Only H → SqL K H a (ns.map V.int) → sp [.ref a] H (fun v _ => v = .bl true) fun _ _ _ => False) ∧
        ∀ base : Heap, K.In base → base.Ns mainGlobals mg → FnQ l.prog w K mg base CX k fa fd [x] sp)
    (hCX : ∀ (H : Hp) (s : Shared) (e : Value) (s' : Shared), CX [] H s (fun _ _ _ => False) e s' → False) :
    PySem.W.WalkO q loose XP YP l.row.toRowW d [] (fun f vs => PySem.call f vs) := by
  refine Att.attach_call hn hdf ?_
  intro w s₀ s₁ mg mb fa o pm cd doc a vs ns G Y ho hd hcd hmg hobj hints hlen hg
  obtain ⟨K, fd, sp, KX, bind, pre, hF⟩ := F w mg fa _ Y G.T.g hmg
  have rel := vals_ints hints
  have len := hints.length
  have small : (ns.map V.int).length ≤ sizeLine := by rw [List.length_map]; exact Nat.le_trans hlen hn2
  have go := law_core KX G.T.g G.T.b G.T.builtins G.T.nolimit hg hobj room hF bind fun H e s' => hCX H s₁ e s'
  cases hk : K.lookup a with
  | some ob =>
    have eo := KX a ob hk
    rw [hobj] at eo
    have eo' := Option.some.inj eo
    subst eo'
    have nothing : ∀ b : Addr, (fun _ => none : Hp) b = none := fun _ => rfl
    refine go (fun _ => none) (fun _ => .inl rfl) (fun b u z => nomatch (show (none : Option HO) = some u from z)) (fun b z => absurd (nothing b) z) (fun z => absurd (nothing a) z) ?_
    refine pre _ a ns hlen (fun _ => .inl rfl) (.inr ⟨_, vs.toArray, _, hk, rfl, rfl, rfl, ?_, by simpa using rel⟩)
    rw [List.size_toArray, len]
    exact Nat.le_trans hlen hn2
  | none =>
    let frz : HO := .frz { cls := .type "list", data := .seq vs.toArray } (.lst (ns.map V.int))
    let H : Hp := upd (fun _ => none) a frz
    have ha : H a = some frz := upd_same
    have hne : ∀ b, b ≠ a → H b = none := fun b z => upd_ne z
    have only : Only H := fun b => by
      by_cases z : b = a
      · exact .inr ⟨_, _, by rw [z]; exact ha⟩
      · exact .inl (hne b z)
    refine go H only ?_ (fun b z => Classical.byContradiction fun nn => z (hne b nn)) (fun _ => hk) (pre H a ns hlen only (.inl (.inr ⟨_, ha⟩)))
    intro b u z
    by_cases eb : b = a
    · rw [eb] at z ⊢
      rw [ha] at z
      rw [← Option.some.inj z]
      exact ⟨hobj, small, vs, _, rel, hobj⟩
    · rw [hne b eb] at z
      exact nomatch z
end Gr
/-! repr of data that is tracked: None, truths, ints, texts, lists, tuples, dicts of one text key. -/
namespace Gr
open PySem PySem.Spec PyProof.Rows L2

mutual
/-- the value reads as a datum -/
inductive Dq (K : PySem.W.Frag) (H : Hp) : V → PyData → Prop
  | non : Dq K H .non .none
  | bl (b : Bool) : Dq K H (.bl b) (.bool b)
  | int (i : Int) : Dq K H (.int i) (.int i)
  | str (x : Str) : Dq K H (.str x) (.str x)
  | lst {a : Addr} {xs : List V} {ds : List PyData} : SqL K H a xs → DqAll K H xs ds → Dq K H (.ref a) (.list ds)
  | tup {a : Addr} {xs : List V} {ds : List PyData} : SqT K H a xs → DqAll K H xs ds → Dq K H (.ref a) (.tuple ds)
  | dic {a : Addr} {x : Str} {v : V} {d : PyData} : H a = some (.dK [(Sum.inr x, v)]) → Dq K H v d → Dq K H (.ref a) (.dict [(.str x, d)])
inductive DqAll (K : PySem.W.Frag) (H : Hp) : List V → List PyData → Prop
  | nil : DqAll K H [] []
  | cons {v : V} {vs : List V} {d : PyData} {ds : List PyData} : Dq K H v d → DqAll K H vs ds → DqAll K H (v :: vs) (d :: ds)
end

theorem same_seqT {K : PySem.W.Frag} {H G : Hp} {a : Addr} {xs : List V} (e : Same H G) (h : SqT K H a xs) : SqT K G a xs := by
  rcases h with (h | ⟨o, h⟩) | h
  · exact .inl (.inl (e _ _ h))
  · exact .inl (.inr ⟨o, e _ _ h⟩)
  · exact .inr h

mutual
theorem Dq.same {K : PySem.W.Frag} {H G : Hp} (e : Same H G) : ∀ (d : PyData) (v : V), Dq K H v d → Dq K G v d
  | .none, _, h => by cases h; exact .non
  | .bool b, _, h => by cases h; exact .bl b
  | .int i, _, h => by cases h; exact .int i
  | .str x, _, h => by cases h; exact .str x
  | .list ds, _, h => by
    cases h with
    | lst hs ha => exact .lst (e.seq hs) (DqAll.same e ds _ ha)
  | .tuple ds, _, h => by
    cases h with
    | tup hs ha => exact .tup (same_seqT e hs) (DqAll.same e ds _ ha)
  | .dict kvs, _, h => by
    cases h with
    | dic hd hv => exact .dic (e _ _ hd) (Dq.same e _ _ hv)
theorem DqAll.same {K : PySem.W.Frag} {H G : Hp} (e : Same H G) : ∀ (ds : List PyData) (vs : List V), DqAll K H vs ds → DqAll K G vs ds
  | [], _, h => by cases h; exact .nil
  | d :: ds, _, h => by
    cases h with
    | cons h1 h2 => exact .cons (Dq.same e d _ h1) (DqAll.same e ds _ h2)
end

theorem DqAll.len {K : PySem.W.Frag} {H : Hp} : ∀ {ds : List PyData} {vs : List V}, DqAll K H vs ds → vs.length = ds.length
  | _, _, .nil => rfl
  | _, _, .cons _ h => by rw [List.length_cons, List.length_cons, h.len]

section
variable {X : Cx} {pins : List (Addr × Obj)} {σ : L2.St} {H : Hp} {s : Shared}
/-- one text key: the dict's object, its entries' texts -/
theorem dic_shows {a : Addr} {x : Str} {v : V} {d : PyData} (I : Inv X pins σ H s) (hd : H a = some (.dK [(Sum.inr x, v)]))
    (ih : ∀ u, RelV v u → ∃ as bs, Reads s.heap u d as ∧ ReadAtMost s.heap d.depth bs ∧ ReprK X.prog X.w bs s.heap d.depth u d.shown)
    (zk : (PyData.shown (.str x)).length ≤ sizeLine) :
    ∃ (o : Obj) (l : List DictEntry) (n : Nat) (as bs : List Addr), s.heap.get? a = some o ∧ o.cls = .type "dict" ∧ o.data = .dict ⟨l⟩ n ∧ (a == sysModules) = false ∧
      Reads s.heap (.ref a) (.dict [(.str x, d)]) as ∧ ReadAtMost s.heap d.depth bs ∧ a ∉ bs ∧
      ReprEntriesK X.prog X.w bs s.heap d.depth l (PyData.shownKv [(.str x, d)]) := by
  obtain ⟨_, sys, vs, rel, o, es, ep, ho, hx, hes, hko, hp, nd⟩ := dk_of I.hok hd
  obtain ⟨l⟩ := es
  cases rel with
  | @cons _ q _ _ r1 rt =>
    cases rt
    obtain ⟨e1, rv⟩ := r1
    obtain ⟨qk, qv⟩ := q
    dsimp only at e1 rv
    subst e1
    have hp' : Pairs (mixKind X.prog X.w) l [(Sum.inr x, qv)] := hp
    cases hp' with
    | @cons e0 _ es' _ hk hv0 ht =>
      cases ht
      dsimp only at hv0 hk
      obtain ⟨t, ek⟩ := Value.isStrOf_shape (x := x) (v := e0.key) hk
      obtain ⟨as, bs, hr, hb, hkk⟩ := ih qv rv
      have rk : ReprK X.prog X.w bs s.heap d.depth e0.key (PyData.shown (.str x)) := by
        rw [ek]
        simp only [PyData.shown]
        exact .of_is (ReprIs.str x t (by simpa only [PyData.shown] using zk)) _ _ _
      have r1 : ReadsAll s.heap ([e0].map (·.key)) ([((.str x : PyData), d)].map (·.1)) ([] ++ []) := by
        simp only [List.map_cons, List.map_nil]
        rw [ek]
        exact .cons (Reads.str x t) .nil
      have r2 : ReadsAll s.heap ([e0].map (·.val)) ([((.str x : PyData), d)].map (·.2)) (as ++ []) := by
        simp only [List.map_cons, List.map_nil]
        rw [hv0]
        exact .cons hr .nil
      have rd : Reads s.heap (.ref a) (.dict [(.str x, d)]) _ := Reads.dict ho hx.1 hes r1 r2
      have dk : PyData.depthKv [((.str x : PyData), d)] = d.depth := by simp [PyData.depthKv, PyData.depth]
      have out := not_mem_of_deeper rd (n := d.depth) (by simp only [PyData.depth, dk]; omega) hb
      refine ⟨o, _, ep, _, bs, ho, hx.1, hes, sys, rd, hb, out, ?_⟩
      simp only [PyData.shownKv]
      refine .cons ?_ ?_ .nil
      · simpa only [PyData.shown] using rk
      · rw [hv0]
        exact hkk
theorem dic_parts {x : Str} {d : PyData} (hs : (PyData.dict [(.str x, d)]).showable = true) (hz : (PyData.dict [(.str x, d)]).shown.length ≤ sizeLine) :
    d.showable = true ∧ d.shown.length ≤ sizeLine ∧ (PyData.shown (.str x)).length ≤ sizeLine ∧ PyData.depth (.dict [(.str x, d)]) = d.depth + 1 := by
  have z1 : (dictText (PyData.shownKv [(.str x, d)])).length ≤ sizeLine := by simpa only [PyData.shown] using hz
  refine ⟨?_, ?_, ?_, by simp [PyData.depth, PyData.depthKv]⟩
  · have h1 : PyData.showableKv [(.str x, d)] = true := by simpa only [PyData.showable] using hs
    simp only [PyData.showableKv, PyData.showable, Bool.true_and, Bool.and_true] at h1
    exact h1
  · obtain ⟨p, hp1, hp2⟩ := PyData.shownKv_val_le [(.str x, d)] d.shown (by simp only [List.map_cons, List.map_nil, PyData.shownAll]; exact List.mem_cons_self ..)
    exact Nat.le_trans hp2 (Nat.le_trans (dictText_mem_le hp1) z1)
  · obtain ⟨p, hp1, hp2⟩ := PyData.shownKv_key_le [(.str x, d)] (PyData.shown (.str x)) (by simp only [List.map_cons, List.map_nil, PyData.shownAll]; exact List.mem_cons_self ..)
    exact Nat.le_trans hp2 (Nat.le_trans (dictText_mem_le hp1) z1)
mutual
/-- what a datum's text leans on -/
theorem Dq.shows (I : Inv X pins σ H s) : ∀ (d : PyData) (v : V) (u : Value), Dq X.K H v d → RelV v u → d.showable = true → d.shown.length ≤ sizeLine →
    ∃ as bs, Reads s.heap u d as ∧ ReadAtMost s.heap d.depth bs ∧ ReprK X.prog X.w bs s.heap d.depth u d.shown
  | .none, _, _, h, r, _, _ => by
    cases h
    cases r
    exact ⟨_, [], Reads.none, (fun _ z => nomatch z), by simp only [PyData.shown]; exact .of_is ReprIs.none _ _ _⟩
  | .bool b, _, _, h, r, _, _ => by
    cases h
    cases r
    exact ⟨_, [], Reads.bool b, (fun _ z => nomatch z), by simp only [PyData.shown]; exact .of_is (ReprIs.bool b) _ _ _⟩
  | .int i, _, _, h, r, hs, _ => by
    cases h
    obtain ⟨t, rfl⟩ := r
    exact ⟨_, [], Reads.int i t, (fun _ z => nomatch z), by simp only [PyData.shown]; exact .of_is (ReprIs.int t (by simpa [PyData.showable] using hs)) _ _ _⟩
  | .str x, _, _, h, r, _, hz => by
    cases h
    obtain ⟨t, rfl⟩ := r
    exact ⟨_, [], Reads.str x t, (fun _ z => nomatch z), by simp only [PyData.shown]; exact .of_is (ReprIs.str x t (by simpa only [PyData.shown] using hz)) _ _ _⟩
  | .list ds, _, _, h, r, hs, hz => by
    cases h with
    | lst hl ha =>
      cases r
      obtain ⟨its, rv, ⟨o, n, ho, hc, _, hd⟩, _⟩ := I.list hl
      have z1 : (listText (PyData.shownAll ds)).length ≤ sizeLine := by simpa only [PyData.shown] using hz
      obtain ⟨as, bs, hr, hb, hk⟩ := DqAll.shows I ds _ its ha rv (by simpa [PyData.showable] using hs) fun t ht => Nat.le_trans (listText_mem_le ht) z1
      have rd := Reads.list ho hc hd hr
      have out := not_mem_of_deeper rd (by simp only [PyData.depth]; omega) hb
      refine ⟨_, _, rd, ReadAtMost.cons rd (by simp only [PyData.depth]; omega) hb, ?_⟩
      simp only [PyData.depth, PyData.shown]
      cases its with
      | nil =>
        cases ds with
        | nil =>
          simp only [PyData.shownAll, listText_nil]
          exact ReprK.listEmpty ho hc hd
        | cons d ds => cases hr
      | cons x l => exact ReprK.list ho hc hd out (by simpa using hk.length_eq) fun i y e => hk.item i y (by simpa using e)
  | .tuple ds, _, _, h, r, hs, hz => by
    cases h with
    | tup hl ha =>
      cases r
      obtain ⟨its, rv, ⟨o, ho, hc, n, hd⟩, _⟩ := I.tuple hl
      have z1 : (tupleText (PyData.shownAll ds)).length ≤ sizeLine := by simpa only [PyData.shown] using hz
      obtain ⟨as, bs, hr, hb, hk⟩ := DqAll.shows I ds _ its ha rv (by simpa [PyData.showable] using hs) fun t ht => Nat.le_trans (tupleText_mem_le ht) z1
      have rd := Reads.tuple ho hc hd hr
      have out := not_mem_of_deeper rd (by simp only [PyData.depth]; omega) hb
      refine ⟨_, _, rd, ReadAtMost.cons rd (by simp only [PyData.depth]; omega) hb, ?_⟩
      simp only [PyData.depth, PyData.shown]
      exact ReprK.tuple ho hc hd out hk
  | .dict kvs, _, _, h, r, hs, hz => by
    cases h with
    | @dic a x v d hd hv =>
      cases r
      obtain ⟨hs', zv, zk, hdep⟩ := dic_parts hs hz
      obtain ⟨o, l, n, as, bs, ho, hc, hes, sys, rd, hb, out, hE⟩ := dic_shows I hd (fun u ru => Dq.shows I d v u hv ru hs' zv) zk
      refine ⟨_, _, rd, ReadAtMost.cons rd (n := d.depth) (by rw [hdep]; omega) hb, ?_⟩
      rw [hdep]
      simp only [PyData.shown]
      exact ReprK.dict ho hc hes sys out hE
theorem DqAll.shows (I : Inv X pins σ H s) : ∀ (ds : List PyData) (vs : List V) (us : List Value), DqAll X.K H vs ds → Vals vs us → PyData.showableAll ds = true → (∀ t ∈ PyData.shownAll ds, t.length ≤ sizeLine) →
    ∃ as bs, ReadsAll s.heap us ds as ∧ ReadAtMost s.heap (PyData.depthAll ds) bs ∧ ReprAllK X.prog X.w bs s.heap (PyData.depthAll ds) us (PyData.shownAll ds)
  | [], _, _, h, r, _, _ => by
    cases h
    cases r
    exact ⟨_, [], ReadsAll.nil, (fun _ z => nomatch z), by simp only [PyData.shownAll]; exact .nil⟩
  | d :: ds, _, _, h, r, hs, hz => by
    cases h with
    | cons h1 h2 =>
      cases r with
      | cons r1 r2 =>
        have hs' : d.showable = true ∧ PyData.showableAll ds = true := by simpa [PyData.showableAll] using hs
        obtain ⟨as, bs, q1, b1, k1⟩ := Dq.shows I d _ _ h1 r1 hs'.1 (hz _ (by simp only [PyData.shownAll]; exact List.mem_cons_self ..))
        obtain ⟨cs, ds', q2, b2, k2⟩ := DqAll.shows I ds _ _ h2 r2 hs'.2 fun t ht => hz t (by simp only [PyData.shownAll]; exact List.mem_cons_of_mem _ ht)
        refine ⟨_, bs ++ ds', ReadsAll.cons q1 q2, ?_, ?_⟩
        · simp only [PyData.depthAll]
          exact (b1.mono (Nat.le_max_left _ _)).append (b2.mono (Nat.le_max_right _ _))
        · simp only [PyData.depthAll, PyData.shownAll]
          exact .cons ((k1.more fun b hb => List.mem_append_left _ hb).level_le (Nat.le_max_left _ _)) (k2.more_le (fun b hb => List.mem_append_right _ hb) (Nat.le_max_right _ _))
end
end
end Gr
/-! repr(x) as a rule. -/
namespace Gr
open PySem PySem.Spec PyProof.Rows L2
section
variable {X : Cx}
def rShow (K : PySem.W.Frag) : List V → Hp → VK → Prop := fun xs H Q => ∃ v d, xs = [v] ∧ Dq K H v d ∧ d.showable = true ∧ d.shown.length ≤ sizeLine ∧ d.depth ≤ 60 ∧ Q (.str d.shown) H
theorem call_repr (hg : X.A.guards = some []) (hu : X.A.units + 64 < cLine) : CallR X (.builtin "repr") (rShow X.K) := by
  intro pins s σ H xs us Q I r h
  obtain ⟨v, d, rfl, hd, hs, hz, hp, q⟩ := h
  obtain ⟨u, rfl, r0⟩ := vals1 r
  obtain ⟨as, bs, rd, hb, hk⟩ := Dq.shows I d v u hd r0 hs hz
  have fin : ∀ h' t tk, (∀ b o, s.heap.get? b = some o → h'.get? b = some o) → EP X pins σ Q (.str d.shown t) { s with heap := h', toks := tk } := fun h' t tk k => ⟨.str d.shown, H, I.kept k, ⟨_, rfl⟩, q⟩
  cases rd with
  | none => exact PySem.P.repr_of_none (by simpa only [PyData.shown] using fin s.heap s.toks _ fun _ _ e => e)
  | bool b => exact PySem.P.repr_of_bool (by simpa only [PyData.shown] using fin s.heap s.toks _ fun _ _ e => e)
  | int i t => exact PySem.P.repr_of_int (by simpa [PyData.showable] using hs) (by simpa only [PyData.shown] using fin s.heap s.toks _ fun _ _ e => e)
  | str x t => exact PySem.P.repr_of_str (by simpa only [PyData.shown] using fin s.heap s.toks _ fun _ _ e => e) (by simpa only [PyData.shown] using hz)
  | list h1 h2 h3 h4 =>
    rename_i a o vs n ds as'
    have z1 : (listText (PyData.shownAll ds)).length ≤ sizeLine := by simpa only [PyData.shown] using hz
    cases hd with
    | lst hl ha =>
    cases r0
    obtain ⟨its, rv, ⟨o2, n2, ho2, _, _, hd2⟩, _⟩ := I.list hl
    obtain ⟨as2, bs2, hr2, hb2, hk2⟩ := DqAll.shows I ds _ its ha rv (by simpa [PyData.showable] using hs) fun t ht => Nat.le_trans (listText_mem_le ht) z1
    rw [h1] at ho2
    obtain rfl := Option.some.inj ho2
    rw [h3] at hd2
    injection hd2 with hd3 _
    have out := not_mem_of_deeper (.list h1 h2 h3 h4) (n := PyData.depthAll ds) (by simp only [PyData.depth]; omega) hb2
    simp only [PyData.depth] at hp
    simp only [PyData.shown] at fin
    refine call_repr_slot (by omega) ⟨_, h1, h2⟩ PySem.F.slot_list_repr.toG ?_
    subst hd3
    cases its with
    | nil =>
      cases ds with
      | nil =>
        simp only [PyData.shownAll, listText_nil] at fin
        exact call_list_repr_empty ⟨_, h1, h2⟩ h1 h3 ⟨_, _, rfl, fin s.heap _ _ fun _ _ e => e⟩
      | cons d ds => cases hr2
    | cons x l =>
      exact call_list_reprK h1 h2 h3 out (by simpa using hk2.length_eq) (fun i y e => hk2.item i y (by simpa using e)) hg (fun b _ => Clear.nil b) (by show X.A.units + 1 + _ < cLine; omega) (fun _ _ e => e) (fun h' u tk k => ⟨_, _, rfl, fin h' _ _ k⟩) z1
  | tuple h1 h2 h3 h4 =>
    rename_i a o vs n ds
    have z1 : (tupleText (PyData.shownAll ds)).length ≤ sizeLine := by simpa only [PyData.shown] using hz
    cases hd with
    | tup hl ha =>
    cases r0
    obtain ⟨its, rv, ⟨o2, ho2, _, n2, hd2⟩, _⟩ := I.tuple hl
    obtain ⟨as2, bs2, hr2, hb2, hk2⟩ := DqAll.shows I ds _ its ha rv (by simpa [PyData.showable] using hs) fun t ht => Nat.le_trans (tupleText_mem_le ht) z1
    rw [h1] at ho2
    obtain rfl := Option.some.inj ho2
    rw [h3] at hd2
    injection hd2 with hd3 _
    subst hd3
    have out := not_mem_of_deeper (.tuple h1 h2 h3 h4) (n := PyData.depthAll ds) (by simp only [PyData.depth]; omega) hb2
    simp only [PyData.depth] at hp
    simp only [PyData.shown] at fin
    refine call_repr_slot (by omega) ⟨_, h1, h2⟩ PySem.F.slot_tuple_repr ?_
    exact call_tuple_reprK h1 h2 h3 out hk2 hg (fun b _ => Clear.nil b) (by show X.A.units + 1 + _ < cLine; omega) (fun _ _ e => e) (fun h' u tk k => ⟨_, _, rfl, fin h' _ _ k⟩) z1
  | dict h1 h2 h3 h4 h5 =>
    cases hd with
    | dic ha hv =>
    cases r0
    obtain ⟨hs', zv, zk, hdep⟩ := dic_parts hs hz
    obtain ⟨o, l, n, as, bs, ho, hc, hes, sys, rd, hb, out, hE⟩ := dic_shows I ha (fun u ru => Dq.shows I _ _ u hv ru hs' zv) zk
    rw [hdep] at hp
    simp only [PyData.shown] at fin hz
    refine call_repr_slot (by omega) ⟨_, ho, hc⟩ PySem.F.slot_dict_repr ?_
    exact call_dict_reprK ho hc hes sys out hE hg (fun b _ => Clear.nil b) (by show X.A.units + 1 + _ < cLine; omega) (fun _ _ e => e) (fun h' u tk k => ⟨_, _, rfl, fin h' _ _ k⟩) hz
end
end Gr
namespace K18
open PySem L2 Gr
def top (i : Nat) : Stmt := PySem.Challenge.pw_greatrows_k18_machines_refused.main.body.getD i (.Pass ⟨0, 0, 0, 0⟩)
abbrev sWall : Stmt := top 0
abbrev sNoNumberInit : Stmt := inClass (top 3) 0
abbrev sNoDeedsInit : Stmt := inClass (top 4) 0
abbrev sNoTestsInit : Stmt := inClass (top 5) 0
abbrev sWhole : Stmt := top 9
abbrev sDeeds : Stmt := top 15
abbrev sTests : Stmt := top 16
abbrev sDeed : Stmt := top 17
abbrev sTest : Stmt := top 18
abbrev sMachineInit : Stmt := inClass (top 20) 0
abbrev sMachineWants : Stmt := inClass (top 20) 1
abbrev sMachineTakes : Stmt := inClass (top 20) 2
abbrev sMachineEnds : Stmt := inClass (top 20) 3
abbrev sMachineReady : Stmt := inClass (top 20) 4
abbrev sMachineGives : Stmt := inClass (top 20) 5
abbrev sMachineIsOver : Stmt := inClass (top 20) 6
abbrev sMachineNeedless : Stmt := inClass (top 20) 7
abbrev sMachineGoesOn : Stmt := inClass (top 20) 8
abbrev sMachineHeld : Stmt := inClass (top 20) 9
abbrev sMachineSure : Stmt := inClass (top 20) 10
abbrev sMachineRest : Stmt := inClass (top 20) 11
abbrev sMachineTwin : Stmt := inClass (top 20) 12
abbrev sMachineStands : Stmt := inClass (top 20) 13
abbrev sMachineStop : Stmt := inClass (top 20) 14
abbrev sMachineOwn : Stmt := inClass (top 20) 15
abbrev sMachineBare : Stmt := inClass (top 20) 16
abbrev sMachineLay : Stmt := inClass (top 20) 17
abbrev sTurnedInit : Stmt := inClass (top 21) 0
abbrev sTurnedTakes : Stmt := inClass (top 21) 1
abbrev sTurnedSure : Stmt := inClass (top 21) 2
abbrev sTurnedOwn : Stmt := inClass (top 21) 3
abbrev sTurnedBare : Stmt := inClass (top 21) 4
abbrev sChosenInit : Stmt := inClass (top 22) 0
abbrev sChosenTakes : Stmt := inClass (top 22) 1
abbrev sChosenSure : Stmt := inClass (top 22) 2
abbrev sChosenOwn : Stmt := inClass (top 22) 3
abbrev sChosenBare : Stmt := inClass (top 22) 4
abbrev sWhileInit : Stmt := inClass (top 23) 0
abbrev sWhileTakes : Stmt := inClass (top 23) 1
abbrev sWhileOwn : Stmt := inClass (top 23) 2
abbrev sWhileBare : Stmt := inClass (top 23) 3
abbrev sUntilInit : Stmt := inClass (top 24) 0
abbrev sUntilTakes : Stmt := inClass (top 24) 1
abbrev sUntilOwn : Stmt := inClass (top 24) 2
abbrev sUntilBare : Stmt := inClass (top 24) 3
abbrev sFirstInit : Stmt := inClass (top 25) 0
abbrev sFirstTakes : Stmt := inClass (top 25) 1
abbrev sFirstSure : Stmt := inClass (top 25) 2
abbrev sFirstOwn : Stmt := inClass (top 25) 3
abbrev sFirstBare : Stmt := inClass (top 25) 4
abbrev sFirstLay : Stmt := inClass (top 25) 5
abbrev sSkipInit : Stmt := inClass (top 26) 0
abbrev sSkipTakes : Stmt := inClass (top 26) 1
abbrev sSkipSure : Stmt := inClass (top 26) 2
abbrev sSkipOwn : Stmt := inClass (top 26) 3
abbrev sSkipBare : Stmt := inClass (top 26) 4
abbrev sSkipLay : Stmt := inClass (top 26) 5
abbrev sWindowsInit : Stmt := inClass (top 27) 0
abbrev sWindowsTakes : Stmt := inClass (top 27) 1
abbrev sWindowsHeld : Stmt := inClass (top 27) 2
abbrev sWindowsSure : Stmt := inClass (top 27) 3
abbrev sWindowsOwn : Stmt := inClass (top 27) 4
abbrev sWindowsBare : Stmt := inClass (top 27) 5
abbrev sWindowsLay : Stmt := inClass (top 27) 6
abbrev sGroupsInit : Stmt := inClass (top 28) 0
abbrev sGroupsTakes : Stmt := inClass (top 28) 1
abbrev sGroupsEnds : Stmt := inClass (top 28) 2
abbrev sGroupsHeld : Stmt := inClass (top 28) 3
abbrev sGroupsOwn : Stmt := inClass (top 28) 4
abbrev sGroupsBare : Stmt := inClass (top 28) 5
abbrev sGroupsLay : Stmt := inClass (top 28) 6
abbrev sGroupsEndGroup : Stmt := inClass (top 28) 7
abbrev sSumsInit : Stmt := inClass (top 29) 0
abbrev sSumsTakes : Stmt := inClass (top 29) 1
abbrev sSumsSure : Stmt := inClass (top 29) 2
abbrev sSumsOwn : Stmt := inClass (top 29) 3
abbrev sSumsBare : Stmt := inClass (top 29) 4
abbrev sSumsLay : Stmt := inClass (top 29) 5
abbrev sFlatTakes : Stmt := inClass (top 30) 0
abbrev sFlatBare : Stmt := inClass (top 30) 1
abbrev sCheckDeeds : Stmt := top 31
abbrev sCheckTests : Stmt := top 32
abbrev sCheckNumber : Stmt := top 33
abbrev lCell : Stmt := top 35
abbrev lBox : Stmt := top 36
abbrev lTake : Stmt := top 37
abbrev lMixed : Stmt := top 38
abbrev lThing : Stmt := top 39
abbrev lDeeds : Stmt := top 40
abbrev lTests : Stmt := top 41
abbrev lValue : Stmt := top 42
abbrev lTurned : Stmt := top 43
abbrev lHold : Stmt := top 44
abbrev lOdd : Stmt := top 45
abbrev lBadDeeds : Stmt := top 46
abbrev lBadTests : Stmt := top 47
abbrev lBadNumber : Stmt := top 48
abbrev lByPlace : Stmt := top 49
abbrev lTried : Stmt := top 50
abbrev lGood : Stmt := top 51
abbrev lBare : Stmt := top 52
abbrev lRight : Stmt := top 53
abbrev lLaw : Stmt := top 54
end K18
/-! Small data: how many parts, how deep; small atoms. Their texts are short. -/
namespace Gr
open PySem PySem.Spec PyProof.Rows L2
mutual
def nodes : PyData → Nat
  | .list xs => nodesAll xs + 1
  | .tuple xs => nodesAll xs + 1
  | .dict kvs => nodesKv kvs + 1
  | .none => 1
  | .bool _ => 1
  | .int _ => 1
  | .str _ => 1
def nodesAll : List PyData → Nat
  | [] => 0
  | x :: xs => nodes x + nodesAll xs
def nodesKv : List (PyData × PyData) → Nat
  | [] => 0
  | (a, b) :: r => nodes a + nodes b + nodesKv r
end
def fineStr (x : Str) : Bool := decide (x.length ≤ 40) && x.cps.toList.all fun c => decide (c < 128)
mutual
def fine : PyData → Bool
  | .list xs => fineAll xs
  | .tuple xs => fineAll xs
  | .dict kvs => fineKv kvs
  | .none => true
  | .bool _ => true
  | .int i => decide (i.natAbs < 10 ^ 40)
  | .str x => fineStr x
def fineAll : List PyData → Bool
  | [] => true
  | x :: xs => fine x && fineAll xs
def fineKv : List (PyData × PyData) → Bool
  | [] => true
  | (a, b) :: r => fine a && fine b && fineKv r
end
theorem log_small {n : Nat} (h : n < 10 ^ 40) : n.log2 < 1920 := by
  have z : n < 2 ^ 133 := Nat.lt_of_lt_of_le h (by decide)
  have q : n.log2 < 133 := PySem.Flt.log2_lt_of (by decide) z
  omega
mutual
theorem showable_fine : ∀ d : PyData, fine d = true → d.showable = true
  | .none, _ => by simp only [PyData.showable]
  | .bool _, _ => by simp only [PyData.showable]
  | .str _, _ => by simp only [PyData.showable]
  | .int i, h => by
    simp only [fine] at h
    simp only [PyData.showable]
    exact decide_eq_true (log_small (of_decide_eq_true h))
  | .list xs, h => by simp only [PyData.showable]; exact showableAll_fine xs (by simpa only [fine] using h)
  | .tuple xs, h => by simp only [PyData.showable]; exact showableAll_fine xs (by simpa only [fine] using h)
  | .dict kvs, h => by simp only [PyData.showable]; exact showableKv_fine kvs (by simpa only [fine] using h)
theorem showableAll_fine : ∀ xs : List PyData, fineAll xs = true → PyData.showableAll xs = true
  | [], _ => by simp only [PyData.showableAll]
  | x :: xs, h => by
    simp only [fineAll, Bool.and_eq_true] at h
    simp only [PyData.showableAll, showable_fine x h.1, showableAll_fine xs h.2, Bool.and_self]
theorem showableKv_fine : ∀ kvs : List (PyData × PyData), fineKv kvs = true → PyData.showableKv kvs = true
  | [], _ => by simp only [PyData.showableKv]
  | (a, b) :: r, h => by
    simp only [fineKv, Bool.and_eq_true] at h
    simp only [PyData.showableKv, showable_fine a h.1.1, showable_fine b h.1.2, showableKv_fine r h.2, Bool.and_self]
end
theorem textFrom_sum : ∀ (ts : List Str) (k : Nat) (acc : Str), (textFrom k acc ts).length ≤ acc.length + (ts.map fun t => t.length + 2).sum
  | [], k, acc => by simp [textFrom]
  | t :: r, k, acc => by
    have q := textFrom_sum r (k + 1) (acc ++ (if k > 0 then ", " else "" : String) ++ t)
    have e : (acc ++ (if k > 0 then ", " else "" : String) ++ t).length ≤ acc.length + 2 + t.length := by
      rw [strLen_append, strLen_append]
      split
      · exact Nat.le_refl _
      · show acc.length + 0 + t.length ≤ _
        omega
    show (textFrom (k + 1) (acc ++ (if k > 0 then ", " else "" : String) ++ t) r).length ≤ _
    simp only [List.map_cons, List.sum_cons]
    omega
theorem listText_sum (ts : List Str) : (listText ts).length ≤ 2 + (ts.map fun t => t.length + 2).sum := by
  have q := textFrom_sum ts 0 "["
  unfold listText
  rw [strLen_append]
  have e1 : ((("[" : String) : Str)).length = 1 := rfl
  have e2 : ((("]" : String) : Str)).length = 1 := rfl
  rw [e1] at q
  rw [e2]
  omega
theorem join_sum : ∀ ts : List Str, (Str.join ", " ts).length ≤ (ts.map fun t => t.length + 2).sum
  | [] => by show 0 ≤ _; exact Nat.zero_le _
  | [x] => by show x.length ≤ _; simp
  | x :: y :: r => by
    have q := join_sum (y :: r)
    show (x ++ ", " ++ Str.join ", " (y :: r)).length ≤ _
    rw [strLen_append, strLen_append]
    have e2 : ((", " : String) : Str).length = 2 := rfl
    rw [e2, List.map_cons, List.sum_cons]
    omega
theorem tupleText_sum (ts : List Str) : (tupleText ts).length ≤ 3 + (ts.map fun t => t.length + 2).sum := by
  have q := join_sum ts
  unfold tupleText
  rw [strLen_append, strLen_append]
  have e1 : ((("(" : String) : Str)).length = 1 := rfl
  have e2 : (((if ts.length == 1 then ",)" else ")" : String) : Str)).length ≤ 2 := by split <;> decide
  rw [e1]
  omega
theorem dictText_sum (ts : List Str) : (dictText ts).length ≤ 2 + (ts.map fun t => t.length + 2).sum := by
  have q := join_sum ts
  unfold dictText
  rw [strLen_append, strLen_append]
  have e1 : ((("{" : String) : Str)).length = 1 := rfl
  have e2 : ((("}" : String) : Str)).length = 1 := rfl
  rw [e1, e2]
  omega
theorem nodes_pos : ∀ d : PyData, 1 ≤ nodes d
  | .none => by simp [nodes]
  | .bool _ => by simp [nodes]
  | .int _ => by simp [nodes]
  | .str _ => by simp [nodes]
  | .list _ => by simp [nodes]
  | .tuple _ => by simp [nodes]
  | .dict _ => by simp [nodes]
theorem fineStr_len {x : Str} (h : fineStr x = true) : (reprText x).length ≤ 402 := by
  unfold fineStr at h
  rw [Bool.and_eq_true] at h
  have h1 : x.length ≤ 40 := of_decide_eq_true h.1
  have q := PySem.StrLaws.reprText_len x fun c hc => by
    have z := List.all_eq_true.mp h.2 c hc
    have z' : c < 128 := of_decide_eq_true z
    exact Nat.lt_of_lt_of_le z' (by decide)
  omega
mutual
theorem shown_len : ∀ d : PyData, fine d = true → d.shown.length ≤ 500 * nodes d - 40
  | .none, _ => by simp only [PyData.shown, nodes]; decide
  | .bool b, _ => by cases b <;> (simp only [PyData.shown, nodes]; decide)
  | .int i, h => by
    simp only [fine] at h
    have q := int_text_length_le10 (k := 40) (by decide) (of_decide_eq_true h)
    have e : (PyData.shown (.int i)).length = (toString i).length := by
      simp only [PyData.shown]
      exact PySem.ofString_length _
    rw [e]
    simp only [nodes]
    omega
  | .str x, h => by
    have q := fineStr_len (x := x) (by simpa only [fine] using h)
    simp only [PyData.shown, nodes]
    omega
  | .list xs, h => by
    have q := shownAll_len xs (by simpa only [fine] using h)
    have z := listText_sum (PyData.shownAll xs)
    simp only [PyData.shown, nodes]
    omega
  | .tuple xs, h => by
    have q := shownAll_len xs (by simpa only [fine] using h)
    have z := tupleText_sum (PyData.shownAll xs)
    simp only [PyData.shown, nodes]
    omega
  | .dict kvs, h => by
    have q := shownKv_len kvs (by simpa only [fine] using h)
    have z := dictText_sum (PyData.shownKv kvs)
    simp only [PyData.shown, nodes]
    omega
theorem shownAll_len : ∀ xs : List PyData, fineAll xs = true → ((PyData.shownAll xs).map fun t => t.length + 2).sum ≤ 500 * nodesAll xs
  | [], _ => by simp [PyData.shownAll, nodesAll]
  | x :: xs, h => by
    simp only [fineAll, Bool.and_eq_true] at h
    have q1 := shown_len x h.1
    have q2 := shownAll_len xs h.2
    have q3 := nodes_pos x
    simp only [PyData.shownAll, nodesAll, List.map_cons, List.sum_cons]
    omega
theorem shownKv_len : ∀ kvs : List (PyData × PyData), fineKv kvs = true → ((PyData.shownKv kvs).map fun t => t.length + 2).sum ≤ 500 * nodesKv kvs
  | [], _ => by simp [PyData.shownKv, nodesKv]
  | (a, b) :: r, h => by
    simp only [fineKv, Bool.and_eq_true] at h
    have q1 := shown_len a h.1.1
    have q2 := shown_len b h.1.2
    have q3 := shownKv_len r h.2
    have q4 := nodes_pos a
    have q5 := nodes_pos b
    simp only [PyData.shownKv, nodesKv, List.map_cons, List.sum_cons]
    rw [strLen_append, strLen_append]
    have e2 : ((": " : String) : Str).length = 2 := rfl
    rw [e2]
    omega
end
/-- fine, of at most n parts, at most p deep -/
structure Fit (n p : Nat) (d : PyData) : Prop where
  ok : fine d = true
  few : nodes d ≤ n
  deep : d.depth ≤ p
theorem Fit.mono {n p n' p' : Nat} {d : PyData} (h : Fit n p d) (hn : n ≤ n') (hp : p ≤ p') : Fit n' p' d := ⟨h.ok, Nat.le_trans h.few hn, Nat.le_trans h.deep hp⟩
theorem Fit.shown {n p : Nat} {d : PyData} (h : Fit n p d) (hn : n ≤ 30000) : d.shown.length ≤ sizeLine := by
  have q := shown_len d h.ok
  have z := h.few
  have e := sizeLine_eq
  omega
/-- a list of such -/
structure FitAll (n p : Nat) (ds : List PyData) : Prop where
  ok : fineAll ds = true
  few : nodesAll ds ≤ n
  deep : PyData.depthAll ds ≤ p
theorem FitAll.nil {p : Nat} : FitAll 0 p [] := ⟨by simp [fineAll], by simp [nodesAll], by simp [PyData.depthAll]⟩
theorem FitAll.snoc {n m p : Nat} : ∀ {ds : List PyData} {d : PyData}, FitAll n p ds → Fit m p d → FitAll (n + m) p (ds ++ [d])
  | [], d, h, k => ⟨by simp [fineAll, k.ok], by simp [nodesAll]; have := k.few; omega, by simp [PyData.depthAll]; exact k.deep⟩
  | x :: xs, d, h, k => by
    obtain ⟨h1, h2, h3⟩ := h
    simp only [fineAll, Bool.and_eq_true] at h1
    simp only [nodesAll] at h2
    simp only [PyData.depthAll] at h3
    have q := FitAll.snoc (n := nodesAll xs) (ds := xs) ⟨h1.2, Nat.le_refl _, by omega⟩ k
    refine ⟨?_, ?_, ?_⟩
    · simp only [List.cons_append, fineAll, h1.1, q.ok, Bool.and_self]
    · have := q.few
      simp only [List.cons_append, nodesAll]
      omega
    · have := q.deep
      simp only [List.cons_append, PyData.depthAll]
      omega
theorem FitAll.list {n p : Nat} {ds : List PyData} (h : FitAll n p ds) : Fit (n + 1) (p + 1) (.list ds) := ⟨by simpa only [fine] using h.ok, by simp only [nodes]; have := h.few; omega, by simp only [PyData.depth]; have := h.deep; omega⟩
theorem FitAll.tuple {n p : Nat} {ds : List PyData} (h : FitAll n p ds) : Fit (n + 1) (p + 1) (.tuple ds) := ⟨by simpa only [fine] using h.ok, by simp only [nodes]; have := h.few; omega, by simp only [PyData.depth]; have := h.deep; omega⟩
theorem Fit.dict {n p : Nat} {x : Str} {d : PyData} (hx : fineStr x = true) (h : Fit n p d) : Fit (n + 2) (p + 1) (.dict [(.str x, d)]) :=
  ⟨by simp only [fine, fineKv, hx, h.ok, Bool.and_self], by simp only [nodes, nodesKv]; have := h.few; omega, by simp only [PyData.depth, PyData.depthKv]; have := h.deep; omega⟩
theorem DqAll.snoc {K : PySem.W.Frag} {H : Hp} : ∀ {ds : List PyData} {vs : List V} {d : PyData} {v : V}, DqAll K H vs ds → Dq K H v d → DqAll K H (vs ++ [v]) (ds ++ [d])
  | _, _, _, _, .nil, k => .cons k .nil
  | _, _, _, _, .cons h t, k => .cons h (t.snoc k)
end Gr
/-! Data whose every part is tracked: what reads as what is plain from the heap alone; a list that is changed leaves what it isn't in. -/
namespace Gr
open PySem PySem.Spec PyProof.Rows L2
mutual
inductive Do (H : Hp) : V → PyData → Prop
  | non : Do H .non .none
  | bl (b : Bool) : Do H (.bl b) (.bool b)
  | int (i : Int) : Do H (.int i) (.int i)
  | str (x : Str) : Do H (.str x) (.str x)
  | lst {a : Addr} {xs : List V} {ds : List PyData} : H a = some (.lst xs) → DoAll H xs ds → Do H (.ref a) (.list ds)
  | tup {a : Addr} {xs : List V} {ds : List PyData} : H a = some (.tup xs) → DoAll H xs ds → Do H (.ref a) (.tuple ds)
  | dic {a : Addr} {x : Str} {v : V} {d : PyData} : H a = some (.dK [(Sum.inr x, v)]) → Do H v d → Do H (.ref a) (.dict [(.str x, d)])
inductive DoAll (H : Hp) : List V → List PyData → Prop
  | nil : DoAll H [] []
  | cons {v : V} {vs : List V} {d : PyData} {ds : List PyData} : Do H v d → DoAll H vs ds → DoAll H (v :: vs) (d :: ds)
end
mutual
theorem Do.dq' {K : PySem.W.Frag} {H : Hp} : ∀ (d : PyData) (v : V), Do H v d → Dq K H v d
  | .none, _, h => by cases h; exact .non
  | .bool b, _, h => by cases h; exact .bl b
  | .int i, _, h => by cases h; exact .int i
  | .str x, _, h => by cases h; exact .str x
  | .list ds, _, h => by
    cases h with
    | lst hs ha => exact .lst (SqL.of hs) (DoAll.dq' ds _ ha)
  | .tuple ds, _, h => by
    cases h with
    | tup hs ha => exact .tup (SqT.of hs) (DoAll.dq' ds _ ha)
  | .dict kvs, _, h => by
    cases h with
    | dic hd hv => exact .dic hd (Do.dq' _ _ hv)
theorem DoAll.dq' {K : PySem.W.Frag} {H : Hp} : ∀ (ds : List PyData) (vs : List V), DoAll H vs ds → DqAll K H vs ds
  | [], _, h => by cases h; exact .nil
  | d :: ds, _, h => by
    cases h with
    | cons h1 h2 => exact .cons (Do.dq' d _ h1) (DoAll.dq' ds _ h2)
end
theorem Do.dq {K : PySem.W.Frag} {H : Hp} {v : V} {d : PyData} (h : Do H v d) : Dq K H v d := Do.dq' d v h
theorem DoAll.dq {K : PySem.W.Frag} {H : Hp} {vs : List V} {ds : List PyData} (h : DoAll H vs ds) : DqAll K H vs ds := DoAll.dq' ds vs h
mutual
theorem Do.le' {H G : Hp} (e : Same H G) : ∀ (d : PyData) (v : V), Do H v d → Do G v d
  | .none, _, h => by cases h; exact .non
  | .bool b, _, h => by cases h; exact .bl b
  | .int i, _, h => by cases h; exact .int i
  | .str x, _, h => by cases h; exact .str x
  | .list ds, _, h => by
    cases h with
    | lst hs ha => exact .lst (e _ _ hs) (DoAll.le' e ds _ ha)
  | .tuple ds, _, h => by
    cases h with
    | tup hs ha => exact .tup (e _ _ hs) (DoAll.le' e ds _ ha)
  | .dict kvs, _, h => by
    cases h with
    | dic hd hv => exact .dic (e _ _ hd) (Do.le' e _ _ hv)
theorem DoAll.le' {H G : Hp} (e : Same H G) : ∀ (ds : List PyData) (vs : List V), DoAll H vs ds → DoAll G vs ds
  | [], _, h => by cases h; exact .nil
  | d :: ds, _, h => by
    cases h with
    | cons h1 h2 => exact .cons (Do.le' e d _ h1) (DoAll.le' e ds _ h2)
end
theorem Do.le {H G : Hp} {v : V} {d : PyData} (h : Do H v d) (e : Same H G) : Do G v d := Do.le' e d v h
theorem DoAll.le {H G : Hp} {vs : List V} {ds : List PyData} (h : DoAll H vs ds) (e : Same H G) : DoAll G vs ds := DoAll.le' e ds vs h
theorem DoAll.len {H : Hp} : ∀ {ds : List PyData} {vs : List V}, DoAll H vs ds → vs.length = ds.length
  | _, _, .nil => rfl
  | _, _, .cons _ h => by rw [List.length_cons, List.length_cons, h.len]
theorem DoAll.app {H : Hp} : ∀ {ds es : List PyData} {vs us : List V}, DoAll H vs ds → DoAll H us es → DoAll H (vs ++ us) (ds ++ es)
  | _, _, _, _, .nil, h => h
  | _, _, _, _, .cons a b, h => .cons a (DoAll.app b h)
theorem DoAll.snoc {H : Hp} {ds : List PyData} {vs : List V} {v : V} {d : PyData} (h : DoAll H vs ds) (x : Do H v d) : DoAll H (vs ++ [v]) (ds ++ [d]) := h.app (.cons x .nil)
theorem DoAll.take {H : Hp} : ∀ {vs : List V} {ds : List PyData} (i : Nat), DoAll H vs ds → DoAll H (vs.take i) (ds.take i)
  | _, _, 0, _ => .nil
  | _, _, i + 1, .nil => .nil
  | _, _, i + 1, .cons a b => .cons a (DoAll.take i b)
theorem DoAll.drop {H : Hp} : ∀ {vs : List V} {ds : List PyData} (i : Nat), DoAll H vs ds → DoAll H (vs.drop i) (ds.drop i)
  | _, _, 0, h => h
  | _, _, i + 1, .nil => .nil
  | _, _, i + 1, .cons a b => DoAll.drop i b
theorem DoAll.get {H : Hp} : ∀ {vs : List V} {ds : List PyData} {i : Nat} {v : V}, DoAll H vs ds → vs[i]? = some v → ∃ d, ds[i]? = some d ∧ Do H v d
  | _, _, _, _, .nil, h => by simp at h
  | _, _, 0, _, .cons a b, h => by
    simp only [List.getElem?_cons_zero, Option.some.injEq] at h
    subst h
    exact ⟨_, rfl, a⟩
  | _, _, i + 1, _, .cons a b, h => by
    simp only [List.getElem?_cons_succ] at h ⊢
    exact DoAll.get b h
mutual
theorem Do.uniq {H : Hp} : ∀ (d : PyData) (v : V) (e : PyData), Do H v d → Do H v e → d = e
  | .none, _, _, h, k => by cases h; cases k; rfl
  | .bool b, _, _, h, k => by cases h; cases k; rfl
  | .int i, _, _, h, k => by cases h; cases k; rfl
  | .str x, _, _, h, k => by cases h; cases k; rfl
  | .list ds, _, _, h, k => by
    cases h with
    | lst hs ha =>
      cases k with
      | lst hs2 ha2 =>
        rw [hs] at hs2
        cases hs2
        rw [DoAll.uniq ds _ _ ha ha2]
      | tup hs2 _ => rw [hs] at hs2; cases hs2
      | dic hs2 _ => rw [hs] at hs2; cases hs2
  | .tuple ds, _, _, h, k => by
    cases h with
    | tup hs ha =>
      cases k with
      | tup hs2 ha2 =>
        rw [hs] at hs2
        cases hs2
        rw [DoAll.uniq ds _ _ ha ha2]
      | lst hs2 _ => rw [hs] at hs2; cases hs2
      | dic hs2 _ => rw [hs] at hs2; cases hs2
  | .dict kvs, _, _, h, k => by
    cases h with
    | dic hd hv =>
      cases k with
      | dic hd2 hv2 =>
        rw [hd] at hd2
        cases hd2
        rw [Do.uniq _ _ _ hv hv2]
      | lst hs2 _ => rw [hd] at hs2; cases hs2
      | tup hs2 _ => rw [hd] at hs2; cases hs2
theorem DoAll.uniq {H : Hp} : ∀ (ds : List PyData) (vs : List V) (es : List PyData), DoAll H vs ds → DoAll H vs es → ds = es
  | [], _, _, h, k => by cases h; cases k; rfl
  | d :: ds, _, _, h, k => by
    cases h with
    | cons h1 h2 =>
      cases k with
      | cons k1 k2 => rw [Do.uniq d _ _ h1 k1, DoAll.uniq ds _ _ h2 k2]
end
mutual
/-- what lies no deeper than a list's items isn't changed with the list -/
theorem Do.avoid {H G : Hp} {Z : Addr} {D : PyData} (hZ : Do H (.ref Z) D) (k : ∀ b o, b ≠ Z → H b = some o → G b = some o) : ∀ (d : PyData) (v : V), Do H v d → d.depth < D.depth → Do G v d
  | .none, _, h, _ => by cases h; exact .non
  | .bool b, _, h, _ => by cases h; exact .bl b
  | .int i, _, h, _ => by cases h; exact .int i
  | .str x, _, h, _ => by cases h; exact .str x
  | .list ds, v, h, l => by
    have h0 := h
    cases h with
    | @lst a xs _ hs ha =>
      have ne : a ≠ Z := fun z => by
        rw [z] at h0
        rw [Do.uniq _ _ _ h0 hZ] at l
        exact Nat.lt_irrefl _ l
      have l2 : PyData.depthAll ds < D.depth := by
        simp only [PyData.depth] at l
        omega
      exact .lst (k _ _ ne hs) (DoAll.avoid hZ k ds _ ha l2)
  | .tuple ds, v, h, l => by
    have h0 := h
    cases h with
    | @tup a xs _ hs ha =>
      have ne : a ≠ Z := fun z => by
        rw [z] at h0
        rw [Do.uniq _ _ _ h0 hZ] at l
        exact Nat.lt_irrefl _ l
      have l2 : PyData.depthAll ds < D.depth := by
        simp only [PyData.depth] at l
        omega
      exact .tup (k _ _ ne hs) (DoAll.avoid hZ k ds _ ha l2)
  | .dict kvs, v, h, l => by
    have h0 := h
    cases h with
    | @dic a x u d hd hv =>
      have ne : a ≠ Z := fun z => by
        rw [z] at h0
        rw [Do.uniq _ _ _ h0 hZ] at l
        exact Nat.lt_irrefl _ l
      have l2 : d.depth < D.depth := by
        simp only [PyData.depth, PyData.depthKv] at l
        omega
      exact .dic (k _ _ ne hd) (Do.avoid hZ k d _ hv l2)
theorem DoAll.avoid {H G : Hp} {Z : Addr} {D : PyData} (hZ : Do H (.ref Z) D) (k : ∀ b o, b ≠ Z → H b = some o → G b = some o) : ∀ (ds : List PyData) (vs : List V), DoAll H vs ds → PyData.depthAll ds < D.depth → DoAll G vs ds
  | [], _, h, _ => by cases h; exact .nil
  | d :: ds, _, h, l => by
    cases h with
    | cons h1 h2 =>
      have l2 : d.depth < D.depth ∧ PyData.depthAll ds < D.depth := by
        simp only [PyData.depthAll] at l
        omega
      exact .cons (Do.avoid hZ k d _ h1 l2.1) (DoAll.avoid hZ k ds _ h2 l2.2)
end
end Gr
/-! the laws' box: three whole numbers in a list, the third counts the draws; n: how many draws are still allowed -/
namespace Gr
open PySem PySem.Spec PyProof.Rows L2
/-- the heap without the box -/
def offB (H : Hp) (st : Addr) : Hp := fun b => if b = st then none else H b
theorem offB_ne {H : Hp} {st b : Addr} (h : b ≠ st) : offB H st b = H b := if_neg h
theorem offB_st {H : Hp} {st : Addr} : offB H st st = none := if_pos rfl
theorem offB_le {H : Hp} {st : Addr} : Same (offB H st) H := fun b o e => by
  unfold offB at e
  split at e
  · cases e
  · exact e
def boxMost : Nat := 2 ^ 20
structure StB (H : Hp) (st : Addr) (n : Nat) : Prop where
  ex : ∃ a b c : Int, H st = some (.lst [.int a, .int b, .int c]) ∧ 0 ≤ b ∧ b < 2 ^ 31 ∧ 0 ≤ c ∧ c + n ≤ (2 ^ 20 : Nat)
theorem StB.some {H : Hp} {st : Addr} {n : Nat} (h : StB H st n) : H st ≠ none := by
  obtain ⟨_, _, _, e, _⟩ := h.ex
  rw [e]
  exact fun z => nomatch z
theorem StB.ne {H : Hp} {st p : Addr} {n : Nat} (h : StB H st n) (hp : H p = none) : p ≠ st := fun z => h.some (by rw [← z]; exact hp)
theorem StB.mono {H : Hp} {st : Addr} {n m : Nat} (h : StB H st n) (l : m ≤ n) : StB H st m := by
  obtain ⟨a, b, c, e, b0, b1, c0, c1⟩ := h.ex
  exact ⟨a, b, c, e, b0, b1, c0, by omega⟩
theorem StB.same {H G : Hp} {st : Addr} {n : Nat} (h : StB H st n) (s : Same H G) : StB G st n := by
  obtain ⟨a, b, c, e, k⟩ := h.ex
  exact ⟨a, b, c, s _ _ e, k⟩
theorem tupB_ne {H : Hp} {st b : Addr} {n : Nat} {xs : List V} (h : StB H st n) (e : H b = some (.tup xs)) : b ≠ st := fun z => by
  obtain ⟨_, _, _, q, _⟩ := h.ex
  rw [z, q] at e
  cases e
/-- all but the box stays; n draws are allowed behind it -/
structure TurnB (st : Addr) (n : Nat) (H G : Hp) : Prop where
  now : StB G st n
  rest : Same (offB H st) (offB G st)
theorem TurnB.keep {st : Addr} {n : Nat} {H G : Hp} (t : TurnB st n H G) {b : Addr} {o : HO} (ne : b ≠ st) (e : H b = some o) : G b = some o := by
  have q := t.rest b o (by rw [offB_ne ne]; exact e)
  rw [offB_ne ne] at q
  exact q
theorem TurnB.trans {st : Addr} {n m : Nat} {H G F : Hp} (a : TurnB st n H G) (b : TurnB st m G F) : TurnB st m H F := ⟨b.now, a.rest.trans b.rest⟩
theorem TurnB.refl {st : Addr} {n : Nat} {H : Hp} (h : StB H st n) : TurnB st n H H := ⟨h, Same.refl _⟩
theorem TurnB.mono {st : Addr} {n m : Nat} {H G : Hp} (t : TurnB st n H G) (l : m ≤ n) : TurnB st m H G := ⟨t.now.mono l, t.rest⟩
theorem offB_same {H G : Hp} {st : Addr} (e : Same H G) : Same (offB H st) (offB G st) := fun b o q => by
  by_cases z : b = st
  · rw [z, offB_st] at q
    cases q
  · rw [offB_ne z] at q ⊢
    exact e _ _ q
theorem TurnB.of_same {st : Addr} {n : Nat} {H G : Hp} (h : StB H st n) (e : Same H G) : TurnB st n H G := ⟨h.same e, offB_same e⟩
theorem same_new {H : Hp} {p : Addr} (h : H p = none) (o : HO) : Same H (upd H p o) := fun b u q => by rw [upd_ne (ne_of_none q h)]; exact q
theorem TurnB.new {st p : Addr} {n : Nat} {H : Hp} (h : StB H st n) (hp : H p = none) (o : HO) : TurnB st n H (upd H p o) := TurnB.of_same h (same_new hp o)
theorem offB_new {H : Hp} {st p : Addr} (n : p ≠ st) (o : HO) : offB (upd H p o) st p = some o := by rw [offB_ne n, upd_same]
/-- a new object beside the box -/
theorem stepB {st p : Addr} {n : Nat} {H : Hp} (h : StB H st n) (hp : H p = none) (o : HO) : TurnB st n H (upd H p o) ∧ offB (upd H p o) st p = some o ∧ p ≠ st := ⟨TurnB.new h hp o, offB_new (h.ne hp) o, h.ne hp⟩
/-- another object is written -/
theorem TurnB.write {st p : Addr} {n : Nat} {H : Hp} (h : StB H st n) (ne : p ≠ st) (o : HO) : StB (upd H p o) st n := by
  obtain ⟨a, b, c, e, k⟩ := h.ex
  exact ⟨a, b, c, by rw [upd_ne (Ne.symm ne)]; exact e, k⟩
theorem StB.write' {st p : Addr} {n : Nat} {H : Hp} (h : StB H st n) (ne : p ≠ st) (o : HO) : StB (upd H p o) st n := TurnB.write h ne o
theorem TurnB.set {st : Addr} {n : Nat} {H : Hp} {a b c : Int} (b0 : 0 ≤ b) (b1 : b < 2 ^ 31) (c0 : 0 ≤ c) (c1 : c + n ≤ (2 ^ 20 : Nat)) : TurnB st n H (upd H st (.lst [.int a, .int b, .int c])) :=
  ⟨⟨a, b, c, upd_same, b0, b1, c0, c1⟩, fun d o q => by
    by_cases z : d = st
    · rw [z, offB_st] at q
      cases q
    · rw [offB_ne z] at q ⊢
      rw [upd_ne z]
      exact q⟩
theorem TurnB.grows {st : Addr} {n : Nat} {H G : Hp} (t : TurnB st n H G) {b : Addr} (h : G b = none) : H b = none := by
  by_cases z : b = st
  · exact absurd (z ▸ h) t.now.some
  · cases q : H b with
    | none => rfl
    | some o => rw [t.keep z q] at h; cases h
/-- what a call makes: seen without the box -/
theorem Do.turnB {st : Addr} {n : Nat} {H G : Hp} {v : V} {d : PyData} (h : Do (offB H st) v d) (t : TurnB st n H G) : Do (offB G st) v d := h.le t.rest
def spBox : Sp := fun vs H Q _ => ∃ a : Int, vs = [.int a] ∧ ∀ (p : Addr) (G : Hp), H p = none → Same H G → StB G p (2 ^ 20) → Q (.ref p) G
def spTake : Sp := fun vs H Q _ => ∃ (st : Addr) (m : Int) (n : Nat), vs = [.ref st, .int m] ∧ StB H st (n + 1) ∧ 0 < m ∧ m < 2 ^ 64 ∧ ∀ (r : Int) (G : Hp), 0 ≤ r → r < m → TurnB st n H G → Q (.int r) G
end Gr
namespace K18
open PySem PySem.Spec PyProof.Rows L2 Gr 
structure Cal (P : Program) (w : World) (K : PySem.W.Frag) (mg : Str → Option Value) (base : Heap) (k : Nat) (x : Str) (ps : List Str) (sp : Sp) (f : Addr) (fd : FuncData) : Prop where
  ok : FnOk P w K mg base CX0 k f fd ps sp
  bd : Binds K fd ps []
  kp : PySem.W.keepIn K (.ref f) = true
  at_ : mg x = some (.ref f)
theorem modBounds (a : Int) (m : Int) (h : 0 < m) : 0 ≤ a % m ∧ a % m < m := ⟨Int.emod_nonneg _ (by omega), Int.emod_lt_of_pos _ h⟩
def spCell (K : PySem.W.Frag) : Sp := fun vs H Q _ => ∃ (a : Addr) (ns : List Int) (k : Int), vs = [.ref a, .int k] ∧ SqL K H a (ns.map V.int) ∧ 0 ≤ k ∧ ∀ n, Q (.int n) H
theorem scCell : FnScope ["_law_script", "_law_k"] ["_law_script", "_law_k"] (defScope lCell) := ⟨rfl, rfl, rfl, by decide +kernel, rfl, by decide +kernel, by decide +kernel⟩
theorem scBox : FnScope ["_law_cell_here"] ["_law_cell_here"] (defScope lBox) := ⟨rfl, rfl, rfl, by decide +kernel, rfl, by decide +kernel, by decide +kernel⟩
theorem scTake : FnScope ["_law_box_here", "_law_many", "_law_digit", "_law_one", "_law_other"] ["_law_box_here", "_law_many"] (defScope lTake) := ⟨rfl, rfl, rfl, by decide +kernel, rfl, by decide +kernel, by decide +kernel⟩
section
variable {P : Program} {w : World} {K : PySem.W.Frag} {mg : Str → Option Value} {base : Heap} {f fT : Addr} {fd fdT : FuncData}
theorem ok_cell (F : Fun K "_law_cell" "_law_cell" lCell f fd) (m_len : mg "len" = none) : FnOk P w K mg base CX0 1 f fd ["_law_script", "_law_k"] (spCell K) := by
  refine F.ok scCell (fun vs H Q E h => ?_) (fun cdv A outer s H vs Q E hr h => ?_)
  · obtain ⟨a, ns, k, rfl, _⟩ := h
    rfl
  obtain ⟨a, ns, k, rfl, hS, h0, q⟩ := h
  refine ⟨_, (pss_cons (ps_if (pt_cmpR op_lt (pv 1) (pe_callB call_len_seq rfl m_len PySem.boot_len (pa_cons (pv 0) pa_nil)) (nomark _))
 (pss_one (ps_ret (pe_ix ix_list (pv 0) (pv 1) (fun _ _ => rfl))))
 pss_nil)
 (pss_one (ps_ret (pe_op op_add (pe_op op_mul pe_int (pv 1)) pe_int)))), ?_⟩
  refine ⟨_, rfl, _, rfl, a, _, rfl, .inl hS, _, _, rfl, rfl, _, rfl, ?_⟩
  refine ite2 (fun c => ?_) (fun c => ?_)
  · have c' : k < (((ns.map V.int).length : Nat) : Int) := of_decide_eq_true c
    rw [List.length_map] at c'
    have hk : k.toNat < ns.length := by omega
    have ek : k = ((k.toNat : Nat) : Int) := by omega
    have at_ : atI (ns.map V.int) ((k.toNat : Nat) : Int) = some (.int ns[k.toNat]) := atI_nat (by rw [List.getElem?_map, List.getElem?_eq_getElem hk] <;> rfl)
    rw [← ek] at at_
    exact ⟨_, rfl, _, rfl, a, _, _, _, rfl, rfl, hS, at_, q _⟩
  · exact ⟨_, rfl, _, _, rfl, rfl, .inl ⟨by decide, by decide⟩, _, _, rfl, rfl, q _⟩
theorem ok_box (F : Fun K "_law_box" "_law_box" lBox f fd) (m_max : mg "max" = none) : FnOk P w K mg base CX0 1 f fd ["_law_cell_here"] spBox := by
  refine F.ok scBox (fun vs H Q E h => ?_) (fun cdv A outer s H vs Q E hr h => ?_)
  · obtain ⟨a, rfl, _⟩ := h
    rfl
  obtain ⟨a, rfl, q⟩ := h
  refine ⟨_, (pss_one (ps_ret (pe_lst (pa_cons (pe_callB (call_max2 rfl) rfl m_max (by decide +kernel) (pa_cons pe_int (pa_cons (pe_op op_sub (pv 0) (pe_op op_pow pe_int pe_int)) pa_nil))) (pa_cons (pe_op op_mod (pv 0) pe_int) (pa_cons pe_int pa_nil)))))), ?_⟩
  refine ⟨_, rfl, _, _, rfl, rfl, ⟨by decide, by decide, by decide⟩, _, _, rfl, rfl, _, _, rfl, _, rfl, _, _, rfl, rfl, (by show (0 : Int) < 2147483629; decide), (by show 3 ≤ sizeLine; decide), fun p hp => ?_⟩
  have bm := modBounds a 2147483629 (by decide)
  exact q p _ hp (same_new hp _) ⟨_, _, _, upd_same, bm.1, by omega, by decide, by decide⟩
theorem ok_take (F : Fun K "_law_take" "_law_take" lTake f fd) : FnOk P w K mg base CX0 1 f fd ["_law_box_here", "_law_many"] spTake := by
  refine F.ok scTake (fun vs H Q E h => ?_) (fun cdv A outer s H vs Q E hr h => ?_)
  · obtain ⟨st, m, n, rfl, _⟩ := h
    rfl
  obtain ⟨st, m, n, rfl, ⟨a, b, c, hS, b0, b1, c0, c1⟩, m0, m1, q⟩ := h
  have lm : m.natAbs < 2 ^ 64 := by omega
  refine ⟨_, (pss_cons (ps_if (pt_cmpR op_gt (pe_ix ix_list (pv 0) pe_int (fun _ _ => rfl)) pe_int (nomark _))
 (pss_cons (ps_set (i := 2) scTake.nd rfl (Or.inl rfl) (pe_op op_mod (pe_ix ix_list (pv 0) pe_int (fun _ _ => rfl)) (pv 1)))
 (pss_cons (ps_asg (pe_op op_fdivW (pe_ix ix_list (pv 0) pe_int (fun _ _ => rfl)) (pv 1)) (pg_sub (pv 0) pe_int set_list))
 (pss_one (ps_ret (pv 2)))))
 pss_nil)
 (pss_cons (ps_asg (pe_op op_add (pe_ix ix_list (pv 0) pe_int (fun _ _ => rfl)) pe_int) (pg_sub (pv 0) pe_int set_list))
 (pss_cons (ps_set (i := 3) scTake.nd rfl (Or.inl rfl) (pe_op op_mod (pe_op op_pow (pe_op op_add (pe_op op_add (pe_ix ix_list (pv 0) pe_int (fun _ _ => rfl)) (pe_op op_mul pe_int (pe_ix ix_list (pv 0) pe_int (fun _ _ => rfl)))) pe_int) pe_int) pe_int))
 (pss_cons (ps_set (i := 4) scTake.nd rfl (Or.inl rfl) (pe_op op_mod (pe_op op_pow (pe_op op_add (pe_op op_add (pe_op op_fdiv (pv 3) pe_int) (pe_op op_mul (pe_op op_mul pe_int (pe_ix ix_list (pv 0) pe_int (fun _ _ => rfl))) (pe_ix ix_list (pv 0) pe_int (fun _ _ => rfl)))) pe_int) pe_int) pe_int))
 (pss_one (ps_ret (pe_op op_mod (pe_op op_add (pe_op op_fdiv (pv 3) pe_int) (pe_op op_mul pe_int (pe_op op_fdiv (pv 4) pe_int))) (pv 1)))))))), ?_⟩
  refine ⟨_, rfl, st, _, _, _, rfl, rfl, SqL.of hS, rfl, _, _, rfl, rfl, _, rfl, ?_⟩
  refine ite2 (fun cc => ?_) (fun cc => ?_)
  · have c0' : a > 0 := of_decide_eq_true cc
    have bm := modBounds a m m0
    refine ⟨_, rfl, st, _, _, _, rfl, rfl, SqL.of hS, rfl, _, rfl, _, _, rfl, rfl, m0, ?_⟩
    refine ⟨_, rfl, st, _, _, _, rfl, rfl, SqL.of hS, rfl, _, rfl, _, _, rfl, rfl, wide_div m0 lm (by decide) (by decide), ?_⟩
    refine ⟨_, rfl, st, _, 0, 0, rfl, rfl, hS, rfl, ?_⟩
    refine ⟨_, rfl, ?_⟩
    exact q _ _ bm.1 bm.2 (TurnB.set b0 b1 c0 (by omega))
  · refine ⟨_, rfl, st, _, _, _, rfl, rfl, SqL.of hS, rfl, _, _, rfl, rfl, ?_⟩
    refine ⟨_, rfl, st, _, 2, 2, rfl, rfl, hS, rfl, ?_⟩
    have h2 : (upd H st (.lst [.int a, .int b, .int (c + 1)])) st = some (.lst [.int a, .int b, .int (c + 1)]) := upd_same
    have t2 : TurnB st n H (upd H st (.lst [.int a, .int b, .int (c + 1)])) := TurnB.set b0 b1 (by omega) (by omega)
    have cc1 : c + 1 ≤ 2 ^ 20 := by omega
    refine ⟨_, rfl, st, _, _, _, rfl, rfl, SqL.of h2, rfl, _, rfl, st, _, _, _, rfl, rfl, SqL.of h2, rfl, _, _, rfl, rfl, .inl ⟨by decide, by decide⟩, _, _, rfl, rfl, _, _, rfl, rfl, _, _, rfl, rfl, ⟨by decide, by decide, by omega⟩, _, _, rfl, rfl, (by show (0 : Int) < 2147483647; decide), ?_⟩
    have bA := modBounds ((b + 7919 * (c + 1) + 83) ^ (5 : Int).toNat) 2147483647 (by decide)
    refine ⟨_, rfl, _, _, rfl, rfl, ⟨by decide, by decide⟩, _, rfl, st, _, _, _, rfl, rfl, SqL.of h2, rfl, _, _, rfl, rfl, .inl ⟨by decide, by decide⟩, _, rfl, st, _, _, _, rfl, rfl, SqL.of h2, rfl, _, _, rfl, rfl, .inr ⟨by omega, by omega⟩, _, _, rfl, rfl, _, _, rfl, rfl, _, _, rfl, rfl, ⟨by decide, by decide, ?_⟩, _, _, rfl, rfl, (by show (0 : Int) < 2147483629; decide), ?_⟩
    · have q2 : 96581 * (c + 1) * (c + 1) ≤ 96581 * 2 ^ 20 * 2 ^ 20 := Int.mul_le_mul (Int.mul_le_mul_of_nonneg_left cc1 (by decide)) cc1 (by omega) (by decide)
      have q3 : 0 ≤ 96581 * (c + 1) * (c + 1) := Int.mul_nonneg (by omega) (by omega)
      generalize 96581 * (c + 1) * (c + 1) = C1 at q2 q3 ⊢
      generalize (b + 7919 * (c + 1) + 83) ^ (5 : Int).toNat % 2147483647 = A1 at bA ⊢
      omega
    have bB := modBounds (((b + 7919 * (c + 1) + 83) ^ (5 : Int).toNat % 2147483647 / 8 + 96581 * (c + 1) * (c + 1) + 3) ^ (3 : Int).toNat) 2147483629 (by decide)
    refine ⟨_, rfl, _, _, rfl, rfl, ⟨by decide, by decide⟩, _, rfl, _, _, rfl, rfl, ⟨by decide, by decide⟩, _, _, rfl, rfl, .inl ⟨by decide, by decide⟩, _, _, rfl, rfl, _, rfl, _, _, rfl, rfl, m0, ?_⟩
    generalize (b + 7919 * (c + 1) + 83) ^ (5 : Int).toNat % 2147483647 = A1 at bA bB ⊢
    generalize (A1 / 8 + 96581 * (c + 1) * (c + 1) + 3) ^ (3 : Int).toNat % 2147483629 = B1 at bB ⊢
    have bm := modBounds (A1 / 4 + 536870909 * (B1 / 4)) m m0
    exact q _ _ bm.1 bm.2 t2
end
end K18
namespace K18
open PySem PySem.Spec PyProof.Rows L2 Gr
/-- an item of a written list of ints -/
theorem at_ints (ns : List Int) (k : Int) (h0 : 0 ≤ k) (h : k < (ns.length : Int)) : ∃ n, n ∈ ns ∧ atI (ns.map V.int) k = some (.int n) := by
  have hk : k.toNat < ns.length := by omega
  have ek : k = ((k.toNat : Nat) : Int) := by omega
  refine ⟨ns[k.toNat], List.getElem_mem hk, ?_⟩
  have q : atI (ns.map V.int) ((k.toNat : Nat) : Int) = some (.int ns[k.toNat]) := atI_nat (by rw [List.getElem?_map, List.getElem?_eq_getElem hk] <;> rfl)
  rw [← ek] at q
  exact q
/-- at any written list -/
theorem at_any (vs : List V) (k : Int) (h0 : 0 ≤ k) (h : k < (vs.length : Int)) : ∃ v, v ∈ vs ∧ atI vs k = some v := by
  have hk : k.toNat < vs.length := by omega
  have ek : k = ((k.toNat : Nat) : Int) := by omega
  refine ⟨vs[k.toNat], List.getElem_mem hk, ?_⟩
  have q : atI vs ((k.toNat : Nat) : Int) = some vs[k.toNat] := atI_nat (List.getElem?_eq_getElem hk)
  rw [← ek] at q
  exact q
theorem same_upd {H : Hp} {p : Addr} (h : H p = none) (o : HO) : Same H (upd H p o) := same_new h o
/-- what stands in G and wasn't in H -/
def fresh (H G : Hp) : Hp := fun b => match H b with | none => G b | some _ => none
theorem fresh_of {H G : Hp} {b : Addr} (h : H b = none) : fresh H G b = G b := by
  unfold fresh
  rw [h]
theorem fresh_le {H G : Hp} : Same (fresh H G) G := fun b o e => by
  unfold fresh at e
  split at e
  · exact e
  · cases e
/-- no object is lost -/
def Grows (H G : Hp) : Prop := ∀ b, H b ≠ none → G b ≠ none
theorem Grows.trans {A B C : Hp} (x : Grows A B) (y : Grows B C) : Grows A C := fun b h => y b (x b h)
theorem Grows.refl {A : Hp} : Grows A A := fun _ h => h
theorem grows_upd {H : Hp} {p : Addr} {o : HO} : Grows H (upd H p o) := fun b h => by
  by_cases z : b = p
  · rw [z, upd_same]
    exact fun q => nomatch q
  · rw [upd_ne z]
    exact h
theorem Grows.of_same {H G : Hp} (e : Same H G) : Grows H G := fun b h => by
  cases q : H b with
  | none => exact absurd q h
  | some o => rw [e _ _ q]; exact fun z => nomatch z
theorem none_of_grows {H G : Hp} (g : Grows H G) {b : Addr} (h : G b = none) : H b = none := by
  cases q : H b with
  | none => rfl
  | some o => exact absurd h (g b (by rw [q]; exact fun z => nomatch z))
/-- seen from earlier on -/
theorem fresh_mono {H G F : Hp} (g : Grows H G) : Same (fresh G F) (fresh H F) := fun b o e => by
  unfold fresh at e
  split at e
  · rename_i q
    rw [fresh_of (none_of_grows g q)]
    exact e
  · cases e
/-- later on -/
theorem fresh_later {H G F : Hp} (k : ∀ b o, H b = none → G b = some o → F b = some o) : Same (fresh H G) (fresh H F) := fun b o e => by
  unfold fresh at e
  split at e
  · rename_i q
    rw [fresh_of q]
    exact k b o q e
  · cases e
theorem fresh_upd {H G : Hp} {p : Addr} {o : HO} (hp : H p ≠ none) : Same (fresh H G) (fresh H (upd G p o)) :=
  fresh_later fun b u h e => by rw [upd_ne (fun z => hp (by rw [← z]; exact h))]; exact e
theorem fresh_same {H G F : Hp} (k : Same G F) : Same (fresh H G) (fresh H F) := fresh_later fun b o _ e => k b o e
theorem _root_.Gr.Dq.le {K : PySem.W.Frag} {H G : Hp} {v : V} {d : PyData} (h : Dq K H v d) (e : Same H G) : Dq K G v d := Dq.same e d v h
theorem _root_.Gr.DqAll.le {K : PySem.W.Frag} {H G : Hp} {vs : List V} {ds : List PyData} (h : DqAll K H vs ds) (e : Same H G) : DqAll K G vs ds := DqAll.same e ds vs h

theorem yes_if {σ : L2.St} {H : Hp} {A B : Hp → Prop} (h : A H) : tYes σ H (fun b G => if b = true then A G else B G) := by
  show (if true = true then A H else B H)
  rw [if_pos rfl]
  exact h
section
variable {X : Cx} {k n : Nat} {x : Str} {ps : List Str} {sp : Sp} {f : Addr} {fd : FuncData} {e : Expr} {es : List Expr} {t : TA} {p pos : Pos}
theorem pe_cal (C : Cal X.prog X.w X.K X.mg X.base k x ps sp f fd) (hr : Room n X.A) (gl : Gl X x) (ha : PA X (e :: es) t) (hk : k ≤ n := by omega) (hdb : (x == ("__debug__" : Str)) = false := by decide) (he : starEach (e :: es) X.env = (false, eval e X.env) :: starEach es X.env := by rfl) (hpl : (backTo pos (starEach es X.env)).any (·.1) = false := by rfl) :
    PE X (.Call (.Name x p) (e :: es) [] pos) (tCall sp [] E0 t) := pe_call C.ok (hr.mono hk) gl C.at_ C.kp C.bd .nil pass0 ha hdb he hpl
end
end K18
/-! isinstance of data, by built-in types. -/
namespace Gr
open PySem PySem.Spec PyProof.Rows L2
def tyn : PyData → String
  | .none => "NoneType"
  | .bool _ => "bool"
  | .int _ => "int"
  | .str _ => "str"
  | .list _ => "list"
  | .tuple _ => "tuple"
  | .dict _ => "dict"
theorem Dq.ty {K : PySem.W.Frag} {H : Hp} {v : V} {d : PyData} (I : ∀ a xs, SqL K H a xs → TyX K H (.ref a) (.type "list")) (J : ∀ a xs, SqT K H a xs → TyX K H (.ref a) (.type "tuple")) (h : Dq K H v d) : TyX K H v (.type (tyn d)) := by
  cases h with
  | non => exact .base .non
  | bl b => exact .base (.bl b)
  | int i => exact .base (.int i)
  | str x => exact .base (.str x)
  | lst hs _ => exact I _ _ hs
  | tup hs _ => exact J _ _ hs
  | dic e _ => exact .base (.dK e)
theorem ty_seqL {K : PySem.W.Frag} {H : Hp} {a : Addr} {xs : List V} (h : SqL K H a xs) : TyX K H (.ref a) (.type "list") := by
  rcases h with (h | ⟨o, h⟩) | ⟨o, its, n, hk, hc, _⟩
  · exact .base (.lst h)
  · exact .base (.frz h)
  · exact .kList hk hc
theorem ty_seqT {K : PySem.W.Frag} {H : Hp} {a : Addr} {xs : List V} (h : SqT K H a xs) : TyX K H (.ref a) (.type "tuple") := by
  rcases h with (h | ⟨o, h⟩) | ⟨o, its, n, hk, hc, _⟩
  · exact .base (.tup h)
  · exact .fTuple h
  · exact .kTuple hk hc
def tyNames : List String := ["NoneType", "bool", "int", "str", "list", "tuple", "dict"]
theorem tyn_mem (d : PyData) : tyn d ∈ tyNames := by cases d <;> simp [tyn, tyNames]
def isN (T t : String) : Bool := T == t || (T == "int" && t == "bool")
/-- isinstance of the datum, by the type's name -/
def isT (T : String) (d : PyData) : Bool := isN T (tyn d)
theorem kit_names : ∀ t ∈ tyNames, ∀ T ∈ ["int", "bool", "str", "tuple", "list"], kitB t T = some (isN T t) := by decide +kernel
theorem kit_int {K : PySem.W.Frag} (d : PyData) : PySem.W.kitOne K (.type (tyn d)) (.type "int") = some (isT "int" d) := kit_ty (kit_names _ (tyn_mem d) _ (by decide))
theorem kit_bool {K : PySem.W.Frag} (d : PyData) : PySem.W.kitOne K (.type (tyn d)) (.type "bool") = some (isT "bool" d) := kit_ty (kit_names _ (tyn_mem d) _ (by decide))
theorem kit_str {K : PySem.W.Frag} (d : PyData) : PySem.W.kitOne K (.type (tyn d)) (.type "str") = some (isT "str" d) := kit_ty (kit_names _ (tyn_mem d) _ (by decide))
theorem kit_tuple {K : PySem.W.Frag} (d : PyData) : PySem.W.kitOne K (.type (tyn d)) (.type "tuple") = some (isT "tuple" d) := kit_ty (kit_names _ (tyn_mem d) _ (by decide))
theorem kit_list {K : PySem.W.Frag} (d : PyData) : PySem.W.kitOne K (.type (tyn d)) (.type "list") = some (isT "list" d) := kit_ty (kit_names _ (tyn_mem d) _ (by decide))
/-- which datum it is, by isinstance's answers -/
theorem isT_tuple {d : PyData} (h : isT "tuple" d = true) : ∃ ds, d = .tuple ds := by
  cases d <;> first | exact ⟨_, rfl⟩ | (simp [isT, isN, tyn] at h; done)
theorem isT_str {d : PyData} (h : isT "str" d = true) : ∃ x, d = .str x := by
  cases d <;> first | exact ⟨_, rfl⟩ | (simp [isT, isN, tyn] at h; done)
theorem isT_int {d : PyData} (h : isT "int" d = true) (h2 : isT "bool" d = false) : ∃ i, d = .int i := by
  cases d <;> first | exact ⟨_, rfl⟩ | (simp [isT, isN, tyn] at h; done) | (simp [isT, isN, tyn] at h2; done)
theorem isT_bool {d : PyData} (h : isT "bool" d = true) : ∃ b, d = .bool b := by
  cases d <;> first | exact ⟨_, rfl⟩ | (simp [isT, isN, tyn] at h; done)
/-- isinstance(x, T) of a datum: what the rule is asked -/
def rIsD (K : PySem.W.Frag) (T : String) : List V → Hp → VK → Prop := fun xs H Q => ∃ v d, xs = [v, .ty T] ∧ Dq K H v d ∧ Q (.bl (isT T d)) H
theorem call_isD {X : Cx} {T : String} (kit : ∀ d : PyData, PySem.W.kitOne X.K (.type (tyn d)) (.type T) = some (isT T d)) : CallR X (.builtin "isinstance") (rIsD X.K T) := by
  intro pins s σ H xs us Q I r h
  obtain ⟨v, d, rfl, hd, q⟩ := h
  exact call_isi pins s σ H _ us Q I r ⟨v, .ty T, _, _, isT T d, rfl, .ty T, Dq.ty (fun _ _ => ty_seqL) (fun _ _ => ty_seqT) hd, kit d, q⟩
theorem boot_isi : bootBuiltins "isinstance" = some (.builtin "isinstance") := by decide +kernel
theorem boot_repr : bootBuiltins "repr" = some (.builtin "repr") := by decide +kernel
theorem boot_all : bootBuiltins "all" = some (.builtin "all") := by decide +kernel
theorem boot_sum : bootBuiltins "sum" = some (.builtin "sum") := by decide +kernel
theorem boot_range : bootBuiltins "range" = some (.type "range") := by decide +kernel
end Gr
/-! a text is not equal to a dict -/
namespace PySem.SeqAt
open AutoSeq1 (wpAny_loadPart')
open MeetsSeq MeetsSeq2 MeetsSeq3 SeqRoads2
theorem gr_strDict (b : Str) (u : Tok) (l : Addr) (o : Obj) :
    Meets (Builtin.«str.__eq__» ⟨[.str b u, .ref l], []⟩) (fun _ R s => s.heap.get? l = some o ∧ (∃ es n, o.data = .dict es n) ∧ R (.ok (.ret .notImplemented)) s) :=
  .of_wp fun prog w A R s h => by
    obtain ⟨hp, g, d, tk, os⟩ := s; obtain ⟨hl, ⟨es, n, hd⟩, h⟩ := h
    obtain ⟨c, dd, da, sl⟩ := o
    dsimp only at hd
    subst hd
    wp_walk using wpAny_loadPart' hl, wpAny_load hl
    exact ⟨_, rfl, h⟩
section
variable {prog : Program} {w : World} {A : Around} {s : Shared}
theorem gr_dictStr {a : Addr} {b : Str} {u : Tok} {o : Obj} {E : Value → Shared → Prop} {Q : Value → Shared → Prop} (ho : s.heap.get? a = some o) (hc : o.cls = .type "dict") (h : Q .notImplemented s) : wpAny (model prog w) A (call (.builtin "dict.__eq__") [.ref a, .str b u]) Q E s := by
  have ty : s.TypeIs (.ref a) "dict" := ⟨_, ho, hc⟩
  refine wpAny_call_entry PySem.F.slot_dict_eq ty PySem.F.entry_dict_eq ?_ (PySem.F.args_dict_eq_2 _ _)
  show wpAny _ _ (Builtin.Dict.dictSlotArgs "__eq__" ⟨[.ref a, .str b u], []⟩ >>= _) _ _ s
  refine wpAny_bind ?_
  unfold Builtin.Dict.dictSlotArgs
  refine wpAny_bind (wpAny_notOrdered_dict ty ?_)
  show wpAny _ _ (pure (Value.ref a, Value.str b u)) _ _ s
  refine wpAny_pure ?_
  refine wpAny_bind (wpAny_isInstance (T := "str") (typeIs_str s b u) PySem.F.sub_str_dict ?_)
  simp only [Bool.not_false, if_true]
  exact wpAny_bind (wpAny_rule (wpAny_pure ⟨_, rfl, h⟩))
theorem gr_strDictAt {a : Addr} {b : Str} {u : Tok} {o : Obj} (ho : s.heap.get? a = some o) (hc : o.cls = .type "dict") (hd : ∃ es n, o.data = .dict es n) (hu : A.units < cLine) : EqAt A s (.str b u) (.ref a) false := fun prog w E Q h => by
  unfold eqBool
  refine wpAny_holding ?_
  refine wpAny_ite_split (fun hab => absurd (eq_of_beq hab) nofun) (fun _ => ?_)
  refine wpAny_bind ?_
  refine rc_eq_decline_or (k := false) (typeIs_str s b u) ⟨_, ho, hc⟩ (by decide) F.sub_dict_str F.slot_str_eq F.slot_dict_eq
    (fun _ hq => call_meets F.slot_str_eq (typeIs_str s b u) F.entry_str_eq (F.args_str_eq_2 _ _) (gr_strDict b u a o) ⟨ho, hd, hq⟩)
    (fun _ hq => gr_dictStr ho hc hq)
    (fun _ hq => wpAny_of_eq (rfl : isSame (.str b u) (.ref a) = pure false) hq) (.inr hu) (wpAny_truthy_bool h)
end
end PySem.SeqAt
/-! dicts told by what stands in them: keys and values of any kind. They are read (their pairs, isinstance, repr), never written. -/
namespace Gr
open PySem PySem.Spec PyProof.Rows L2 L2.DX
/-- the dict at a: its pairs in their order -/
def OddAt (a : Addr) (kvs : List (V × V)) (h : Heap) : Prop := ∃ (o : Obj) (es : Array DictEntry) (ep : Nat), h.get? a = some o ∧ o.ExactDict ∧ o.data = .dict es ep ∧ Paired (fun (p : V × V) (e : DictEntry) => RelV p.1 e.key ∧ RelV p.2 e.val) kvs es.toList ∧ kvs.length ≤ sizeLine ∧ (a == sysModules) = false
/-- pairs of keys, as values -/
def kvV (k0 : List (Key × V)) : List (V × V) := k0.map fun p => (kV p.1, p.2)
theorem pairs_rel {P : Program} {w : World} : ∀ {k0 : List (Key × V)} {us : List (Key × Value)} {l : List DictEntry}, KV k0 us → Pairs (mixKind P w) l us → Paired (fun (p : V × V) (e : DictEntry) => RelV p.1 e.key ∧ RelV p.2 e.val) (kvV k0) l
  | _, _, _, .nil, .nil => .nil
  | _, _, _, .cons r t, p => by
    cases p with
    | cons hk hv ht =>
      obtain ⟨e1, rv⟩ := r
      refine .cons ⟨?_, ?_⟩ (pairs_rel t ht)
      · show RelV (kV _) _
        rw [e1]
        exact relV_key (show keyIs _ _ = true from hk)
      · rw [hv]
        exact rv
theorem odd_dK {P : Program} {w : World} {H : Hp} {h : Heap} {a : Addr} {k0 : List (Key × V)} (x : ObjOk P w H h a (.dK k0)) : OddAt a (kvV k0) h := by
  obtain ⟨z, y, vs, r, o, es, ep, ho, hx, hd, _, hp, _⟩ := x
  exact ⟨o, es, ep, ho, hx, hd, pairs_rel r hp, by unfold kvV; rw [List.length_map]; exact z, y⟩
/-- a dict that may be read -/
inductive DicR (H : Hp) (a : Addr) : List (V × V) → Prop
  | k {k0 : List (Key × V)} : H a = some (.dK k0) → DicR H a (kvV k0)
  | fk {o : Obj} {k0 : List (Key × V)} : H a = some (.frz o (.dK k0)) → DicR H a (kvV k0)
  | fo {o : Obj} {kvs : List (V × V)} : H a = some (.frz o (.ext (OddAt a kvs))) → DicR H a kvs
  | o {kvs : List (V × V)} : H a = some (.ext (OddAt a kvs)) → DicR H a kvs
theorem DicR.le {H G : Hp} {a : Addr} {kvs : List (V × V)} (x : DicR H a kvs) (s : Same H G) : DicR G a kvs := by
  cases x with
  | k e => exact .k (s _ _ e)
  | fk e => exact .fk (s _ _ e)
  | fo e => exact .fo (s _ _ e)
  | o e => exact .o (s _ _ e)
/-- one that stays as it is -/
def PinR (H : Hp) (a : Addr) (o : Obj) (kvs : List (V × V)) : Prop := (∃ k0, H a = some (.frz o (.dK k0)) ∧ kvs = kvV k0) ∨ H a = some (.frz o (.ext (OddAt a kvs)))
theorem PinR.le {H G : Hp} {a : Addr} {o : Obj} {kvs : List (V × V)} (x : PinR H a o kvs) (s : Same H G) : PinR G a o kvs := by
  rcases x with ⟨k0, e, r⟩ | e
  · exact .inl ⟨k0, s _ _ e, r⟩
  · exact .inr (s _ _ e)
theorem PinR.dic {H : Hp} {a : Addr} {o : Obj} {kvs : List (V × V)} (x : PinR H a o kvs) : DicR H a kvs := by
  rcases x with ⟨k0, e, rfl⟩ | e
  · exact .fk e
  · exact .fo e
section
variable {X : Cx} {pins : List (Addr × Obj)} {σ : L2.St} {H : Hp} {s : Shared} {a : Addr} {kvs : List (V × V)}
theorem DicR.raw (I : Inv X pins σ H s) (x : DicR H a kvs) : OddAt a kvs s.heap := by
  cases x with
  | k e => exact odd_dK (I.hok _ _ e)
  | fk e => exact odd_dK (show ObjOk X.prog X.w H s.heap a (.frz _ (.dK _)) from I.hok _ _ e).2
  | fo e => exact (show ObjOk X.prog X.w H s.heap a (.frz _ (.ext _)) from I.hok _ _ e).2.1
  | o e => exact (show ObjOk X.prog X.w H s.heap a (.ext _) from I.hok _ _ e).1
theorem PinR.raw {o : Obj} (I : Inv X pins σ H s) (x : PinR H a o kvs) : s.heap.get? a = some o ∧ o.ExactDict ∧ (∃ (es : Array DictEntry) (ep : Nat), o.data = .dict es ep ∧ Paired (fun (p : V × V) (e : DictEntry) => RelV p.1 e.key ∧ RelV p.2 e.val) kvs es.toList) ∧ kvs.length ≤ sizeLine ∧ (a == sysModules) = false := by
  have h1 : s.heap.get? a = some o := by
    rcases x with ⟨k0, e, _⟩ | e
    · exact (show ObjOk X.prog X.w H s.heap a (.frz _ (.dK _)) from I.hok _ _ e).1
    · exact (show ObjOk X.prog X.w H s.heap a (.frz _ (.ext _)) from I.hok _ _ e).1
  obtain ⟨o2, es, ep, ho, hx, hd, hp, hz, hs⟩ := x.dic.raw I
  rw [h1] at ho
  cases ho
  exact ⟨h1, hx, ⟨es, ep, hd, hp⟩, hz, hs⟩
end
/-! ### its pairs as a view -/
section
variable {X : Cx}
def rItemsR : V → List V → Hp → VK → Prop := fun x xs H Q => ∃ (a : Addr) (kvs : List (V × V)), x = .ref a ∧ xs = [] ∧ DicR H a kvs ∧ ∀ p, H p = none → Q (.ref p) (upd H p (itemsO p a))
theorem mt_itemsR : MtR X "dict.items" rItemsR := by
  intro pins s σ H x xs v us Q I rx rxs h
  obtain ⟨a, kvs, rfl, rfl, ha, q⟩ := h
  cases rx
  cases rxs
  obtain ⟨o, es, ep, ho, hx, hdat, _, _, hd⟩ := ha.raw I
  refine DT.callItems (es := es) (ep := ep) hd ⟨o, ho, hx, hdat⟩ ?_
  have hf : H s.heap.objs.size = none := I.hok.fresh (Nat.le_refl _)
  exact ⟨.ref s.heap.objs.size, upd H s.heap.objs.size (itemsO s.heap.objs.size a), I.laid (t' := s.toks) (fun b u e => Heap.get?_push_of_some _ e) (Nat.le_refl _) (itemsO_ok (Heap.get?_push_size _ rfl)), rfl, q _ hf⟩
end
/-! ### walked, pair by pair -/
def ItR (d : Addr) (o : Obj) (kvs : List (V × V)) : It :=
  ⟨fun i H => PinR H d o kvs ∧ i < kvs.length, fun i H x H' => ∃ T k v, kvs[i]? = some (k, v) ∧ x = .ref T ∧ H T = none ∧ H' = upd H T (.tup [k, v]), fun i H => PinR H d o kvs ∧ kvs.length ≤ i⟩
theorem walk_itemsR {d : Addr} {o : Obj} {kvs : List (V × V)} : Walk (ItR d o kvs) kvs.length (fun H => PinR H d o kvs) (YPair (fun i => kvs[i]?.map Prod.fst) (fun i => kvs[i]?.map Prod.snd)) :=
  ⟨fun i H hi h => ⟨h, hi⟩, fun H h => ⟨h, Nat.le_refl _⟩, fun i H x H' hi h y => by
    obtain ⟨T, k, v, e, rfl, hT, rfl⟩ := y
    exact ⟨T, k, v, rfl, hT, rfl, by show kvs[i]?.map Prod.fst = _; rw [e]; rfl, by show kvs[i]?.map Prod.snd = _; rw [e]; rfl⟩⟩
theorem paired_at {α β : Type} {F : α → β → Prop} {xs : List α} {ys : List β} (h : Paired F xs ys) {i : Nat} {x : α} (e : xs[i]? = some x) : ∃ y, ys[i]? = some y ∧ F x y := LiI.paired_get h e
theorem turn_itemsR {P : Program} {w : World} {K : PySem.W.Frag} {d : Addr} {o : Obj} {es : Array DictEntry} {ep : Nat} {kvs : List (V × V)} {elts : List Expr} {kk : Nat} {tpos : Pos} (it : Addr) (hod : o.data = .dict es ep) :
    Turn P w K (.Tuple elts kk tpos) (ItR d o kvs) [it] it (fun i h => ∃ ok ov, IsItemIter h it d i es.size ep ok ov) where
  mem := by simp
  obj := fun i h st b hb => by
    obtain rfl : b = it := by simpa using hb
    obtain ⟨ok, ov, e⟩ := st
    exact ⟨_, e, fun v z => nomatch z⟩
  keep := fun i h h' st k => let ⟨ok, ov, e⟩ := st; ⟨ok, ov, k it (by simp) _ e⟩
  item := by
    intro X hP hw hK hc i pins s σ H E I hf st hg
    subst hP hw hK
    obtain ⟨pin, hi⟩ := hg
    obtain ⟨hod2, hx, ⟨es2, ep2, hdt, hp⟩, _, _⟩ := pin.raw I
    rw [hod] at hdt
    cases hdt
    have hl : kvs.length = es.size := by rw [← Array.length_toList]; exact Paired.length hp
    obtain ⟨ok, ov, he⟩ := st
    have hlt : it < s.heap.objs.size := Heap.lt_size he
    have hie : i < es.size := by omega
    obtain ⟨⟨k, v⟩, hkv⟩ : ∃ p, kvs[i]? = some p := ⟨kvs[i], List.getElem?_eq_getElem hi⟩
    obtain ⟨en, hen, rk, rv⟩ := paired_at hp hkv
    have een : es[i] = en := by
      have := hen
      rw [Array.getElem?_toList, Array.getElem?_eq_getElem hie] at this
      exact Option.some.inj this
    refine DT.nextI he ⟨o, hod2, hx, hod⟩ hie fun h' ho hT hz hk => ?_
    rw [een] at ho hT
    refine ⟨_, rfl, wpAny_letOwnedTupleGo_items (s := { s with heap := h' }) ho fun h'' he' sb => ?_⟩
    have hT2 : h''.get? s.heap.objs.size = some { cls := .type "tuple", data := .seq #[en.key, en.val] } := (sb.2 _ (Nat.ne_of_gt hlt)).trans hT
    have new : ObjOk X.prog X.w (upd H s.heap.objs.size (.tup [k, v])) h'' s.heap.objs.size (.tup [k, v]) :=
      ⟨by show 2 ≤ sizeLine; decide, [en.key, en.val], .cons rk (.cons rv .nil), ⟨_, hT2, rfl, _, rfl⟩⟩
    have I1 : Inv X pins σ (upd H s.heap.objs.size (.tup [k, v])) { s with heap := h'' } :=
      I.turnedNew (t' := s.toks) (ch := [it]) (fun b ob hb e => (sb.2 b (by simpa using hb)).trans (hk b ob (by simpa using hb) e)) hf (Nat.le_refl _) new
    refine ⟨.ref s.heap.objs.size, _, I1, rfl, ⟨_, k, v, hkv, rfl, I.hok.fresh (Nat.le_refl _), rfl⟩, ⟨en.key, en.val, he'⟩, fun b hb => ?_⟩
    obtain rfl : b = it := by simpa using hb
    rw [upd_ne (Nat.ne_of_lt hlt)]
    exact (hf b (by simp)).1
  done := by
    intro X hP hw hK hc i pins s σ H E I hf st hg
    subst hP hw hK
    obtain ⟨pin, hi⟩ := hg
    obtain ⟨f0, f1, f2, f3, f4, f5⟩ := hf it (by simp)
    obtain ⟨hod2, hx, ⟨es2, ep2, hdt, hp⟩, _, _⟩ := pin.raw I
    rw [hod] at hdt
    cases hdt
    have hl : kvs.length = es.size := by rw [← Array.length_toList]; exact Paired.length hp
    obtain ⟨ok, ov, he⟩ := st
    exact DT.endI (I.ok.hd hc) he ⟨o, hod2, hx, hod⟩ (by omega) fun h' eb => ⟨rfl, I.turned (t' := s.toks) (fun b ob hb e => eb b ob hb e) f0 f1 f3 f4 f5⟩
  self := fun A i s Q E st h => let ⟨_, _, e⟩ := st; PySem.W.kcp_self e h
def iItemsR (td : TE) : TI := fun σ H R => td σ H fun x H1 => ∃ d o kvs, x = .ref d ∧ PinR H1 d o kvs ∧ R (ItR d o kvs) H1
section
variable {X : Cx} {tg e : Expr} {td : TE} {apos cpos : Pos}
theorem pi_itemsR {elts : List Expr} {kk : Nat} {tpos : Pos} (he : PE X e td) (hbase : attributeBase e "items" X.env (eval e X.env) = eval e X.env := by rfl) (hline : (apos.endLine == cpos.line) = true := by rfl) :
    PI X (.Tuple elts kk tpos) (.Call (.Attribute e "items" apos) [] [] cpos) (iItemsR td) := by
  refine ⟨fun pins s σ H R I h => ?_⟩
  refine wpAny_Call_method (T := "dict") (id := "dict.items") hbase rfl hline F.plainAttrs_dict F.slot_dict_items F.type_dict_items (thn (he.run pins s σ H _ I h) fun u s1 ⟨x, H1, I1, rx, d, o, kvs, ex, hd, q⟩ => ?_)
  subst ex
  obtain rfl : u = Value.ref d := rx
  obtain ⟨ho, hx, ⟨es, ep, hdt, hp⟩, _, hs⟩ := hd.raw I1
  have raw : DT.Raw s1.heap d es ep := ⟨o, ho, hx, hdt⟩
  refine ⟨raw.typeIs, fun b eb => by injection eb with eb; subst eb; exact ⟨o, ho, hx.2.1⟩, ?_⟩
  have I2 : Inv X pins σ H1 { s1 with heap := s1.heap.push { cls := .type "dict_items", data := .fields #[.ref d] } } := I1.kept (t' := s1.toks) fun b ob q => Heap.get?_push_of_some _ q
  have fin : wpAny (model X.prog X.w) X.A (pyIter (.ref s1.heap.objs.size)) (PIE X pins σ (.Tuple elts kk tpos) R) X.xe { s1 with heap := s1.heap.push { cls := .type "dict_items", data := .fields #[.ref d] } } :=
    DT.iterI (d := d) ⟨_, Heap.get?_push_size _ rfl, rfl, rfl⟩ (raw.push _) (pi_one (tk := s1.toks) I2 _ (turn_itemsR _ hdt) ⟨.none, .none, Heap.get?_push_size _ rfl⟩ q)
  show wpAny _ _ (callWith cpos (.builtin "dict.items") [.ref d] [] []) _ X.xe s1
  exact method_meetsIn F.slot_dict_items F.entry_dict_items rfl (PySem.evalArgs_none ⟨rfl, raw.typeIs, F.args_dict_items_1 _, _, DT.meetsItems (es := es) (ep := ep) hs, raw, fin⟩)
/-- walked as it is, or locked for the walk -/
theorem pe_or {t1 t2 : TE} (h1 : PE X e t1) (h2 : PE X e t2) : PE X e (fun σ H Q => t1 σ H Q ∨ t2 σ H Q) := ⟨fun pins s σ H Q I h => h.elim (h1.run pins s σ H Q I) (h2.run pins s σ H Q I)⟩
/-- what a value is, stays as it is from now on -/
def tFrzE (t : TE) : TE := fun σ H Q => t σ H fun v H1 => ∃ d u, v = .ref d ∧ H1 d = some u ∧ Mut (some u) ∧ ∀ od, Q v (upd H1 d (.frz od u))
theorem pe_frz {t : TE} (h : PE X e t) : PE X e (tFrzE t) := by
  refine ⟨fun pins s σ H Q I hw => ?_⟩
  refine thn (h.run pins s σ _ _ I hw) fun v s1 ⟨x, H1, I2, r, d, u, ev, hd, mu, q⟩ => ?_
  obtain ⟨od, I3⟩ := I2.lock hd mu
  exact ⟨x, _, I3, r, q od⟩
theorem ps_frz {st : Stmt} {t : TS} (h : PS X st t) : PS X st (fun D σ H => (∃ d u, H d = some u ∧ Mut (some u) ∧ ∀ od, t D σ (upd H d (.frz od u))) ∨ t D σ H) := by
  refine ⟨fun pins s σ H D I hw => ?_⟩
  rcases hw with ⟨d, u, hd, mu, q⟩ | q
  · obtain ⟨od, I1⟩ := I.lock hd mu
    exact h.run pins s σ _ D I1 (q od)
  · exact h.run pins s σ H D I q
end
end Gr
/-! a key that a dict hasn't, of any kind, is stored -/
namespace Gr
open PySem PySem.Spec PyProof.Rows L2
section
variable {prog : Program} {w : World} {A : Around} {E : Value → Shared → Prop} {s : Shared} {d : Addr} {o : Obj} {es : Array DictEntry} {ep : Nat} {k : NestedKey} {u : Value} {h : Int}
/-- no key of these is k -/
def Unlike (hp : Heap) (k : NestedKey) (es : Array DictEntry) : Prop := ∀ e ∈ es, ∃ j, NestedIs hp j e.key ∧ j.depth ≤ 8 ∧ NestedKey.beq j k = false
theorem eq_new {e : DictEntry} {Q : Bool → Shared → Prop} (hu : A.units + 8 < cLine) (hk : NestedIs s.heap k u) (kd : k.depth ≤ 8) (ne : Unlike s.heap k es) (he : e ∈ es) (q : Q false s) : wpAny (model prog w) A (eqBool e.key u) Q E s := by
  obtain ⟨j, hj, jd, nj⟩ := ne e he
  refine eqAt_key j k A s _ _ hj hk (by omega) _ _ _ _ ?_
  rw [nj]
  exact q
theorem plain_new {Q : Option Nat → Shared → Prop} (hu : A.units + 8 < cLine) (hk : NestedIs s.heap k u) (kd : k.depth ≤ 8) (ho : s.heap.get? d = some o) (hd : o.data = .dict es ep) (ne : Unlike s.heap k es) (places : List Nat) (q : Q none s) :
    wpAny (model prog w) A (dictWalkPlain d u h es places) Q E s := by
  unfold dictWalkPlain
  refine wpAny_bind ?_
  refine wpAny_forIn_list _ (fun _ r s' => s' = s ∧ r = (none, ())) _ ?_ ?_ _ _ ⟨rfl, rfl⟩
  · rintro i rest r s' ⟨rfl, rfl⟩
    cases hei : es[i]? with
    | none => exact wpAny_pure ⟨rfl, rfl⟩
    | some e =>
      have he : e ∈ es := Array.mem_of_getElem? hei
      dsimp only
      by_cases hh : (e.hash == h) = true
      · rw [if_pos hh]
        refine wpAny_bind (wpAny_dictEpoch ho hd (wpAny_bind (eq_new hu hk kd ne he (wpAny_bind (wpAny_dictEpoch ho hd ?_)))))
        show wpAny _ _ (if (ep != ep) = true then _ else _) _ E _
        rw [if_neg (by simp)]
        simp only [Bool.false_eq_true, if_false]
        exact wpAny_bind (wpAny_rule (wpAny_pure ⟨rfl, rfl⟩))
      · rw [if_neg hh]
        exact wpAny_pure ⟨rfl, rfl⟩
  · rintro r s' ⟨rfl, rfl⟩
    exact wpAny_pure q
theorem tell_new {stored : List Value} {Q : Bool → Shared → Prop} (hk : NestedIs s.heap k u) (kd : k.depth ≤ 8) (st : ∀ v ∈ stored, ∃ j, NestedIs s.heap j v ∧ j.depth ≤ 8) (q : Q false s) : wpAny (model prog w) A (tableMayTell u stored) Q E s := by
  unfold tableMayTell
  split
  · exact wpAny_pure q
  refine wpAny_bind (quiet_key k u 8 s hk kd _ _ _ ?_)
  rw [if_neg (by decide)]
  refine wpAny_bind ?_
  refine wpAny_forIn_list _ (fun more r s' => s' = s ∧ r = (none, ()) ∧ ∀ v ∈ more, ∃ j, NestedIs s.heap j v ∧ j.depth ≤ 8) _ ?_ ?_ _ _ ⟨rfl, rfl, st⟩
  · rintro v more r s' ⟨rfl, rfl, hm⟩
    obtain ⟨j, hj, jd⟩ := hm v List.mem_cons_self
    refine wpAny_bind (quiet_key j v 8 s' hj jd _ _ _ ?_)
    rw [if_neg (by decide)]
    exact wpAny_pure ⟨rfl, rfl, fun v hv => hm v (List.mem_cons_of_mem _ hv)⟩
  · rintro r s' ⟨rfl, rfl, _⟩
    exact wpAny_pure q
theorem stored_of (ne : Unlike s.heap k es) (places : List Nat) : ∀ v ∈ places.filterMap (fun i => es[i]?.map (·.key)), ∃ j, NestedIs s.heap j v ∧ j.depth ≤ 8 := fun v hv => by
  obtain ⟨i, _, e⟩ := List.mem_filterMap.mp hv
  obtain ⟨en, e1, rfl⟩ := Option.map_eq_some_iff.mp e
  obtain ⟨j, h1, h2, _⟩ := ne en (Array.mem_of_getElem? e1)
  exact ⟨j, h1, h2⟩
theorem find_new {Q : Option Nat → Shared → Prop} (hu : A.units + 8 < cLine) (hk : NestedIs s.heap k u) (kd : k.depth ≤ 8) (ho : s.heap.get? d = some o) (hd : o.data = .dict es ep) (ne : Unlike s.heap k es) (ns : ∀ x t, u = .str x t → es.all (fun e => isExactStrKey e.key) = false) (q : Q none s) :
    wpAny (model prog w) A (dictFind d u h) Q E s := by
  have st := stored_of (s := s) ne (placesWithHash es.size (fun i => es[i]?.map (·.hash)) h)
  unfold dictFind
  refine wpAny_holding ?_
  refine wpAny_bind (wpAny_dictEntries ho hd ?_)
  have plain := plain_new (prog := prog) (w := w) (A := A) (E := E) (h := h) (Q := Q) hu hk kd ho hd ne (placesWithHash es.size (fun i => es[i]?.map (·.hash)) h) q
  have anyR : ∀ (a : Addr), u = .ref a → (es.any fun e => e.key == Value.ref a && e.hash != h) = false := fun a ea => by
    rw [Array.any_eq_false]
    intro i hi
    have he : es[i] ∈ es := Array.getElem_mem hi
    obtain ⟨j, hj, _, nj⟩ := ne es[i] he
    intro c
    rw [Bool.and_eq_true] at c
    have e1 : es[i].key = u := by rw [ea]; exact beq_iff_eq.mp c.1
    rw [e1] at hj
    have := NestedIs.inj j k u hj hk
    rw [this, NestedKey.beq_self] at nj
    cases nj
  have hk0 := hk
  have first : ∀ (x : Str) (t : Tok), u = .str x t → ¬ (es.all fun e => isExactStrKey e.key) = true := fun x t e => by rw [ns x t e]; decide
  cases hk
  all_goals
    dsimp only
    try rw [if_neg (first _ _ rfl)]
    refine wpAny_ite_split (fun _ => plain) (fun _ => ?_)
    try dsimp only
    try rw [if_neg (by rw [anyR _ rfl]; decide)]
    refine wpAny_ite_split (fun _ => wpAny_bind (wpAny_pure ?_)) (fun _ => wpAny_bind (tell_new hk0 kd st ?_))
    all_goals
      try dsimp only
      rw [if_neg (by rw [Bool.false_and]; decide)]
      refine wpAny_bind ?_
      refine wpAny_forIn_list _ (fun _ r s' => s' = s ∧ r = (none, none)) _ ?_ ?_ _ _ ⟨rfl, rfl⟩
      · rintro i more r s' ⟨rfl, rfl⟩
        cases hei : es[i]? with
        | none => exact wpAny_pure ⟨rfl, rfl⟩
        | some e =>
          have he : e ∈ es := Array.mem_of_getElem? hei
          dsimp only
          by_cases hh : (e.hash == h) = true
          · rw [if_pos hh]
            refine wpAny_bind (wpAny_dictEpoch ho hd (wpAny_bind (eq_new hu hk0 kd ne he (wpAny_bind (wpAny_dictEpoch ho hd ?_)))))
            rw [if_neg (by simp)]
            simp only [Bool.false_eq_true, if_false]
            refine wpAny_bind (wpAny_rule ?_)
            first
              | exact wpAny_pure ⟨rfl, rfl⟩
              | (simp only [Bool.false_and, Bool.false_eq_true, if_false]; exact wpAny_pure ⟨rfl, rfl⟩)
          · rw [if_neg hh]
            exact wpAny_pure ⟨rfl, rfl⟩
      · rintro r s' ⟨rfl, rfl⟩
        exact wpAny_pure q
theorem set_new {v : Value} {Q : Unit → Shared → Prop} (hu : A.in1.units + 8 < cLine) (hk : NestedIs s.heap k u) (kd : k.depth ≤ 8) (raw : DT.Raw s.heap d es ep) (ne : Unlike s.heap k es) (ns : ∀ x t, u = .str x t → es.all (fun e => isExactStrKey e.key) = false) (hz : es.size ≤ sizeLine)
    (q : ∀ h', DT.Raw h' d (es.push ⟨k.hash w, u, v⟩) (ep + 1) → Heap.SameBut d s.heap h' → Q () { s with heap := h', toks := s.toks + k.draws }) : wpAny (model prog w) A (setItem (.ref d) u v) Q E s := by
  have ty := raw.typeIs
  obtain ⟨o, ho, hx, hd⟩ := raw
  unfold setItem
  refine wpAny_holding (wpAny_bind (wpAny_sequenceKey ty (by decide) ?_))
  refine wpAny_bind (wpAny_callSpecial?_slot (name := Str.ofString "__setitem__") ty F.slot_dict_setitem (wpAny_call_entry F.slot_dict_setitem ty F.entry_dict_setitem ?_ (args_dict_setitem _ _ _)))
  show wpAny _ _ (Builtin.Dict.notOrdered "__setitem__" ⟨[.ref d, u, v], []⟩ >>= _) _ _ s
  refine wpAny_bind (wpAny_notOrdered_dict ty ?_)
  show wpAny _ _ (dictSet d u v >>= _) _ _ s
  refine wpAny_bind ?_
  unfold dictSet
  refine wpAny_holding (wpAny_bind (pyHash_key k u A.in1 s _ hk (by omega) ?_))
  unfold dictSetHashed
  refine wpAny_holding (wpAny_bind (find_new (s := { s with toks := s.toks + k.draws }) hu hk kd ho hd ne ns ?_))
  refine wpAny_bind (wpAny_rule (wpAny_updateDictKeys (hz := hz) (s := { s with toks := s.toks + k.draws }) ho hd ?_))
  refine wpAny_pure ⟨.none, rfl, wpAny_pure (q _ ⟨_, Heap.get?_update_self _ ho (Obj.isFreed_of_dict (Obj.data_mapDictKeys hd _)), hx.mapDictKeys _, Obj.data_mapDictKeys hd _⟩ (Heap.SameBut.update ..))⟩
end
end Gr
/-! d[y] = v where y is None, or a tuple of texts, and d has only whole numbers and texts -/
namespace Gr
open PySem PySem.Spec PyProof.Rows L2
/-- such a key -/
def NewKey (H : Hp) (y : V) : Prop := y = .non ∨ ∃ (b : Addr) (zs : List Str), y = .ref b ∧ H b = some (.tup (zs.map V.str))
def PutN (H : Hp) (a : Addr) (y v : V) (H' : Hp) : Prop := DPut H a y v H' ∨ ∃ kvs, H a = some (.dK kvs) ∧ NewKey H y ∧ kvs.length < sizeLine ∧ H' = upd H a (.ext (OddAt a (kvV kvs ++ [(y, v)])))
theorem texts_are {hp : Heap} : ∀ {zs : List Str} {us : List Value}, Vals (zs.map V.str) us → NestedAll hp (zs.map NestedKey.text) us
  | [], _, h => by cases h; exact .nil
  | z :: zs, _, h => by
    cases h with
    | cons h1 h2 =>
      obtain ⟨t, rfl⟩ := h1
      exact .cons (.text z t) (texts_are h2)
theorem depth_texts : ∀ zs : List Str, NestedKey.depthAll (zs.map NestedKey.text) = 0
  | [] => rfl
  | z :: zs => by
    simp only [List.map_cons, NestedKey.depthAll, depth_texts zs]
    rfl
theorem paired_app {α β : Type} {F : α → β → Prop} : ∀ {a b : List α} {c d : List β}, Paired F a c → Paired F b d → Paired F (a ++ b) (c ++ d)
  | _, _, _, _, .nil, h => h
  | _, _, _, _, .cons x t, h => .cons x (paired_app t h)
section
variable {X : Cx} {pins : List (Addr × Obj)} {σ : L2.St} {H : Hp} {s : Shared} {a : Addr} {y v : V} {u r : Value} {A : Around} {E : Value → Shared → Prop}
theorem newKey_is (I : Inv X pins σ H s) (n : NewKey H y) (ry : RelV y u) : ∃ k : NestedKey, NestedIs s.heap k u ∧ k.depth ≤ 8 ∧ (∀ i, NestedKey.beq (.num i) k = false) ∧ (∀ x, NestedKey.beq (.text x) k = false) ∧ ∀ x t, u ≠ .str x t := by
  rcases n with rfl | ⟨b, zs, rfl, hb⟩
  · cases ry
    exact ⟨.none, .none, by decide, fun _ => rfl, fun _ => rfl, fun _ _ e => nomatch e⟩
  · cases (show u = Value.ref b from ry)
    obtain ⟨_, its, rv, o, ho, hc, n, hd⟩ := (show ObjOk X.prog X.w H s.heap b (.tup (zs.map V.str)) from I.hok b _ hb)
    refine ⟨.tup (zs.map .text), .tup ho hc hd (by simpa using texts_are rv), ?_, fun _ => rfl, fun _ => rfl, fun _ _ e => nomatch e⟩
    simp only [NestedKey.depth, depth_texts]
    decide
theorem d_setNew {H' : Hp} {Q : Unit → Shared → Prop} (hu : A.in1.units + 8 < cLine) (hu1 : A.units + 1 < cLine) (I : Inv X pins σ H s) (g : PutN H a y v H') (ry : RelV y u) (rv : RelV v r) (h : ∀ s', Inv X pins σ H' s' → Q () s') :
    wpAny (model X.prog X.w) A (setItem (.ref a) u r) Q E s := by
  rcases g with g | ⟨kvs, e, n, l, rfl⟩
  · exact d_setItem hu1 I g ry rv h
  obtain ⟨k, hk, kd, n1, n2, n3⟩ := newKey_is I n ry
  obtain ⟨z, hd, vs, rel, o, es, ep, ho, hx, hdat, hko, hp, nd⟩ := dk_of I.hok e
  have hsz : es.size = kvs.length := by
    have l1 := Pairs.length hp
    have l2 : kvs.length = vs.length := Paired.length rel
    rw [Array.length_toList] at l1
    omega
  refine set_new (es := es) (ep := ep) hu hk kd ⟨o, ho, hx, hdat⟩ (fun en hen => ?_) (fun x t e => absurd e (n3 x t)) (by omega) fun h' raw sb => h _ ?_
  · obtain ⟨q, hq, _⟩ := hko en hen
    rcases keyIs_shape (show keyIs q en.key = true from hq) with ⟨i, t, _, ev⟩ | ⟨x, t, _, ev⟩
    · rw [ev]
      exact ⟨.num i, .int i t, Nat.zero_le _, n1 i⟩
    · rw [ev]
      exact ⟨.text x, .text x t, Nat.zero_le _, n2 x⟩
  · obtain ⟨o', ho', hx', hd'⟩ := raw
    have odd : OddAt a (kvV kvs ++ [(y, v)]) h' := by
      refine ⟨o', _, _, ho', hx', hd', ?_, ?_, hd⟩
      · rw [Array.toList_push]
        exact paired_app (pairs_rel rel hp) (.cons ⟨ry, rv⟩ .nil)
      · unfold kvV
        rw [List.length_append, List.length_map]
        show kvs.length + 1 ≤ sizeLine
        omega
    exact d_write I (by rw [e]; exact True.intro) sb ⟨o', ho'⟩ ⟨odd, ⟨o', ho'⟩, fun h1 h2 x k => let ⟨q, a1, a2, b1, b2⟩ := x; ⟨q, a1, a2, k q b1, b2⟩⟩
end
def sDPutN (td ty tv : TE) : TS := fun D σ H => tv σ H fun v H1 => td σ H1 fun x H2 => ty σ H2 fun y H3 => ∃ a H4, x = .ref a ∧ PutN H3 a y v H4 ∧ D.nx σ H4
section
variable {X : Cx} {o i value : Expr} {td ty tv : TE} {pos pos' : Pos}
theorem ps_dputN (hu : X.A.units + 64 < cLine) (ho : PE X o td) (hi : PE X i ty) (hv : PE X value tv) (hs : swapsWith value (some (.Subscript o i pos')) pos.line X.env = pure false) :
    PS X (.Assign [.Subscript o i pos'] value pos) (sDPutN td ty tv) := by
  refine ⟨fun pins s σ H D I h => ?_⟩
  refine wpAny_Assign_Subscript (thn (hv.run pins s σ H _ I h) fun r s1 ⟨v, H1, I1, rv, q1⟩ => thn (ho.run pins s1 σ H1 _ I1 q1) fun u s2 ⟨x, H2, I2, rx, q2⟩ => thn (hi.run pins s2 σ H2 _ I2 q2) fun iv s3 ⟨y, H3, I3, ry, a, H4, ex, g, q3⟩ => ?_) hs
  subst ex
  obtain rfl : u = Value.ref a := rx
  exact d_setNew (by show X.A.units + 1 + 8 < cLine; omega) (by omega) I3 g ry rv fun s4 I4 => ⟨σ, H4, I4, q3⟩
end
end Gr
/-! data whose dicts have keys of any kind: repr, isinstance -/
namespace Gr
open PySem PySem.Spec PyProof.Rows L2
mutual
inductive Dn (K : PySem.W.Frag) (H : Hp) : V → PyData → Prop
  | non : Dn K H .non .none
  | bl (b : Bool) : Dn K H (.bl b) (.bool b)
  | int (i : Int) : Dn K H (.int i) (.int i)
  | str (x : Str) : Dn K H (.str x) (.str x)
  | lst {a : Addr} {xs : List V} {ds : List PyData} : SqL K H a xs → DnAll K H xs ds → Dn K H (.ref a) (.list ds)
  | tup {a : Addr} {xs : List V} {ds : List PyData} : SqT K H a xs → DnAll K H xs ds → Dn K H (.ref a) (.tuple ds)
  | dic {a : Addr} {kvs : List (V × V)} {ds : List (PyData × PyData)} : DicR H a kvs → DnKv K H kvs ds → Dn K H (.ref a) (.dict ds)
inductive DnAll (K : PySem.W.Frag) (H : Hp) : List V → List PyData → Prop
  | nil : DnAll K H [] []
  | cons {v : V} {vs : List V} {d : PyData} {ds : List PyData} : Dn K H v d → DnAll K H vs ds → DnAll K H (v :: vs) (d :: ds)
inductive DnKv (K : PySem.W.Frag) (H : Hp) : List (V × V) → List (PyData × PyData) → Prop
  | nil : DnKv K H [] []
  | cons {k v : V} {kvs : List (V × V)} {c d : PyData} {ds : List (PyData × PyData)} : Dn K H k c → Dn K H v d → DnKv K H kvs ds → DnKv K H ((k, v) :: kvs) ((c, d) :: ds)
end
mutual
theorem Dq.dn' {K : PySem.W.Frag} {H : Hp} : ∀ (d : PyData) (v : V), Dq K H v d → Dn K H v d
  | .none, _, h => by cases h; exact .non
  | .bool b, _, h => by cases h; exact .bl b
  | .int i, _, h => by cases h; exact .int i
  | .str x, _, h => by cases h; exact .str x
  | .list ds, _, h => by
    cases h with
    | lst hs ha => exact .lst hs (DqAll.dn' ds _ ha)
  | .tuple ds, _, h => by
    cases h with
    | tup hs ha => exact .tup hs (DqAll.dn' ds _ ha)
  | .dict kvs, _, h => by
    cases h with
    | @dic a x v d hd hv => exact .dic (.k hd) (.cons (.str x) (Dq.dn' _ _ hv) .nil)
theorem DqAll.dn' {K : PySem.W.Frag} {H : Hp} : ∀ (ds : List PyData) (vs : List V), DqAll K H vs ds → DnAll K H vs ds
  | [], _, h => by cases h; exact .nil
  | d :: ds, _, h => by
    cases h with
    | cons h1 h2 => exact .cons (Dq.dn' d _ h1) (DqAll.dn' ds _ h2)
end
theorem Dq.dn {K : PySem.W.Frag} {H : Hp} {v : V} {d : PyData} (h : Dq K H v d) : Dn K H v d := Dq.dn' d v h
mutual
theorem Dn.same {K : PySem.W.Frag} {H G : Hp} (e : Same H G) : ∀ (d : PyData) (v : V), Dn K H v d → Dn K G v d
  | .none, _, h => by cases h; exact .non
  | .bool b, _, h => by cases h; exact .bl b
  | .int i, _, h => by cases h; exact .int i
  | .str x, _, h => by cases h; exact .str x
  | .list ds, _, h => by
    cases h with
    | lst hs ha => exact .lst (e.seq hs) (DnAll.same e ds _ ha)
  | .tuple ds, _, h => by
    cases h with
    | tup hs ha => exact .tup (same_seqT e hs) (DnAll.same e ds _ ha)
  | .dict kvs, _, h => by
    cases h with
    | dic hd hv => exact .dic (hd.le e) (DnKv.same e _ _ hv)
theorem DnAll.same {K : PySem.W.Frag} {H G : Hp} (e : Same H G) : ∀ (ds : List PyData) (vs : List V), DnAll K H vs ds → DnAll K G vs ds
  | [], _, h => by cases h; exact .nil
  | d :: ds, _, h => by
    cases h with
    | cons h1 h2 => exact .cons (Dn.same e d _ h1) (DnAll.same e ds _ h2)
theorem DnKv.same {K : PySem.W.Frag} {H G : Hp} (e : Same H G) : ∀ (ds : List (PyData × PyData)) (vs : List (V × V)), DnKv K H vs ds → DnKv K G vs ds
  | [], _, h => by cases h; exact .nil
  | (c, d) :: ds, _, h => by
    cases h with
    | cons h0 h1 h2 => exact .cons (Dn.same e c _ h0) (Dn.same e d _ h1) (DnKv.same e ds _ h2)
end
theorem Dn.le {K : PySem.W.Frag} {H G : Hp} {v : V} {d : PyData} (h : Dn K H v d) (e : Same H G) : Dn K G v d := Dn.same e d v h
theorem DnAll.le {K : PySem.W.Frag} {H G : Hp} {vs : List V} {ds : List PyData} (h : DnAll K H vs ds) (e : Same H G) : DnAll K G vs ds := DnAll.same e ds vs h
theorem DnKv.le {K : PySem.W.Frag} {H G : Hp} {vs : List (V × V)} {ds : List (PyData × PyData)} (h : DnKv K H vs ds) (e : Same H G) : DnKv K G vs ds := DnKv.same e ds vs h
theorem DnKv.len {K : PySem.W.Frag} {H : Hp} : ∀ {vs : List (V × V)} {ds : List (PyData × PyData)}, DnKv K H vs ds → vs.length = ds.length
  | _, _, .nil => rfl
  | _, _, .cons _ _ t => by rw [List.length_cons, List.length_cons, t.len]
theorem DnKv.app {K : PySem.W.Frag} {H : Hp} : ∀ {vs us : List (V × V)} {ds es : List (PyData × PyData)}, DnKv K H vs ds → DnKv K H us es → DnKv K H (vs ++ us) (ds ++ es)
  | _, _, _, _, .nil, h => h
  | _, _, _, _, .cons a b t, h => .cons a b (t.app h)
section
variable {X : Cx} {pins : List (Addr × Obj)} {σ : L2.St} {H : Hp} {s : Shared}
mutual
/-- what a datum's text leans on -/
theorem Dn.shows (I : Inv X pins σ H s) : ∀ (d : PyData) (v : V) (u : Value), Dn X.K H v d → RelV v u → d.showable = true → d.shown.length ≤ sizeLine →
    ∃ as bs, Reads s.heap u d as ∧ ReadAtMost s.heap d.depth bs ∧ ReprK X.prog X.w bs s.heap d.depth u d.shown
  | .none, _, _, h, r, _, _ => by
    cases h
    cases r
    exact ⟨_, [], Reads.none, (fun _ z => nomatch z), by simp only [PyData.shown]; exact .of_is ReprIs.none _ _ _⟩
  | .bool b, _, _, h, r, _, _ => by
    cases h
    cases r
    exact ⟨_, [], Reads.bool b, (fun _ z => nomatch z), by simp only [PyData.shown]; exact .of_is (ReprIs.bool b) _ _ _⟩
  | .int i, _, _, h, r, hs, _ => by
    cases h
    obtain ⟨t, rfl⟩ := r
    exact ⟨_, [], Reads.int i t, (fun _ z => nomatch z), by simp only [PyData.shown]; exact .of_is (ReprIs.int t (by simpa [PyData.showable] using hs)) _ _ _⟩
  | .str x, _, _, h, r, _, hz => by
    cases h
    obtain ⟨t, rfl⟩ := r
    exact ⟨_, [], Reads.str x t, (fun _ z => nomatch z), by simp only [PyData.shown]; exact .of_is (ReprIs.str x t (by simpa only [PyData.shown] using hz)) _ _ _⟩
  | .list ds, _, _, h, r, hs, hz => by
    cases h with
    | lst hl ha =>
      cases r
      obtain ⟨its, rv, ⟨o, n, ho, hc, _, hd⟩, _⟩ := I.list hl
      have z1 : (listText (PyData.shownAll ds)).length ≤ sizeLine := by simpa only [PyData.shown] using hz
      obtain ⟨as, bs, hr, hb, hk⟩ := DnAll.shows I ds _ its ha rv (by simpa [PyData.showable] using hs) fun t ht => Nat.le_trans (listText_mem_le ht) z1
      have rd := Reads.list ho hc hd hr
      have out := not_mem_of_deeper rd (by simp only [PyData.depth]; omega) hb
      refine ⟨_, _, rd, ReadAtMost.cons rd (by simp only [PyData.depth]; omega) hb, ?_⟩
      simp only [PyData.depth, PyData.shown]
      cases its with
      | nil =>
        cases ds with
        | nil =>
          simp only [PyData.shownAll, listText_nil]
          exact ReprK.listEmpty ho hc hd
        | cons d ds => cases hr
      | cons x l => exact ReprK.list ho hc hd out (by simpa using hk.length_eq) fun i y e => hk.item i y (by simpa using e)
  | .tuple ds, _, _, h, r, hs, hz => by
    cases h with
    | tup hl ha =>
      cases r
      obtain ⟨its, rv, ⟨o, ho, hc, n, hd⟩, _⟩ := I.tuple hl
      have z1 : (tupleText (PyData.shownAll ds)).length ≤ sizeLine := by simpa only [PyData.shown] using hz
      obtain ⟨as, bs, hr, hb, hk⟩ := DnAll.shows I ds _ its ha rv (by simpa [PyData.showable] using hs) fun t ht => Nat.le_trans (tupleText_mem_le ht) z1
      have rd := Reads.tuple ho hc hd hr
      have out := not_mem_of_deeper rd (by simp only [PyData.depth]; omega) hb
      refine ⟨_, _, rd, ReadAtMost.cons rd (by simp only [PyData.depth]; omega) hb, ?_⟩
      simp only [PyData.depth, PyData.shown]
      exact ReprK.tuple ho hc hd out hk
  | .dict kvs, _, _, h, r, hs, hz => by
    cases h with
    | @dic a vs0 ds0 hd hv =>
      cases r
      obtain ⟨o, es, ep, ho, hx, hes, hp, _, sys⟩ := hd.raw I
      obtain ⟨l⟩ := es
      have hz' : (dictText (PyData.shownKv kvs)).length ≤ sizeLine := by simpa only [PyData.shown] using hz
      obtain ⟨hs1, hs2⟩ := PyData.showableKv_split kvs (by simpa [PyData.showable] using hs)
      obtain ⟨as1, bs1, as2, bs2, r1, b1, q1, r2, b2, q2⟩ := DnKv.shows I kvs _ l hv hp hs1 hs2
        (fun t ht => let ⟨p, hp, hl⟩ := PyData.shownKv_key_le kvs t ht; Nat.le_trans hl (Nat.le_trans (dictText_mem_le hp) hz'))
        (fun t ht => let ⟨p, hp, hl⟩ := PyData.shownKv_val_le kvs t ht; Nat.le_trans hl (Nat.le_trans (dictText_mem_le hp) hz'))
      have rd : Reads s.heap (.ref a) (.dict kvs) _ := Reads.dict ho hx.1 hes r1 r2
      have hb : ReadAtMost s.heap (PyData.depthKv kvs) (bs1 ++ bs2) := (b1.mono (PyData.depthAll_keys_le kvs)).append (b2.mono (PyData.depthAll_vals_le kvs))
      have out := not_mem_of_deeper rd (n := PyData.depthKv kvs) (by simp only [PyData.depth]; omega) hb
      refine ⟨_, _, rd, ReadAtMost.cons rd (n := PyData.depthKv kvs) (by simp only [PyData.depth]; omega) hb, ?_⟩
      simp only [PyData.depth, PyData.shown, PyData.shownKv_eq]
      exact ReprK.dict ho hx.1 hes sys out (ReprEntriesK.of_two l _ _ (q1.more_le (fun b hb => List.mem_append_left _ hb) (PyData.depthAll_keys_le kvs)) (q2.more_le (fun b hb => List.mem_append_right _ hb) (PyData.depthAll_vals_le kvs)))
theorem DnAll.shows (I : Inv X pins σ H s) : ∀ (ds : List PyData) (vs : List V) (us : List Value), DnAll X.K H vs ds → Vals vs us → PyData.showableAll ds = true → (∀ t ∈ PyData.shownAll ds, t.length ≤ sizeLine) →
    ∃ as bs, ReadsAll s.heap us ds as ∧ ReadAtMost s.heap (PyData.depthAll ds) bs ∧ ReprAllK X.prog X.w bs s.heap (PyData.depthAll ds) us (PyData.shownAll ds)
  | [], _, _, h, r, _, _ => by
    cases h
    cases r
    exact ⟨_, [], ReadsAll.nil, (fun _ z => nomatch z), by simp only [PyData.shownAll]; exact .nil⟩
  | d :: ds, _, _, h, r, hs, hz => by
    cases h with
    | cons h1 h2 =>
      cases r with
      | cons r1 r2 =>
        have hs' : d.showable = true ∧ PyData.showableAll ds = true := by simpa [PyData.showableAll] using hs
        obtain ⟨as, bs, q1, b1, k1⟩ := Dn.shows I d _ _ h1 r1 hs'.1 (hz _ (by simp only [PyData.shownAll]; exact List.mem_cons_self ..))
        obtain ⟨cs, ds', q2, b2, k2⟩ := DnAll.shows I ds _ _ h2 r2 hs'.2 fun t ht => hz t (by simp only [PyData.shownAll]; exact List.mem_cons_of_mem _ ht)
        refine ⟨_, bs ++ ds', ReadsAll.cons q1 q2, ?_, ?_⟩
        · simp only [PyData.depthAll]
          exact (b1.mono (Nat.le_max_left _ _)).append (b2.mono (Nat.le_max_right _ _))
        · simp only [PyData.depthAll, PyData.shownAll]
          exact .cons ((k1.more fun b hb => List.mem_append_left _ hb).level_le (Nat.le_max_left _ _)) (k2.more_le (fun b hb => List.mem_append_right _ hb) (Nat.le_max_right _ _))
theorem DnKv.shows (I : Inv X pins σ H s) : ∀ (ds : List (PyData × PyData)) (kvs : List (V × V)) (l : List DictEntry), DnKv X.K H kvs ds → Paired (fun (p : V × V) (e : DictEntry) => RelV p.1 e.key ∧ RelV p.2 e.val) kvs l → PyData.showableAll (ds.map (·.1)) = true → PyData.showableAll (ds.map (·.2)) = true →
    (∀ t ∈ PyData.shownAll (ds.map (·.1)), t.length ≤ sizeLine) → (∀ t ∈ PyData.shownAll (ds.map (·.2)), t.length ≤ sizeLine) →
    ∃ (as bs cs es : List Addr), ReadsAll s.heap (l.map (·.key)) (ds.map (·.1)) as ∧ ReadAtMost s.heap (PyData.depthAll (ds.map (·.1))) bs ∧ ReprAllK X.prog X.w bs s.heap (PyData.depthAll (ds.map (·.1))) (l.map (·.key)) (PyData.shownAll (ds.map (·.1))) ∧
      ReadsAll s.heap (l.map (·.val)) (ds.map (·.2)) cs ∧ ReadAtMost s.heap (PyData.depthAll (ds.map (·.2))) es ∧ ReprAllK X.prog X.w es s.heap (PyData.depthAll (ds.map (·.2))) (l.map (·.val)) (PyData.shownAll (ds.map (·.2)))
  | [], _, _, h, r, _, _, _, _ => by
    cases h
    cases r
    exact ⟨[], [], [], [], ReadsAll.nil, (fun _ z => nomatch z), by simp only [List.map_nil, PyData.shownAll]; exact .nil, ReadsAll.nil, (fun _ z => nomatch z), by simp only [List.map_nil, PyData.shownAll]; exact .nil⟩
  | (c, d) :: ds, _, _, h, r, hs1, hs2, hz1, hz2 => by
    cases h with
    | @cons k v kvs c d ds h0 h1 h2 =>
      cases r with
      | @cons _ e _ l r1 rt =>
        simp only [List.map_cons, PyData.showableAll, PyData.shownAll, Bool.and_eq_true] at hs1 hs2 hz1 hz2
        obtain ⟨as, bs, cs, es, ra, ba, ka, rc, bc, kc⟩ := DnKv.shows I ds _ _ h2 rt hs1.2 hs2.2 (fun t m => hz1 t (List.mem_cons_of_mem _ m)) (fun t m => hz2 t (List.mem_cons_of_mem _ m))
        obtain ⟨as0, bs0, q0, b0, k0⟩ := Dn.shows I c k _ h0 r1.1 hs1.1 (hz1 _ List.mem_cons_self)
        obtain ⟨as1, bs1, q1, b1, k1⟩ := Dn.shows I d v _ h1 r1.2 hs2.1 (hz2 _ List.mem_cons_self)
        refine ⟨_, bs0 ++ bs, _, bs1 ++ es, ReadsAll.cons q0 ra, ?_, ?_, ReadsAll.cons q1 rc, ?_, ?_⟩
        · simp only [List.map_cons, PyData.depthAll]
          exact (b0.mono (Nat.le_max_left _ _)).append (ba.mono (Nat.le_max_right _ _))
        · simp only [List.map_cons, PyData.depthAll, PyData.shownAll]
          exact .cons ((k0.more fun b hb => List.mem_append_left _ hb).level_le (Nat.le_max_left _ _)) (ka.more_le (fun b hb => List.mem_append_right _ hb) (Nat.le_max_right _ _))
        · simp only [List.map_cons, PyData.depthAll]
          exact (b1.mono (Nat.le_max_left _ _)).append (bc.mono (Nat.le_max_right _ _))
        · simp only [List.map_cons, PyData.depthAll, PyData.shownAll]
          exact .cons ((k1.more fun b hb => List.mem_append_left _ hb).level_le (Nat.le_max_left _ _)) (kc.more_le (fun b hb => List.mem_append_right _ hb) (Nat.le_max_right _ _))
end
def rShowN (K : PySem.W.Frag) : List V → Hp → VK → Prop := fun xs H Q => ∃ v d, xs = [v] ∧ Dn K H v d ∧ d.showable = true ∧ d.shown.length ≤ sizeLine ∧ d.depth ≤ 60 ∧ Q (.str d.shown) H
theorem call_reprN (hg : X.A.guards = some []) (hu : X.A.units + 64 < cLine) : CallR X (.builtin "repr") (rShowN X.K) := by
  intro pins s σ H xs us Q I r h
  obtain ⟨v, d, rfl, hd, hs, hz, hp, q⟩ := h
  obtain ⟨u, rfl, r0⟩ := vals1 r
  have fin : ∀ h' t tk, (∀ b o, s.heap.get? b = some o → h'.get? b = some o) → EP X pins σ Q (.str d.shown t) { s with heap := h', toks := tk } := fun h' t tk k => ⟨.str d.shown, H, I.kept k, ⟨_, rfl⟩, q⟩
  cases hd with
  | non => cases r0; exact PySem.P.repr_of_none (by simpa only [PyData.shown] using fin s.heap s.toks _ fun _ _ e => e)
  | bl b => cases r0; exact PySem.P.repr_of_bool (by simpa only [PyData.shown] using fin s.heap s.toks _ fun _ _ e => e)
  | int i => obtain ⟨t, rfl⟩ := r0; exact PySem.P.repr_of_int (by simpa [PyData.showable] using hs) (by simpa only [PyData.shown] using fin s.heap s.toks _ fun _ _ e => e)
  | str x => obtain ⟨t, rfl⟩ := r0; exact PySem.P.repr_of_str (by simpa only [PyData.shown] using fin s.heap s.toks _ fun _ _ e => e) (by simpa only [PyData.shown] using hz)
  | @lst a xs ds hl ha =>
    cases r0
    obtain ⟨its, rv, ⟨o, n, ho, hc, _, hd⟩, _⟩ := I.list hl
    have z1 : (listText (PyData.shownAll ds)).length ≤ sizeLine := by simpa only [PyData.shown] using hz
    obtain ⟨as2, bs2, hr2, hb2, hk2⟩ := DnAll.shows I ds _ its ha rv (by simpa [PyData.showable] using hs) fun t ht => Nat.le_trans (listText_mem_le ht) z1
    have out := not_mem_of_deeper (.list ho hc hd hr2) (n := PyData.depthAll ds) (by simp only [PyData.depth]; omega) hb2
    simp only [PyData.depth] at hp
    simp only [PyData.shown] at fin
    refine call_repr_slot (by omega) ⟨_, ho, hc⟩ PySem.F.slot_list_repr.toG ?_
    cases its with
    | nil =>
      cases ds with
      | nil =>
        simp only [PyData.shownAll, listText_nil] at fin
        exact call_list_repr_empty ⟨_, ho, hc⟩ ho hd ⟨_, _, rfl, fin s.heap _ _ fun _ _ e => e⟩
      | cons d ds => cases hr2
    | cons x l =>
      exact call_list_reprK ho hc hd out (by simpa using hk2.length_eq) (fun i y e => hk2.item i y (by simpa using e)) hg (fun b _ => Clear.nil b) (by show X.A.units + 1 + _ < cLine; omega) (fun _ _ e => e) (fun h' u tk k => ⟨_, _, rfl, fin h' _ _ k⟩) z1
  | @tup a xs ds hl ha =>
    cases r0
    have z1 : (tupleText (PyData.shownAll ds)).length ≤ sizeLine := by simpa only [PyData.shown] using hz
    obtain ⟨its, rv, ⟨o, ho, hc, n, hd⟩, _⟩ := I.tuple hl
    obtain ⟨as2, bs2, hr2, hb2, hk2⟩ := DnAll.shows I ds _ its ha rv (by simpa [PyData.showable] using hs) fun t ht => Nat.le_trans (tupleText_mem_le ht) z1
    have out := not_mem_of_deeper (.tuple ho hc hd hr2) (n := PyData.depthAll ds) (by simp only [PyData.depth]; omega) hb2
    simp only [PyData.depth] at hp
    simp only [PyData.shown] at fin
    refine call_repr_slot (by omega) ⟨_, ho, hc⟩ PySem.F.slot_tuple_repr ?_
    exact call_tuple_reprK ho hc hd out hk2 hg (fun b _ => Clear.nil b) (by show X.A.units + 1 + _ < cLine; omega) (fun _ _ e => e) (fun h' u tk k => ⟨_, _, rfl, fin h' _ _ k⟩) z1
  | @dic a vs0 kvs hd hv =>
    cases r0
    obtain ⟨o, es, ep, ho, hx, hes, hp1, _, sys⟩ := hd.raw I
    obtain ⟨l⟩ := es
    have hz' : (dictText (PyData.shownKv kvs)).length ≤ sizeLine := by simpa only [PyData.shown] using hz
    obtain ⟨hs1, hs2⟩ := PyData.showableKv_split kvs (by simpa [PyData.showable] using hs)
    obtain ⟨as1, bs1, as2, bs2, r1, b1, q1, r2, b2, q2⟩ := DnKv.shows I kvs _ l hv hp1 hs1 hs2
      (fun t ht => let ⟨p, hp, hl⟩ := PyData.shownKv_key_le kvs t ht; Nat.le_trans hl (Nat.le_trans (dictText_mem_le hp) hz'))
      (fun t ht => let ⟨p, hp, hl⟩ := PyData.shownKv_val_le kvs t ht; Nat.le_trans hl (Nat.le_trans (dictText_mem_le hp) hz'))
    have rd : Reads s.heap (.ref a) (.dict kvs) _ := Reads.dict ho hx.1 hes r1 r2
    have hb : ReadAtMost s.heap (PyData.depthKv kvs) (bs1 ++ bs2) := (b1.mono (PyData.depthAll_keys_le kvs)).append (b2.mono (PyData.depthAll_vals_le kvs))
    have out := not_mem_of_deeper rd (n := PyData.depthKv kvs) (by simp only [PyData.depth]; omega) hb
    simp only [PyData.depth] at hp
    simp only [PyData.shown] at fin hz
    refine call_repr_slot (by omega) ⟨_, ho, hx.1⟩ PySem.F.slot_dict_repr ?_
    exact call_dict_reprK ho hx.1 hes sys out (by rw [PyData.shownKv_eq]; exact (ReprEntriesK.of_two l _ _ (q1.more_le (fun b hb => List.mem_append_left _ hb) (PyData.depthAll_keys_le kvs)) (q2.more_le (fun b hb => List.mem_append_right _ hb) (PyData.depthAll_vals_le kvs)))) hg (fun b _ => Clear.nil b) (by show X.A.units + 1 + _ < cLine; omega) (fun _ _ e => e) (fun h' u tk k => ⟨_, _, rfl, fin h' _ _ k⟩) hz
/-- isinstance(x, dict) -/
def isDic : PyData → Bool
  | .dict _ => true
  | _ => false
def rIsDic (K : PySem.W.Frag) : List V → Hp → VK → Prop := fun xs H Q => ∃ v d, xs = [v, .ty "dict"] ∧ Dn K H v d ∧ Q (.bl (isDic d)) H
theorem kitN_dict : ∀ t ∈ tyNames, L2.kitB t "dict" = some (t == "dict") := by decide +kernel
theorem call_isDic : CallR X (.builtin "isinstance") (rIsDic X.K) := by
  intro pins s σ H xs us Q I r h
  obtain ⟨v, d, rfl, hd, q⟩ := h
  have kit : PySem.W.kitOne X.K (.type (tyn d)) (.type "dict") = some (isDic d) := by
    rw [kit_ty (kitN_dict _ (tyn_mem d))]
    cases d <;> rfl
  have go : ∀ {b : Bool}, TyX X.K H v (.type (tyn d)) → wpAny (model X.prog X.w) X.A (call (.builtin "isinstance") us) (EP X pins σ Q) X.xe s := fun ty => call_isi pins s σ H _ us Q I r ⟨v, .ty "dict", _, _, isDic d, rfl, .ty "dict", ty, kit, q⟩
  cases hd with
  | non => exact go (b := true) (.base .non)
  | bl b => exact go (b := true) (.base (.bl b))
  | int i => exact go (b := true) (.base (.int i))
  | str x => exact go (b := true) (.base (.str x))
  | lst hs _ => exact go (b := true) (ty_seqL hs)
  | tup hs _ => exact go (b := true) (ty_seqT hs)
  | @dic a kvs ds hd _ =>
    cases r with
    | cons r1 r2 =>
      cases r2 with
      | cons r2 r3 =>
        cases r3
        cases r1
        cases (show _ = Value.type "dict" from r2)
        obtain ⟨o, es, ep, ho, hx, _⟩ := hd.raw I
        exact PySem.W.kia_one PySem.W.kitx_dict I.kIn ⟨o, ho, hx.1⟩ kit (fun z => nomatch z) fun tk => ⟨.bl true, H, I.tok tk, rfl, q⟩
end
end Gr
/-! list(v), v the view of a dict's pairs -/
namespace Gr
open PySem PySem.Spec PyProof.Rows L2 L2.DX
section
variable {prog : Program} {w : World} {A : Around} {E : Value → Shared → Prop} {s : Shared} {r d : Addr} {es : Array DictEntry} {ep : Nat}
theorem list_view {Q : Value → Shared → Prop} (hh : A.handled = none) (hv : s.heap.IsItemsView r d) (hm : DT.Raw s.heap d es ep) (hn : es.size ≤ sizeLine)
    (q : ∀ h' tk acc c as, (∀ b o, s.heap.get? b = some o → h'.get? b = some o) → h'.get? s.heap.objs.size = some { cls := .type "list", dict := none, data := .seq acc c, slots := #[] } → as.length = es.size → DT.Made es s.heap.objs.size h' as → acc.toList = as.map Value.ref →
      Q (.ref s.heap.objs.size) { s with heap := h', toks := tk }) : wpAny (model prog w) A (call (.type "list") [.ref r]) Q E s := by
  have hr : r < s.heap.objs.size := let ⟨_, ho, _⟩ := hv; Heap.lt_size ho
  have hd : d < s.heap.objs.size := hm.lt
  refine callType_codes (Q₁ := fun obj s₁ => obj = .ref s.heap.objs.size ∧ s₁ = { s with heap := s.heap.push { cls := .type "list", data := .seq #[] } }) F.called_list (F.typeCall_list_1 _) F.entry_list_init (code_list_new _ ⟨rfl, rfl⟩) fun obj s₁ h₁ => ?_
  obtain ⟨rfl, rfl⟩ := h₁
  have hS : (s.heap.push { cls := .type "list", data := .seq #[] }).get? s.heap.objs.size = some { cls := .type "list", data := .seq #[] } := Heap.get?_push_size _ rfl
  refine ⟨⟨_, hS, rfl⟩, F.args_list_init_2 _ _, ?_⟩
  show wpAny _ _ (Builtin.List.listItems (.ref s.heap.objs.size) >>= _) _ _ _
  refine wpAny_bind ?_
  unfold Builtin.List.listItems
  refine wpAny_bind (wpAny_seqItems hS rfl (wpAny_pure ?_))
  refine wpAny_bind ?_
  unfold Builtin.List.listUpdate
  refine wpAny_updateSeq hS rfl ?_
  have hS2 := Heap.get?_update_self (Obj.mapSeq (fun _ => (#[] : Array Value))) hS rfl
  have oth : ∀ b o, b ≠ s.heap.objs.size → (s.heap.push { cls := .type "list", data := .seq #[] }).get? b = some o → ((s.heap.push { cls := .type "list", data := .seq #[] }).update s.heap.objs.size (Obj.mapSeq (fun _ => (#[] : Array Value)))).get? b = some o :=
    fun b o hb e => (Heap.get?_update_other _ _ (Ne.symm hb)).trans e
  refine wpAny_bind (wpAny_letGo ?_)
  refine DT.extI (prog := prog) (w := w) (A := A.in1) (es := es) (ep := ep) hh (let ⟨o, ho, x⟩ := hv; ⟨o, oth r o (Nat.ne_of_lt hr) (Heap.get?_push_of_some _ ho), x⟩) (hm.at' fun o e => oth d o (Nat.ne_of_lt hd) (Heap.get?_push_of_some _ e)) s.heap.objs.size (Nat.ne_of_gt hr) (Nat.ne_of_lt hd) .none _ hS2 (fun h' tk acc c as hk hS' hl hG hacc => ?_) hn
  refine ⟨rfl, q h' tk acc c as (fun b o e => hk b o (Nat.ne_of_lt (Heap.lt_size e)) (oth b o (Nat.ne_of_lt (Heap.lt_size e)) (Heap.get?_push_of_some _ e))) hS' hl (hG.low ?_) hacc⟩
  exact Nat.le_of_lt (Heap.lt_size hS2)
end
/-- the pairs' tuples -/
def putP : Hp → List Addr → List (V × V) → Hp
  | H, a :: as, p :: kvs => putP (upd H a (.tup [p.1, p.2])) as kvs
  | H, _, _ => H
theorem putP_off {b : Addr} : ∀ (as : List Addr) (kvs : List (V × V)) (H : Hp), b ∉ as → putP H as kvs b = H b
  | [], _, _, _ => rfl
  | _ :: _, [], _, _ => rfl
  | a :: as, p :: kvs, H, h => by
    show putP (upd H a (.tup [p.1, p.2])) as kvs b = H b
    rw [putP_off as kvs _ (fun z => h (List.mem_cons_of_mem _ z)), upd_ne (fun z => h (by rw [z]; exact List.mem_cons_self))]
theorem putP_at : ∀ (as : List Addr) (kvs : List (V × V)) (H : Hp), as.length = kvs.length → as.Nodup → Paired (fun (t : Addr) (p : V × V) => putP H as kvs t = some (.tup [p.1, p.2])) as kvs
  | [], [], _, _, _ => .nil
  | [], _ :: _, _, h, _ => by cases h
  | _ :: _, [], _, h, _ => by cases h
  | a :: as, p :: kvs, H, h, hn => by
    have hn' := List.nodup_cons.mp hn
    refine .cons ?_ (putP_at as kvs (upd H a (.tup [p.1, p.2])) (Nat.succ.inj h) hn'.2)
    show putP (upd H a (.tup [p.1, p.2])) as kvs a = some (.tup [p.1, p.2])
    rw [putP_off as kvs _ hn'.1, upd_same]
def rListV : List V → Hp → VK → Prop := fun xs H Q => ∃ (p a : Addr) (kvs : List (V × V)), xs = [.ref p] ∧ H p = some (itemsO p a) ∧ DicR H a kvs ∧
  ∀ (G : Hp) (L : Addr) (ts : List Addr), Same H G → H L = none → G L = some (.lst (ts.map V.ref)) → Paired (fun (t : Addr) (p : V × V) => G t = some (.tup [p.1, p.2])) ts kvs → Q (.ref L) G
theorem call_listV {X : Cx} (hc : X.calm = true) : CallR X (.type "list") rListV := by
  intro pins s σ H xs us Q I r h
  obtain ⟨p, a, kvs, rfl, hv, hd, q⟩ := h
  obtain ⟨u, rfl, r0⟩ := vals1 r
  cases (show u = Value.ref p from r0)
  obtain ⟨o, es, ep, ho, hx, hdat, hp, hz, _⟩ := hd.raw I
  have view : s.heap.IsItemsView p a := (show ObjOk X.prog X.w H s.heap p (.ext _) from I.hok _ _ hv).1
  have hsz : kvs.length = es.size := by rw [← Array.length_toList]; exact Paired.length hp
  refine list_view (I.ok.hd hc) view ⟨o, ho, hx, hdat⟩ (by omega) fun h' tk acc c as hk hS hl hG hacc => ?_
  have hSn : s.heap.objs.size ∉ as := fun z => Nat.lt_irrefl _ (hG.above _ z)
  have nd : as.Nodup := List.Pairwise.imp (fun {a b} (h : a < b) => Nat.ne_of_lt h) hG.rise
  have new : ∀ t ∈ as, H t = none := fun t ht => I.hok.fresh (Nat.le_of_lt (hG.above t ht))
  have newS : H s.heap.objs.size = none := I.hok.fresh (Nat.le_refl _)
  generalize eL : s.heap.objs.size = L at *
  have atP := putP_at as kvs (upd H L (.lst (as.map V.ref))) (by omega) nd
  have off : ∀ b, b ∉ as → b ≠ L → putP (upd H L (.lst (as.map V.ref))) as kvs b = H b := fun b h1 h2 => by rw [putP_off as kvs _ h1, upd_ne h2]
  have low : ∀ b o, s.heap.get? b = some o → b ∉ as ∧ b ≠ L := fun b o e => ⟨fun z => absurd (Heap.lt_size e) (Nat.not_lt.mpr (Nat.le_of_lt (by rw [eL]; exact hG.above b z))), by rw [← eL]; exact Nat.ne_of_lt (Heap.lt_size e)⟩
  have kp : ∀ b u, H b = some u → (putP (upd H L (.lst (as.map V.ref))) as kvs) b = some u := fun b u e => by
    rw [off b (fun z => by rw [new b z] at e; cases e) (fun z => by rw [z, newS] at e; cases e)]
    exact e
  have eS : putP (upd H L (.lst (as.map V.ref))) as kvs L = some (.lst (as.map V.ref)) := by rw [putP_off as kvs _ hSn, upd_same]
  refine ⟨.ref L, putP (upd H L (.lst (as.map V.ref))) as kvs, ?_, rfl, q _ L as (fun b o e => kp b o e) newS eS atP⟩
  refine I.call' (ch := []) rfl ⟨fun b o q _ _ _ => hk b o q, fun b o q _ _ _ => ⟨o.slots, hk b o q⟩, fun b o q n _ => ?_, fun b o q _ => ⟨o, hk b o q⟩, fun b xs q => kp b _ q, fun b o u q => kp b _ q, fun b ps q => ⟨#[], by rw [kp b _ q]; simp⟩⟩ (fun b u q => ?_) I.bare fun b z => by simp at z
  · obtain ⟨z1, z2⟩ := low b o q
    rw [off b z1 z2]
    exact n
  · by_cases hb : b ∈ as
    · obtain ⟨j, pk, e1, e2, e3⟩ := LiI.paired_ix atP hb
      rw [e3] at q
      cases q
      obtain ⟨en, f1, f3⟩ := hG.pairs j b e1
      obtain ⟨en2, g1, g2, g3⟩ := LiI.paired_get hp e2
      rw [Array.getElem?_toList, f1] at g1
      cases g1
      exact ⟨by show 2 ≤ sizeLine; decide, [en.key, en.val], .cons g2 (.cons g3 .nil), ⟨_, f3, rfl, _, rfl⟩⟩
    · by_cases hb2 : b = L
      · rw [hb2] at q ⊢
        rw [eS] at q
        cases q
        refine ⟨by rw [List.length_map]; omega, acc.toList, c, by rw [hacc]; exact LiI.vals_refs as, ?_⟩
        rw [Array.toArray_toList]
        exact hS
      · rw [off b hb hb2] at q
        exact (I.hok b u q).stay (fun d v _ y => hk d v y) (fun d y => kp d _ y) fun d xs y => kp d _ y
end Gr
namespace Gr
open PySem PySem.Spec PyProof.Rows L2 L2.DX
/-- what a value is stays as it is from now on, if one wants -/
def tFrzO (t : TE) : TE := fun σ H Q => t σ H fun v H1 => (∃ d u, v = .ref d ∧ H1 d = some u ∧ Mut (some u) ∧ ∀ od, Q v (upd H1 d (.frz od u))) ∨ Q v H1
theorem pe_frzO {X : Cx} {e : Expr} {t : TE} (h : PE X e t) : PE X e (tFrzO t) := by
  refine ⟨fun pins s σ H Q I hw => ?_⟩
  refine thn (h.run pins s σ _ _ I hw) fun v s1 ⟨x, H1, I2, r, q⟩ => ?_
  rcases q with ⟨d, u, ev, hd, mu, q⟩ | q
  · obtain ⟨od, I3⟩ := I2.lock hd mu
    exact ⟨x, _, I3, r, q od⟩
  · exact ⟨x, _, I2, r, q⟩
/-- d.items() as a value, d of any keys -/
def tItemsR (to : TE) : TE := fun σ H Q => to σ H fun x H1 => ∃ (a : Addr) (kvs : List (V × V)), x = .ref a ∧ DicR H1 a kvs ∧ ∀ p, H1 p = none → Q (.ref p) (upd H1 p (itemsO p a))
theorem pe_itemsR {X : Cx} {o : Expr} {to : TE} {apos cpos : Pos} (ho : PE X o to)
    (hbase : attributeBase o "items" X.env (eval o X.env) = eval o X.env := by rfl) (hline : (apos.endLine == cpos.line) = true := by rfl) : PE X (.Call (.Attribute o "items" apos) [] [] cpos) (tItemsR to) := by
  refine ⟨fun pins s σ H Q I h => ?_⟩
  refine wpAny_Call_method0_late hbase hline (thn (ho.run pins s σ H _ I h) fun v s1 ⟨x, H1, I1, r1, a, kvs, ex, hd, q1⟩ => ?_)
  subst ex
  obtain rfl : v = Value.ref a := r1
  obtain ⟨o2, es, ep, ho2, hx, hdt, _, _, _⟩ := hd.raw I1
  have raw : DT.Raw s1.heap a es ep := ⟨o2, ho2, hx, hdt⟩
  exact ⟨"dict", "dict.items", F.plainAttrs_dict, F.slot_dict_items, F.type_dict_items, raw.typeIs, fun b eb => by injection eb with eb; subst eb; exact ⟨o2, ho2, hx.2.1⟩,
    Calls.callWith_builtin rfl (PySem.evalArgs_none (mt_itemsR pins s1 σ H1 (.ref a) [] (.ref a) [] Q I1 rfl .nil ⟨a, kvs, rfl, rfl, hd, q1⟩))⟩
end Gr
/-! dict(pairs) whose keys are unlike one another, of any kinds but texts -/
namespace Gr
open PySem PySem.Spec PyProof.Rows L2
section
variable {prog : Program} {w : World} {A : Around} {E : Value → Shared → Prop} {s : Shared} {d : Addr} {es : Array DictEntry} {ep : Nat} {k : NestedKey} {u : Value}
theorem dset_new {v : Value} {Q : Unit → Shared → Prop} (hu : A.units + 8 < cLine) (hk : NestedIs s.heap k u) (kd : k.depth ≤ 8) (raw : DT.Raw s.heap d es ep) (ne : Unlike s.heap k es) (ns : ∀ x t, u = .str x t → es.all (fun e => isExactStrKey e.key) = false) (hz : es.size ≤ sizeLine)
    (q : ∀ h', DT.Raw h' d (es.push ⟨k.hash w, u, v⟩) (ep + 1) → Heap.SameBut d s.heap h' → Q () { s with heap := h', toks := s.toks + k.draws }) : wpAny (model prog w) A (dictSet d u v) Q E s := by
  obtain ⟨o, ho, hx, hd⟩ := raw
  unfold dictSet
  refine wpAny_holding (wpAny_bind (pyHash_key k u A s _ hk (by omega) ?_))
  unfold dictSetHashed
  refine wpAny_holding (wpAny_bind (find_new (s := { s with toks := s.toks + k.draws }) hu hk kd ho hd ne ns ?_))
  refine wpAny_bind (wpAny_rule (wpAny_updateDictKeys (hz := hz) (s := { s with toks := s.toks + k.draws }) ho hd ?_))
  have F := Obj.data_mapDictKeys hd fun es => es.push ⟨k.hash w, u, v⟩
  exact q _ ⟨_, Heap.get?_update_self _ ho (Obj.isFreed_of_dict F), hx.mapDictKeys _, F⟩ (Heap.SameBut.update ..)
end
theorem Unlike.at {h h' : Heap} {k : NestedKey} {es : Array DictEntry} (x : Unlike h k es) (hk : ∀ a o vs n, h.get? a = some o → o.data = .seq vs n → h'.get? a = some o) : Unlike h' k es := fun e he => by
  obtain ⟨j, a, b, c⟩ := x e he
  exact ⟨j, a.at hk, b, c⟩
section
variable {prog : Program} {w : World} {A : Around} {E : Value → Shared → Prop}
/-- the walk over the pairs -/
theorem upd_loopO {R : Result → Shared → Prop} {S I l : Addr} {items : Array Value} {res : Value} (hu : A.in1.units + 8 < cLine) (hh : A.handled = none) (hlI : l ≠ I) (hSI : S ≠ I) (hSl : S ≠ l) :
    ∀ (rest : List (NestedKey × Value × Value)) (i : Nat) (es : Array DictEntry) (ep : Nat) (ix : Int) (t : Tok) (s : Shared), items.size = i + rest.length → es.size + rest.length ≤ sizeLine →
      (∀ (j : Nat) (q : NestedKey × Value × Value), rest[j]? = some q → ∃ (b : Addr), items[i + j]? = some (.ref b) ∧ b ≠ S ∧ b ≠ I ∧ IsTup s.heap b #[q.2.1, q.2.2] ∧ NestedIs s.heap q.1 q.2.1 ∧ q.1.depth ≤ 8 ∧ ∀ x t, q.2.1 ≠ .str x t) →
      rest.Pairwise (fun a b => NestedKey.beq a.1 b.1 = false) → (∀ q ∈ rest, Unlike s.heap q.1 es) →
      s.heap.IsListIter I l i → s.heap.IsList l items → DT.Raw s.heap S es ep →
      (∀ h' tk es' ep' add, DT.Raw h' S es' ep' → es'.toList = es.toList ++ add → Paired (fun (q : NestedKey × Value × Value) (e : DictEntry) => e.key = q.2.1 ∧ e.val = q.2.2) rest add → (∀ b o, b ≠ S → b ≠ I → s.heap.get? b = some o → h'.get? b = some o) → R (.ok (.ret res)) { s with heap := h', toks := tk }) →
      codeAny (model prog w) A (.builtin "dict.update.loop" ⟨[.ref S, .ref I, .int ix t, res], []⟩) R s
  | [], i, es, ep, ix, t, s, hsz, hln, ht, pw, un, hit, hl, hm, hR => by
    refine codeAny_builtin ud_entry ?_
    rw [Around.under_plainId ud_plain _]
    show wpAny _ A.in1 (pyNext (.ref I) >>= _) _ _ s
    refine wpAny_bind (wpAny_pyNext_list_end (A := A.in1) hh hit hl (by first | exact Array.getElem?_eq_none (Nat.le_of_eq hsz) | (simp at hsz; simp; omega)) fun h' he => ?_)
    show wpAny _ A.in1 (Builtin.Dict.addKeywords S [] >>= _) _ _ _
    refine wpAny_bind (wpAny_pure (wpAny_pure ?_))
    exact hR h' s.toks es ep [] (hm.at' fun o e => he S o hSI e) (by simp) .nil fun b o _ hb e => he b o hb e
  | q :: rest, i, es, ep, ix, t, s, hsz, hln, ht, pw, un, hit, hl, hm, hR => by
    obtain ⟨b, hb, hbS, hbI, htup, hk, kd, nst⟩ := ht 0 q rfl
    rw [List.length_cons] at hsz hln
    refine codeAny_builtin ud_entry ?_
    rw [Around.under_plainId ud_plain _]
    show wpAny _ A.in1 (pyNext (.ref I) >>= _) _ _ s
    refine wpAny_bind (wpAny_pyNext_list_item (x := .ref b) hit hl (by simpa using hb) fun h1 hit1 hs1 => ?_)
    have ht1 : IsTup h1 b #[q.2.1, q.2.2] := htup.extBut hs1.extBut hbI
    have hl1 : h1.IsList l items := hl.extBut hs1.extBut hlI
    have hm1 : DT.Raw h1 S es ep := hm.at' fun o e => hs1.extBut S o hSI e
    have seq1 : ∀ a o vs n, s.heap.get? a = some o → o.data = .seq vs n → h1.get? a = some o := fun a o vs n e ed => by
      refine hs1.extBut a o (fun z => ?_) e
      subst z
      obtain ⟨oi, e2, _, e3⟩ := id hit
      rw [e] at e2
      cases e2
      rw [ed] at e3
      cases e3
    obtain ⟨o, ho, hc, n, hd⟩ := id ht1
    show wpAny _ A.in1 (holding [Value.ref b] _ >>= _) _ _ _
    refine wpAny_bind (wpAny_holding ?_)
    refine wpAny_bind (wpAny_tryCatch ?_)
    unfold Builtin.Dict.pairItems
    refine wpAny_bind (wpAny_typeOf (T := "tuple") ⟨o, ho, hc⟩ ?_)
    rw [if_pos (by first | decide | rfl | simp)]
    refine wpAny_bind (wpAny_seqItems ho hd (wpAny_pure ?_))
    show wpAny _ A.in1 (holding [q.2.1, q.2.2] (dictSet S q.2.1 q.2.2)) _ _ _
    have pw' := List.pairwise_cons.mp pw
    refine wpAny_holding (dset_new (s := { s with heap := h1 }) hu (hk.at seq1) kd hm1 ((un q List.mem_cons_self).at seq1) (fun x t e => absurd e (nst x t)) (by omega) fun h2 hm2 hs2 => ?_)
    have seq2 : ∀ a o vs n, h1.get? a = some o → o.data = .seq vs n → h2.get? a = some o := fun a o vs n e ed => by
      refine hs2.extBut a o (fun z => ?_) e
      subst z
      obtain ⟨oi, e2, _, e3⟩ := id hm1
      rw [e] at e2
      cases e2
      rw [ed] at e3
      cases e3
    have seq12 : ∀ a o vs n, s.heap.get? a = some o → o.data = .seq vs n → h2.get? a = some o := fun a o vs n e ed => seq2 a o vs n (seq1 a o vs n e ed) ed
    refine wpAny_pure ⟨plainId_quiet ud_plain _, upd_loopO (items := items) hu hh hlI hSI hSl rest (i + 1) (es.push ⟨q.1.hash w, q.2.1, q.2.2⟩) (ep + 1) (ix + 1) 0 _ (show items.size = i + 1 + rest.length by omega) ?_ (fun j q' e => ?_) pw'.2 (fun q' hq' => ?_) ?_ ?_ hm2 fun h' tk es' ep' add hd' ea pa k => ?_⟩
    · rw [Array.size_push]
      omega
    · obtain ⟨b', hb', hbS', hbI', htup', hk', kd', ns'⟩ := ht (j + 1) q' (by simpa using e)
      refine ⟨b', ?_, hbS', hbI', (htup'.extBut hs1.extBut hbI').extBut hs2.extBut hbS', hk'.at seq12, kd', ns'⟩
      rw [show i + 1 + j = i + (j + 1) by omega]
      exact hb'
    · intro e he
      rw [Array.mem_push] at he
      rcases he with he | rfl
      · obtain ⟨j, x1, x2, x3⟩ := un q' (List.mem_cons_of_mem _ hq') e he
        exact ⟨j, x1.at seq12, x2, x3⟩
      · exact ⟨q.1, hk.at seq12, kd, pw'.1 q' hq'⟩
    · exact hit1.at fun o' e => hs2.extBut I o' (Ne.symm hSI) e
    · exact hl1.extBut hs2.extBut (Ne.symm hSl)
    · refine hR h' tk es' ep' (⟨q.1.hash w, q.2.1, q.2.2⟩ :: add) hd' ?_ (.cons ⟨rfl, rfl⟩ pa) fun c oc h3 h4 e => k c oc h3 h4 (hs2.extBut c oc h3 (hs1.extBut c oc h4 e))
      rw [ea, Array.toList_push, List.append_assoc]
      rfl
/-- dict(l) of a list of such pairs -/
theorem call_dict_pairsO {s : Shared} {l : Addr} {ol : Obj} {items : Array Value} {n : Nat} {prs : List (NestedKey × Value × Value)} {Q : Value → Shared → Prop} (hu : A.units + 20 < cLine) (hh : A.handled = none) (hl : s.heap.get? l = some ol) (hc : ol.cls = .type "list") (hd : ol.dict = none)
    (hdat : ol.data = .seq items n) (hsz : items.size = prs.length) (hln : prs.length ≤ sizeLine)
    (ht : ∀ (j : Nat) (q : NestedKey × Value × Value), prs[j]? = some q → ∃ (b : Addr), items[j]? = some (.ref b) ∧ IsTup s.heap b #[q.2.1, q.2.2] ∧ NestedIs s.heap q.1 q.2.1 ∧ q.1.depth ≤ 8 ∧ ∀ x t, q.2.1 ≠ .str x t)
    (pw : prs.Pairwise (fun a b => NestedKey.beq a.1 b.1 = false))
    (h : ∀ h' tk es ep, DT.Raw h' s.heap.objs.size es ep → Paired (fun (q : NestedKey × Value × Value) (e : DictEntry) => e.key = q.2.1 ∧ e.val = q.2.2) prs es.toList → (∀ b o, s.heap.get? b = some o → h'.get? b = some o) → Q (.ref s.heap.objs.size) { s with heap := h', toks := tk }) :
    wpAny (model prog w) A (call (.type "dict") [.ref l]) Q E s := by
  refine callType_codes (Q₁ := fun obj s₁ => obj = .ref s.heap.objs.size ∧ s₁ = { s with heap := s.heap.push { cls := .type "dict", data := .dict #[] } }) PySem.F.kt_called_dict (PySem.F.kt_typeCall_dict_1 _) PySem.F.entry_dict_init (kt_code_dict_new _ ⟨rfl, rfl⟩) ?_
  rintro obj s₁ ⟨rfl, rfl⟩
  have hnew : DT.Raw (s.heap.push { cls := .type "dict", data := .dict #[] }) s.heap.objs.size #[] 0 := ⟨_, Heap.get?_push_size _ rfl, ⟨rfl, rfl, rfl⟩, rfl⟩
  have k0 : ∀ b o, s.heap.get? b = some o → (s.heap.push { cls := .type "dict", data := .dict #[] }).get? b = some o := fun b o e => Heap.get?_push_of_some _ e
  refine ⟨hnew.typeIs, PySem.F.args_dict_init_2 _ _, ?_⟩
  unfold Builtin.«dict.__init__»
  refine wpAny_bind ?_
  unfold Builtin.Dict.selfAndRest
  refine wpAny_bind (wpAny_notOrdered_dict hnew.typeIs ?_)
  show wpAny _ _ (pure (s.heap.objs.size, [Value.ref l])) _ _ _
  refine wpAny_pure ?_
  show wpAny _ _ (Builtin.Dict.updateFrom "dict.__init__" s.heap.objs.size (.ref l) [] .none) _ _ _
  unfold Builtin.Dict.updateFrom
  refine wpAny_bind (wpAny_typeOf (T := "list") ⟨ol, k0 _ _ hl, hc⟩ ?_)
  rw [if_pos (by first | decide | rfl | simp)]
  refine wpAny_bind (miss_list (k0 _ _ hl) hc hdat hd hh fun h1 tk1 hk1 => ?_)
  rw [if_pos (show (none : Option Value).isNone = true from rfl)]
  refine wpAny_bind (wpAny_rule ?_)
  have hl1 : h1.IsList l items := ⟨ol, hk1 _ _ (k0 _ _ hl), hc, n, hdat⟩
  have hS1 : s.heap.objs.size < h1.objs.size := by
    have e : (s.heap.push { cls := .type "dict", data := .dict #[] }).get? s.heap.objs.size = some { cls := .type "dict", data := .dict #[] } := Heap.get?_push_size _ rfl
    exact Heap.lt_size (hk1 _ _ e)
  refine wpAny_bind (wpAny_pyIter_list hl1 ?_)
  have k2 : ∀ b o, h1.get? b = some o → (h1.push { cls := .type "list_iterator", data := .fields #[.ref l, .int 0 0] }).get? b = some o := fun b o e => Heap.get?_push_of_some _ e
  have hlt : l < s.heap.objs.size := Heap.lt_size hl
  have key := upd_loopO (prog := prog) (w := w) (A := A.in1) (R := wants (fun r s₂ => r = .none ∧ Q (.ref s.heap.objs.size) s₂) E) (S := s.heap.objs.size) (I := h1.objs.size) (l := l) (items := items) (res := Value.none) (by show A.units + 1 + 1 + 8 < cLine; omega) hh
    (Nat.ne_of_lt (Nat.lt_trans hlt hS1)) (Nat.ne_of_lt hS1) (Nat.ne_of_gt hlt) prs 0 #[] 0 0 0
    { s with heap := h1.push { cls := .type "list_iterator", data := .fields #[.ref l, .int 0 0] }, toks := tk1 } (by rw [hsz, Nat.zero_add]) (by show 0 + prs.length ≤ sizeLine; omega)
    (fun j q e => by
      obtain ⟨b, e1, e2, e3, e4, e5⟩ := ht j q e
      have hb : b < s.heap.objs.size := e2.lt
      exact ⟨b, by rw [Nat.zero_add]; exact e1, Nat.ne_of_lt hb, Nat.ne_of_lt (Nat.lt_trans hb hS1), e2.keeps fun c o z => k2 _ _ (hk1 _ _ (k0 _ _ z)), e3.at fun a o _ _ z _ => k2 _ _ (hk1 _ _ (k0 _ _ z)), e4, e5⟩)
    pw (fun q _ e he => absurd he (by simp))
    ⟨_, Heap.get?_push_size _ rfl, rfl, rfl⟩ (hl1.at fun o e => k2 _ _ e) ((hnew.at' fun o e => hk1 _ _ e).at' fun o e => k2 _ _ e)
    (fun h' tk es' ep' add hd' ea pa k => ⟨rfl, h h' tk es' ep' hd' (by rw [ea]; exact pa) fun b o e => k b o (Nat.ne_of_lt (Heap.lt_size e)) (Nat.ne_of_lt (Nat.lt_trans (Heap.lt_size e) hS1)) (k2 _ _ (hk1 _ _ (k0 _ _ e)))⟩)
  first
    | exact wpAny_pure ⟨plainId_quiet ud_plain _, key⟩
    | exact wpAny_bind (wpAny_pure (wpAny_pure ⟨plainId_quiet ud_plain _, key⟩))
end
mutual
/-- what may be a key -/
inductive KeyN (H : Hp) : NestedKey → V → Prop
  | non : KeyN H .none .non
  | bl (b : Bool) : KeyN H (.num (if b = true then 1 else 0)) (.bl b)
  | int (i : Int) : KeyN H (.num i) (.int i)
  | str (x : Str) : KeyN H (.text x) (.str x)
  | tup {a : Addr} {ks : List NestedKey} {vs : List V} : H a = some (.tup vs) → KeyNAll H ks vs → KeyN H (.tup ks) (.ref a)
inductive KeyNAll (H : Hp) : List NestedKey → List V → Prop
  | nil : KeyNAll H [] []
  | cons {k : NestedKey} {v : V} {ks : List NestedKey} {vs : List V} : KeyN H k v → KeyNAll H ks vs → KeyNAll H (k :: ks) (v :: vs)
end
mutual
theorem KeyN.is {X : Cx} {pins : List (Addr × Obj)} {σ : L2.St} {H : Hp} {s : Shared} (I : Inv X pins σ H s) : ∀ (k : NestedKey) (v : V) (u : Value), KeyN H k v → RelV v u → NestedIs s.heap k u
  | .none, _, _, h, r => by cases h; cases r; exact .none
  | .num i, _, _, h, r => by
    cases h with
    | bl b => cases r; exact .bool rfl
    | int i => obtain ⟨t, rfl⟩ := r; exact .int i t
  | .text x, _, _, h, r => by cases h; obtain ⟨t, rfl⟩ := r; exact .text x t
  | .tup ks, _, u, h, r => by
    cases h with
    | @tup a _ vs e ha =>
      cases (show u = Value.ref a from r)
      obtain ⟨_, its, rv, o, ho, hc, n, hd⟩ := (show ObjOk X.prog X.w H s.heap a (.tup vs) from I.hok a _ e)
      exact .tup ho hc hd (by simpa using KeyNAll.is I ks vs its ha rv)
theorem KeyNAll.is {X : Cx} {pins : List (Addr × Obj)} {σ : L2.St} {H : Hp} {s : Shared} (I : Inv X pins σ H s) : ∀ (ks : List NestedKey) (vs : List V) (us : List Value), KeyNAll H ks vs → Vals vs us → NestedAll s.heap ks us
  | [], _, _, h, r => by cases h; cases r; exact .nil
  | k :: ks, _, _, h, r => by
    cases h with
    | cons h1 h2 =>
      cases r with
      | cons r1 r2 => exact .cons (KeyN.is I k _ _ h1 r1) (KeyNAll.is I ks _ _ h2 r2)
end
/-- a key of an odd dict -/
def OddKey (H : Hp) (k : NestedKey) (kv : V × V) : Prop := KeyN H k kv.1 ∧ k.depth ≤ 8 ∧ ∀ x, kv.1 ≠ .str x
section
variable {X : Cx}
theorem pairs_ofO {pins : List (Addr × Obj)} {σ : L2.St} {H : Hp} {s : Shared} (I : Inv X pins σ H s) : ∀ {ps : List Addr} {kvs : List (V × V)} {ks : List NestedKey}, Paired (fun p (kv : V × V) => SqT X.K H p [kv.1, kv.2]) ps kvs → Paired (OddKey H) ks kvs →
    ∃ prs : List (NestedKey × Value × Value), prs.length = ps.length ∧ prs.map (·.1) = ks ∧ Paired (fun (kv : V × V) (q : NestedKey × Value × Value) => RelV kv.1 q.2.1 ∧ RelV kv.2 q.2.2) kvs prs ∧ ∀ (j : Nat) (q : NestedKey × Value × Value), prs[j]? = some q → ∃ (b : Addr), ps[j]? = some b ∧ IsTup s.heap b #[q.2.1, q.2.2] ∧ NestedIs s.heap q.1 q.2.1 ∧ q.1.depth ≤ 8 ∧ ∀ x t, q.2.1 ≠ .str x t
  | _, _, _, .nil, h => by cases h; exact ⟨[], rfl, rfl, .nil, fun j q e => by simp at e⟩
  | _, _, _, .cons (a := p) (b := kv) h t, .cons (a := k) ok tk => by
    obtain ⟨prs, hl, ek, rel, hp⟩ := pairs_ofO I t tk
    obtain ⟨its, rv, ht, _⟩ := I.tuple h
    obtain ⟨u, y, ei, ru, ry⟩ := vals2 rv
    subst ei
    have hk := KeyN.is I k kv.1 u ok.1 ru
    refine ⟨(k, u, y) :: prs, by rw [List.length_cons, List.length_cons, hl], by rw [List.map_cons, ek], .cons ⟨ru, ry⟩ rel, fun j q e => ?_⟩
    cases j with
    | zero =>
      have e' : (k, u, y) = q := Option.some.inj e
      subst e'
      refine ⟨p, rfl, ht, hk, ok.2.1, fun x t e => ?_⟩
      dsimp only at e
      subst e
      obtain ⟨kx, ky⟩ := kv
      have o1 := ok.2.2
      dsimp only at ru o1
      cases kx with
      | str x => exact o1 _ rfl
      | int i => obtain ⟨_, z⟩ := ru; cases z
      | byt i => obtain ⟨_, z⟩ := ru; cases z
      | flt i => obtain ⟨_, z⟩ := ru; cases z
      | _ => cases ru
    | succ j =>
      obtain ⟨b, e1, e2⟩ := hp j q (by simpa using e)
      exact ⟨b, by simpa using e1, e2⟩
theorem paired_join {prs : List (NestedKey × Value × Value)} : ∀ {kvs : List (V × V)} {es : List DictEntry}, Paired (fun (kv : V × V) (q : NestedKey × Value × Value) => RelV kv.1 q.2.1 ∧ RelV kv.2 q.2.2) kvs prs → Paired (fun (q : NestedKey × Value × Value) (e : DictEntry) => e.key = q.2.1 ∧ e.val = q.2.2) prs es → Paired (fun (p : V × V) (e : DictEntry) => RelV p.1 e.key ∧ RelV p.2 e.val) kvs es := by
  induction prs with
  | nil => intro kvs es h1 h2; cases h1; cases h2; exact .nil
  | cons q prs ih =>
    intro kvs es h1 h2
    cases h1 with
    | cons a b =>
      cases h2 with
      | cons c d => exact .cons ⟨by rw [c.1]; exact a.1, by rw [c.2]; exact a.2⟩ (ih b d)
def rDictO (K : PySem.W.Frag) : List V → Hp → VK → Prop := fun xs H Q => ∃ (a : Addr) (ps : List Addr) (kvs : List (V × V)) (ks : List NestedKey), xs = [.ref a] ∧ SqL K H a (ps.map V.ref) ∧ Paired (fun p (kv : V × V) => SqT K H p [kv.1, kv.2]) ps kvs ∧ Paired (OddKey H) ks kvs ∧ ks.Pairwise (fun a b => NestedKey.beq a b = false) ∧
  ∀ p, H p = none → Q (.ref p) (upd H p (.ext (OddAt p kvs)))
theorem call_dictO (hcalm : X.calm = true) (hu : X.A.units + 64 < cLine) : CallR X (.type "dict") (rDictO X.K) := by
  intro pins s σ H xs us Q I r q
  obtain ⟨a, ps, kvs, ks, ex, hq, hp, hk, pw, q⟩ := q
  subst ex
  obtain ⟨u, eu, rx⟩ := vals1 r
  subst eu
  cases rx
  obtain ⟨its, rv, pl, hz⟩ := I.list hq
  have ei := refs_at rv
  subst ei
  rw [List.length_map] at hz
  obtain ⟨prs, hl, ek, rel, hpr⟩ := pairs_ofO I hp hk
  obtain ⟨o, n, ho, hc, hd, hdat⟩ := pl
  have pw2 : prs.Pairwise (fun a b => NestedKey.beq a.1 b.1 = false) := by
    rw [← ek] at pw
    exact List.pairwise_map.mp pw
  refine call_dict_pairsO (prs := prs) (by omega) (I.ok.hd hcalm) ho hc hd hdat (by simp [hl]) (by rw [hl]; exact hz) (fun j q' e => ?_) pw2 fun h' tk es ep raw pa k => ?_
  · obtain ⟨b, e1, e2⟩ := hpr j q' e
    exact ⟨b, by simp [e1], e2⟩
  · have hm : (s.heap.objs.size == sysModules) = false := beq_eq_false_iff_ne.mpr (Nat.ne_of_gt I.big)
    obtain ⟨o', ho', hx', hd'⟩ := raw
    have lk : kvs.length = ps.length := (Paired.length rel).trans hl
    have odd : OddAt s.heap.objs.size kvs h' := ⟨o', es, ep, ho', hx', hd', paired_join rel pa, by rw [lk]; exact hz, hm⟩
    exact ⟨.ref s.heap.objs.size, upd H s.heap.objs.size (.ext (OddAt s.heap.objs.size kvs)), I.laid (t' := tk) k (Nat.le_refl _) (show ObjOk X.prog X.w _ _ _ (.ext (OddAt s.heap.objs.size kvs)) from ⟨odd, ⟨o', ho'⟩, fun h1 h2 x k => let ⟨q, a1, a2, b1, b2⟩ := x; ⟨q, a1, a2, k q b1, b2⟩⟩), rfl, q _ (I.hok.fresh (Nat.le_refl _))⟩
end
end Gr
/-! len of a dict of any keys; a text as a key stored where none is -/
namespace Gr
open PySem PySem.Spec PyProof.Rows L2
section
variable {prog : Program} {w : World} {A : Around} {E : Value → Shared → Prop} {s : Shared}
theorem meets_lenO (d : Addr) (hd : (d == sysModules) = false) :
    MeetsIn prog w (Builtin.«dict.__len__» ⟨[.ref d], []⟩) (fun _ R s => ∃ (es : Array DictEntry) (ep : Nat), DT.Raw s.heap d es ep ∧ R (.ok (.ret (.int es.size s.toks))) { s with toks := s.toks + 1 }) :=
  .of_wp fun A R s ⟨es, ep, ⟨o, ho, hx, hdat⟩, h⟩ => by
    show wpAny _ _ (dictSize d >>= _) _ _ s
    unfold dictSize
    refine wpAny_bind (wpAny_bind (wpAny_dictEntries ho hdat (wpAny_pure ?_)))
    show wpAny _ _ (Builtin.Dict.pendingCount d >>= _) _ _ s
    refine wpAny_bind (wpAny_pendingCount_other hd ?_)
    refine wpAny_ret_mkInt ?_
    rw [Nat.add_zero]; exact h
theorem len_bodyO {d : Addr} {es : Array DictEntry} {ep : Nat} {Q : Value → Shared → Prop} (hd : (d == sysModules) = false) (hm : DT.Raw s.heap d es ep) (hfit : (es.size : Int) < 2 ^ 63)
    (h : Q (.int es.size (s.toks + 1)) { s with toks := s.toks + 1 + 1 }) : wpAny (model prog w) A (Builtin.«len» ⟨[.ref d], []⟩) (fun fin s' => ∃ r, fin = .done (.ret r) ∧ Q r s') E s := by
  unfold Builtin.«len»
  refine wpAny_bind (m := oneArg "len" _) (wpAny_pure ?_)
  refine wpAny_bind (m := callSpecial? (.ref d) (Str.ofString "__len__")) (wpAny_callSpecial?_slot (name := Str.ofString "__len__") hm.typeIs F.slot_dict_len
    (call_meetsIn F.slot_dict_len hm.typeIs F.entry_dict_len (F.args_dict_len_1 _) (meets_lenO d hd) ⟨es, ep, hm, ?_⟩))
  show wpAny _ _ _ _ _ { s with toks := s.toks + 1 }
  refine wpAny_bind (wpAny_holding (wpAny_pure ?_))
  refine wpAny_bind (wpAny_letGo ?_)
  show wpAny _ _ (if ((es.size : Nat) : Int) < 0 then _ else _) _ _ _
  rw [if_neg (by omega)]
  show wpAny _ _ (if ((es.size : Nat) : Int) ≥ 2 ^ 63 then _ else _) _ _ _
  rw [if_neg (by omega)]
  exact wpAny_bind (wpAny_mkInt (wpAny_pure ⟨_, rfl, h⟩))
end
def rLenR : List V → Hp → VK → Prop := fun xs H Q => ∃ (a : Addr) (kvs : List (V × V)), xs = [.ref a] ∧ DicR H a kvs ∧ Q (.int (kvs.length : Nat)) H
theorem call_lenR {X : Cx} : CallR X (.builtin "len") rLenR := by
  intro pins s σ H xs us Q I r h
  obtain ⟨a, kvs, rfl, ha, q⟩ := h
  obtain ⟨u, rfl, ru⟩ := vals1 r
  cases ru
  obtain ⟨o, es, ep, ho, hx, hdat, hp, hz, hs⟩ := ha.raw I
  have hl : kvs.length = es.size := by rw [← Array.length_toList]; exact Paired.length hp
  refine Calls.call_function_entry kind_len plain_len entry_len (args_len1 _) (len_bodyO hs ⟨o, ho, hx, hdat⟩ (by rw [← hl]; rw [sizeLine_eq] at hz; omega) ?_)
  rw [← hl]
  exact ⟨.int (kvs.length : Nat), H, I.tok _, ⟨_, rfl⟩, q⟩
/-- d[x] = v of a dict that has no x -/
def PutO (H : Hp) (a : Addr) (x : Str) (v : V) (H' : Hp) : Prop := (∃ kvs, H a = some (.dK kvs) ∧ kvs.length < sizeLine ∧ H' = upd H a (.dK (putK kvs (Sum.inr x) v))) ∨
  ∃ (kvs : List (V × V)) (ks : List NestedKey), H a = some (.ext (OddAt a kvs)) ∧ Paired (OddKey H) ks kvs ∧ kvs ≠ [] ∧ kvs.length < sizeLine ∧ H' = upd H a (.ext (OddAt a (kvs ++ [(.str x, v)])))
section
variable {X : Cx} {pins : List (Addr × Obj)} {σ : L2.St} {H : Hp} {s : Shared} {a : Addr} {v : V} {r : Value} {A : Around} {E : Value → Shared → Prop}
theorem odd_unlike {x : Str} (I : Inv X pins σ H s) : ∀ {ks : List NestedKey} {kvs : List (V × V)} {es : List DictEntry}, Paired (OddKey H) ks kvs → Paired (fun (p : V × V) (e : DictEntry) => RelV p.1 e.key ∧ RelV p.2 e.val) kvs es → ∀ e ∈ es, (∃ j, NestedIs s.heap j e.key ∧ j.depth ≤ 8 ∧ NestedKey.beq j (.text x) = false) ∧ isExactStrKey e.key = false
  | _, _, _, .nil, h => by cases h; intro e he; cases he
  | _, _, _, .cons (a := k) (b := kv) ok t, .cons (b := e0) rel t2 => by
    intro e he
    rcases List.mem_cons.mp he with rfl | he
    · have hk := KeyN.is I k kv.1 _ ok.1 rel.1
      have nt : ∀ y t, e.key ≠ .str y t := fun y t ez => by
        obtain ⟨kx, ky⟩ := kv
        have o1 := ok.2.2
        have ru := rel.1
        rw [ez] at ru
        dsimp only at ru o1
        cases kx with
        | str x => exact o1 _ rfl
        | int i => obtain ⟨_, z⟩ := ru; cases z
        | byt i => obtain ⟨_, z⟩ := ru; cases z
        | flt i => obtain ⟨_, z⟩ := ru; cases z
        | _ => cases ru
      refine ⟨⟨k, hk, ok.2.1, ?_⟩, ?_⟩
      · cases k with
        | text y =>
          generalize e.key = u at hk nt
          cases hk
          exact absurd rfl (nt _ _)
        | _ => rfl
      · generalize e.key = u at nt
        cases u with
        | str y t => exact absurd rfl (nt _ _)
        | _ => rfl
    · exact odd_unlike I t t2 e he
theorem d_setO {x : Str} {t : Tok} {H' : Hp} {Q : Unit → Shared → Prop} (hu : A.in1.units + 8 < cLine) (hu1 : A.units + 1 < cLine) (I : Inv X pins σ H s) (g : PutO H a x v H') (rv : RelV v r) (h : ∀ s', Inv X pins σ H' s' → Q () s') :
    wpAny (model X.prog X.w) A (setItem (.ref a) (.str x t) r) Q E s := by
  rcases g with ⟨kvs, e, l, rfl⟩ | ⟨kvs, ks, e, ok, ne, l, rfl⟩
  · exact d_setItem hu1 I (DPut.k (k := (Sum.inr x : Key)) e l) ⟨t, rfl⟩ rv h
  obtain ⟨o, es, ep, ho, hx, hdat, hp, hz, hs⟩ := (show ObjOk X.prog X.w H s.heap a (.ext _) from I.hok _ _ e).1
  have hl : kvs.length = es.size := by rw [← Array.length_toList]; exact Paired.length hp
  have un := odd_unlike (x := x) I ok hp
  have hk : NestedIs s.heap (.text x) (Value.str x t) := .text x t
  refine set_new (es := es) (ep := ep) hu hk (Nat.zero_le _) ⟨o, ho, hx, hdat⟩ (fun en hen => (un en (by simpa using hen)).1) (fun y t' ey => ?_) (by omega) fun h' raw sb => h _ ?_
  · rw [Array.all_eq_false]
    have l0 : 0 < es.size := by rw [← hl]; exact List.length_pos_iff.mpr ne
    exact ⟨0, l0, by rw [(un es[0] (by simp)).2]; decide⟩
  · obtain ⟨o', ho', hx', hd'⟩ := raw
    have odd : OddAt a (kvs ++ [(.str x, v)]) h' := by
      refine ⟨o', _, _, ho', hx', hd', ?_, ?_, hs⟩
      · rw [Array.toList_push]
        exact paired_app hp (.cons ⟨⟨t, rfl⟩, rv⟩ .nil)
      · rw [List.length_append]
        show kvs.length + 1 ≤ sizeLine
        omega
    exact d_write I (by rw [e]; exact True.intro) sb ⟨o', ho'⟩ ⟨odd, ⟨o', ho'⟩, fun h1 h2 x k => let ⟨q, a1, a2, b1, b2⟩ := x; ⟨q, a1, a2, k q b1, b2⟩⟩
end
def sDPutO (td ty tv : TE) : TS := fun D σ H => tv σ H fun v H1 => td σ H1 fun x H2 => ty σ H2 fun y H3 => ∃ a z H4, x = .ref a ∧ y = .str z ∧ PutO H3 a z v H4 ∧ D.nx σ H4
section
variable {X : Cx} {o i value : Expr} {td ty tv : TE} {pos pos' : Pos}
theorem ps_dputO (hu : X.A.units + 64 < cLine) (ho : PE X o td) (hi : PE X i ty) (hv : PE X value tv) (hs : swapsWith value (some (.Subscript o i pos')) pos.line X.env = pure false) :
    PS X (.Assign [.Subscript o i pos'] value pos) (sDPutO td ty tv) := by
  refine ⟨fun pins s σ H D I h => ?_⟩
  refine wpAny_Assign_Subscript (thn (hv.run pins s σ H _ I h) fun r s1 ⟨v, H1, I1, rv, q1⟩ => thn (ho.run pins s1 σ H1 _ I1 q1) fun u s2 ⟨x, H2, I2, rx, q2⟩ => thn (hi.run pins s2 σ H2 _ I2 q2) fun iv s3 ⟨y, H3, I3, ry, a, z, H4, ex, ey, g, q3⟩ => ?_) hs
  subst ex ey
  obtain rfl : u = Value.ref a := rx
  obtain ⟨t, rfl⟩ := ry
  exact d_setO (by show X.A.units + 1 + 8 < cLine; omega) (by omega) I3 g rv fun s4 I4 => ⟨σ, H4, I4, q3⟩
end
/-- a dict of any keys may stay as it is while an expression runs -/
theorem pe_lockO {X : Cx} {e : Expr} {t : TE} (h : PE X e t) : PE X e (fun σ H Q => tLockE t σ H Q ∨ t σ H Q) := by
  refine ⟨fun pins s σ H Q I hw => ?_⟩
  rcases hw with hw | hw
  · exact (pe_lock h).run pins s σ H Q I hw
  · exact h.run pins s σ H Q I hw
theorem ps_lockO {X : Cx} {st : Stmt} {t : TS} (h : PS X st t) : PS X st (fun D σ H => tLock t D σ H ∨ t D σ H) := by
  refine ⟨fun pins s σ H D I hw => ?_⟩
  rcases hw with hw | hw
  · exact (ps_lock h).run pins s σ H D I hw
  · exact h.run pins s σ H D I hw
end Gr
/-! isinstance of any datum, its dicts of any keys -/
namespace Gr
open PySem PySem.Spec PyProof.Rows L2
theorem DnAll.len {K : PySem.W.Frag} {H : Hp} : ∀ {vs : List V} {ds : List PyData}, DnAll K H vs ds → vs.length = ds.length
  | _, _, .nil => rfl
  | _, _, .cons _ b => by rw [List.length_cons, List.length_cons, DnAll.len b]
theorem dnAll_get {K : PySem.W.Frag} {H : Hp} : ∀ {vs : List V} {ds : List PyData} {i : Nat} {v : V}, DnAll K H vs ds → vs[i]? = some v → ∃ d, ds[i]? = some d ∧ Dn K H v d
  | _, _, _, _, .nil, h => by simp at h
  | _, _, 0, _, .cons a b, h => by
    simp only [List.getElem?_cons_zero, Option.some.injEq] at h
    subst h
    exact ⟨_, rfl, a⟩
  | _, _, i + 1, _, .cons a b, h => by
    simp only [List.getElem?_cons_succ] at h ⊢
    exact dnAll_get b h
theorem dnKv_get {K : PySem.W.Frag} {H : Hp} : ∀ {vs : List (V × V)} {ds : List (PyData × PyData)} {i : Nat} {p : V × V}, DnKv K H vs ds → vs[i]? = some p → ∃ c d, ds[i]? = some (c, d) ∧ Dn K H p.1 c ∧ Dn K H p.2 d
  | _, _, _, _, .nil, h => by simp at h
  | _, _, 0, _, .cons a b _, h => by
    simp only [List.getElem?_cons_zero, Option.some.injEq] at h
    subst h
    exact ⟨_, _, rfl, a, b⟩
  | _, _, i + 1, _, .cons _ _ b, h => by
    simp only [List.getElem?_cons_succ] at h ⊢
    exact dnKv_get b h
/-- the type of a datum that is no dict -/
theorem Dn.ty {K : PySem.W.Frag} {H : Hp} {v : V} {d : PyData} (h : Dn K H v d) (n : isDic d = false) : TyX K H v (.type (tyn d)) := by
  cases h with
  | non => exact .base .non
  | bl b => exact .base (.bl b)
  | int i => exact .base (.int i)
  | str x => exact .base (.str x)
  | lst hs _ => exact ty_seqL hs
  | tup hs _ => exact ty_seqT hs
  | dic _ _ => cases n
def rIsN (K : PySem.W.Frag) (T : String) : List V → Hp → VK → Prop := fun xs H Q => ∃ v d, xs = [v, .ty T] ∧ Dn K H v d ∧ Q (.bl (isT T d)) H
theorem call_isN {X : Cx} {T : String} (kit : ∀ d : PyData, PySem.W.kitOne X.K (.type (tyn d)) (.type T) = some (isT T d)) : CallR X (.builtin "isinstance") (rIsN X.K T) := by
  intro pins s σ H xs us Q I r h
  obtain ⟨v, d, rfl, hd, q⟩ := h
  cases hn : isDic d with
  | false => exact call_isi pins s σ H _ us Q I r ⟨v, .ty T, _, _, isT T d, rfl, .ty T, hd.ty hn, kit d, q⟩
  | true =>
    cases hd with
    | @dic a kvs ds hd _ =>
      cases r with
      | cons r1 r2 =>
        cases r2 with
        | cons r2 r3 =>
          cases r3
          cases r1
          cases (show _ = Value.type T from r2)
          obtain ⟨o, es, ep, ho, hx, _⟩ := hd.raw I
          exact PySem.W.kia_one PySem.W.kitx_dict I.kIn ⟨o, ho, hx.1⟩ (kit (.dict ds)) (fun z => nomatch z) fun tk => ⟨.bl _, H, I.tok tk, rfl, q⟩
    | _ => cases hn
theorem kitN_names : ∀ t ∈ tyNames, ∀ T ∈ ["dict"], L2.kitB t T = some (isN T t) := by decide +kernel
theorem kitD {K : PySem.W.Frag} (d : PyData) : PySem.W.kitOne K (.type (tyn d)) (.type "dict") = some (isT "dict" d) := kit_ty (kitN_names _ (tyn_mem d) _ (by decide))
/-- isinstance(x, (list, tuple)) -/
def rIsLT (K : PySem.W.Frag) : List V → Hp → VK → Prop := fun xs H Q => ∃ v d tp, xs = [v, .ref tp] ∧ H tp = some (.tup [.ty "list", .ty "tuple"]) ∧ Dn K H v d ∧ Q (.bl (isT "list" d || isT "tuple" d)) H
theorem kit_lt {K : PySem.W.Frag} (d : PyData) : PySem.W.kitAny K (.type (tyn d)) [.type "list", .type "tuple"] = some (isT "list" d || isT "tuple" d) := by
  cases d <;> rfl
theorem call_isLT {X : Cx} : CallR X (.builtin "isinstance") (rIsLT X.K) := by
  intro pins s σ H xs us Q I r h
  obtain ⟨v, d, tp, rfl, hT, hd, q⟩ := h
  cases hn : isDic d with
  | false => exact call_isiT pins s σ H _ us Q I r ⟨v, tp, _, _, [.type "list", .type "tuple"], _, rfl, hT, .cons (.ty _) (.cons (.ty _) .nil), hd.ty hn, kit_lt d, q⟩
  | true =>
    cases hd with
    | @dic a kvs ds hd _ =>
      cases r with
      | cons r1 r2 =>
        cases r2 with
        | cons r2 r3 =>
          cases r3
          cases r1
          cases (show _ = Value.ref tp from r2)
          obtain ⟨o, es, ep, ho, hx, _⟩ := hd.raw I
          obtain ⟨_, its, rv, o2, h1, h2, n, h3⟩ := (show ObjOk X.prog X.w H s.heap tp (.tup [.ty "list", .ty "tuple"]) from I.hok tp _ hT)
          cases rv with
          | cons a1 b1 =>
            cases b1 with
            | cons a2 b2 =>
              cases b2
              cases (show _ = Value.type "list" from a1)
              cases (show _ = Value.type "tuple" from a2)
              obtain ⟨cc, dd, da, sl⟩ := o2
              simp only at h2 h3
              subst h2 h3
              exact PySem.W.kia_tup PySem.W.kitx_dict I.kIn ⟨o, ho, hx.1⟩ h1 (kit_lt (.dict ds)) (fun z => nomatch z) fun tk => ⟨.bl _, H, I.tok tk, rfl, q⟩
    | _ => cases hn
end Gr
namespace K18
open PySem PySem.Spec PyProof.Rows L2 Gr
def oV : Option Int → V
  | none => .non
  | some i => .int i
def inB (lo hi : Option Int) (i : Int) : Bool := (match lo with | none => true | some l => decide (l ≤ i)) && (match hi with | none => true | some h => decide (i ≤ h))
def isWh (lo hi : Option Int) : PyData → Bool
  | .int i => inB lo hi i
  | _ => false
def spWhole (K : PySem.W.Frag) : Sp := fun vs H Q _ => ∃ (v : V) (d : PyData) (lo hi : Option Int), vs = [v, oV lo, oV hi] ∧ Dn K H v d ∧ Q (.bl (isWh lo hi d)) H
section
variable {P : Program} {w : World} {K : PySem.W.Frag} {mg : Str → Option Value} {base : Heap} {f fN fP : Addr} {fd fdN fdP : FuncData}
theorem scWhole : FnScope ["thing", "low", "high"] ["thing", "low", "high"] (defScope sWhole) := ⟨rfl, rfl, rfl, by decide +kernel, rfl, by decide +kernel, by decide +kernel⟩
theorem oV_non (o : Option Int) : decide (oV o = V.non) = o.isNone := by
  cases o <;> rfl
theorem ok_whole (F : Fun K "is_whole" "is_whole" sWhole f fd) (mi : mg "isinstance" = none) (mI : mg "int" = none) (mB : mg "bool" = none) : FnOk P w K mg base CX0 1 f fd ["thing", "low", "high"] (spWhole K) := by
  refine F.ok scWhole (fun vs H Q E h => ?_) (fun cdv A outer s H vs Q E hr h => ?_)
  · obtain ⟨v, d, lo, hi, rfl, _⟩ := h
    rfl
  obtain ⟨v, d, lo, hi, rfl, hd, q⟩ := h
  refine ⟨_, pss_cons (ps_if (PW.pt (pw_or (pt_not (pt_val (pe_callB (call_isN kit_int) rfl mi boot_isi (pa_cons (pv 0) (pa_cons (pe_bltn (v := .ty "int") rfl mI boot_int rfl) pa_nil)))))
      (pw_or1 (pt_val (pe_callB (call_isN kit_bool) rfl mi boot_isi (pa_cons (pv 0) (pa_cons (pe_bltn (v := .ty "bool") rfl mB boot_bool rfl) pa_nil))))))) (pss_one (ps_ret pe_bl)) pss_nil)
    (pss_one (ps_ret (pe_and (pe_or (pe_cmp (pc_isN (pv 1))) (pe_one (pe_cmpR op_le (pv 1) (pv 0) (nomark _)))) (pe_one (pe_or (pe_cmp (pc_isN (pv 2))) (pe_one (pe_cmpR op_le (pv 0) (pv 2) (nomark _)))))))), ?_⟩
  refine ⟨_, rfl, v, d, rfl, hd, _, rfl, ?_⟩
  cases e1 : isT "int" d with
  | false =>
    have z : isWh lo hi d = false := by
      cases d <;> first | rfl | (simp [isT, isN, tyn] at e1; done)
    refine iteT (iteT ?_)
    rw [z] at q
    exact q
  | true =>
    refine iteF ⟨_, rfl, v, d, rfl, hd, _, rfl, ?_⟩
    cases e2 : isT "bool" d with
    | true =>
      obtain ⟨b, rfl⟩ := isT_bool e2
      exact iteT q
    | false =>
      refine iteF ?_
      obtain ⟨i, rfl⟩ := isT_int e1 e2
      cases hd
      have q' : Q (.bl (inB lo hi i)) H := q
      cases lo with
      | none =>
        refine ⟨_, rfl, _, rfl, iteT ⟨_, rfl, iteT ⟨_, rfl, _, rfl, ?_⟩⟩⟩
        cases hi with
        | none => exact iteT q'
        | some z => exact iteF ⟨_, rfl, _, rfl, _, _, rfl, rfl, by simpa [inB] using q'⟩
      | some y =>
        refine ⟨_, rfl, _, rfl, iteF ⟨_, rfl, _, rfl, _, _, rfl, rfl, _, rfl, ?_⟩⟩
        by_cases c : y ≤ i
        · refine (if_pos (decide_eq_true c)).mpr ?_
          refine ⟨_, rfl, _, rfl, ?_⟩
          cases hi with
          | none => exact iteT (by simpa [inB, c] using q')
          | some z => exact iteF ⟨_, rfl, _, rfl, _, _, rfl, rfl, by simpa [inB, c] using q'⟩
        · refine (if_neg (by simpa using c)).mpr ?_
          simpa [inB, c] using q'
end
end K18
/-! xs.extend(a tuple). -/
namespace PySem.AutoSeq1
open PySem
theorem gr_extend_tuple (l : Addr) (items : Array Value) (n : Nat) (b : Addr) (dd : Option Addr) (sl : Array (Option Value)) (more : Array Value) (m : Nat) (h0 : ¬(!items.isEmpty && Builtin.List.listTooLong (items.size + more.size)) = true) (h1 : items.size ≤ sizeLine) (h2 : items.size + more.size ≤ sizeLine + 1) :
    Meets (Builtin.«list.extend» ⟨[.ref l, .ref b], []⟩) (fun _ R s => s.heap.get? l = some { cls := .type "list", dict := none, data := .seq items n, slots := #[] } ∧ s.heap.get? b = some { cls := .type "tuple", dict := dd, data := .seq more m, slots := sl } ∧ R (.ok (.ret Value.none)) { s with heap := s.heap.update l (Obj.mapSeq fun x => x ++ more), toks := s.toks }) := by
  refine .of_wp fun prog w A R s h => ?_
  obtain ⟨hp, g, d, tk, os⟩ := s
  obtain ⟨hl, hb, h⟩ := h
  have f1 := idx_int
  have f2 := sub_tuple_tuple
  have f3 := sub_list_list
  have f4 := sub_tuple_list
  have f5 := sub_list_tuple
  have z : (items ++ more).size ≤ sizeLine + 1 := by
    rw [Array.size_append]
    exact h2
  wp_walk using (wpAny_updateSeq hl rfl (hz := h1) (_hz' := z)), wpAny_loadPart' hl, wpAny_loadPart' hb
  exact ⟨_, rfl, h⟩
end PySem.AutoSeq1
namespace Gr
open PySem PySem.Spec PyProof.Rows L2
section
variable {X : Cx}
def rExtT (K : PySem.W.Frag) : V → List V → Hp → VK → Prop := fun x vs H Q => ∃ (l b : Addr) (xs zs : List V), x = .ref l ∧ vs = [.ref b] ∧ H l = some (.lst xs) ∧ SqT K H b zs ∧ xs.length + zs.length ≤ sizeLine ∧ Q .non (upd H l (.lst (xs ++ zs)))
theorem mt_extT : MtM X "list.extend" (rExtT X.K) := by
  intro pins s σ H x vs v us Q I rx rv h
  obtain ⟨l, b, xs, zs, rfl, rfl, hH, hB, hz, q⟩ := h
  cases rx
  obtain ⟨u, rfl, ru⟩ := rv.one
  cases ru
  obtain ⟨z, its, n, r, hl, e⟩ := I.lstM hH
  obtain ⟨more, r2, ⟨o, ho, hc, m, hd⟩, z2⟩ := I.tuple hB
  obtain ⟨oc, dd, dt, sl⟩ := o
  dsimp only at hc hd
  subst hc hd
  have l2 := r2.length
  have small : its.toArray.size + more.toArray.size ≤ sizeLine := by
    rw [List.size_toArray, List.size_toArray, ← hl, ← l2]
    exact hz
  have h0 : ¬ (!its.toArray.isEmpty && Builtin.List.listTooLong (its.toArray.size + more.toArray.size)) = true := by
    rw [notLongL small, Bool.and_false]
    exact Bool.false_ne_true
  refine call_meets F.slot_list_extend ⟨_, e, rfl⟩ F.entry_list_extend (F.args_list_extend_2 _ _)
    (AutoSeq1.gr_extend_tuple l its.toArray n b dd sl more.toArray m h0 (by rw [List.size_toArray, ← hl]; exact z) (by omega)) ⟨e, ho, ?_⟩
  refine ⟨.non, _, I.lset (its' := its ++ more) hH e (by simp) (r.append r2) ?_, rfl, q⟩
  rw [List.length_append]
  exact hz
end
end Gr
/-! xs == [], whatever the items. -/
namespace Gr
open PySem PySem.Spec PyProof.Rows L2
section
variable {X : Cx}
def rEqNil (K : PySem.W.Frag) : R2 := fun x y H Q => ∃ (a b : Addr) (xs : List V), x = .ref a ∧ y = .ref b ∧ SqL K H a xs ∧ SqL K H b [] ∧ Q (.bl xs.isEmpty) H
theorem op_eqNil (hu : X.A.units + 64 < cLine) : OpR X (compareOp .Eq) (rEqNil X.K) := by
  intro pins s σ H x y v u Q I rx ry h
  obtain ⟨a, b, xs, rfl, rfl, ha, hb, q⟩ := h
  cases xs with
  | nil =>
    exact op_eqD hu pins s σ H _ _ v u Q I rx ry ⟨.list [], .list [], .lst ha .nil, .lst hb .nil, by decide, by decide, q⟩
  | cons z zs =>
    cases rx
    cases ry
    obtain ⟨its, rv, pl, _⟩ := I.list ha
    obtain ⟨its2, rv2, pl2, _⟩ := I.list hb
    cases rv2
    cases rv with
    | cons r1 r2 =>
      exact PySem.SeqAt.eq_list_lengthsAt pl.isList pl2.isList (by simp) (by omega) ⟨.bl false, H, I, rfl, q⟩
end
end Gr
/-! A list comprehension over a tuple, within an except suite. -/
namespace Gr
open PySem PySem.Spec PyProof.Rows L2 L2H HotX

/-- the tuple's iterator is at its end while an exception is handled -/
theorem tuple_done_hot {prg : Program} {wd : World} {B : Around} {ex : Value → Shared → Prop} {sh : Shared} {j tp x1 : Addr} {n : Nat} {xs : Array Value} {R : Option Value → Shared → Prop}
    (hot : HotAt B x1 sh.heap) (ji : sh.heap.IsTupleIter j tp n) (jt : sh.heap.IsTuple tp xs) (out : xs[n]? = none)
    (q : ∀ g, Heap.ExtBut j sh.heap g → R none { sh with heap := g }) : wpAny (model prg wd) B (pyNext (.ref j)) R ex sh := by
  obtain ⟨jo, jg, jc, jd⟩ := id ji
  obtain ⟨to, tg, _, tn, td⟩ := jt
  obtain ⟨hh, xo, xv, xg, xd, xc⟩ := hot
  have jx : x1 ≠ j := by
    intro z
    rw [z, jg] at xg
    cases xg
    rw [jd] at xd
    cases xd
    exact nomatch (show (none : Option Value) = some Value.none from xc)
  unfold pyNext
  refine wpAny_bind (wpAny_attempt (wpAny_callSpecial?_slot (name := Str.ofString "__next__") ji.typeIs F.slot_tuple_iterator_next
    (wpAny_call_entry F.slot_tuple_iterator_next ji.typeIs F.entry_tuple_iterator_next ?go (F.args_tuple_iterator_next_1 _))))
  case go =>
  show wpAny _ _ (field (.ref j) 0 >>= _) _ _ sh
  refine wpAny_bind (wpAny_field jg jd (x := .ref tp) rfl ?a)
  case a =>
  show wpAny _ _ (if (Value.ref tp == Value.none) = true then _ else _) _ _ sh
  rw [if_neg (show ¬ ((Value.ref tp == Value.none) = true) by intro z; exact nomatch z)]
  show wpAny _ _ (field (.ref j) 1 >>= _) _ _ sh
  refine wpAny_bind (wpAny_field jg jd (x := .int n 0) rfl ?b)
  case b =>
  show wpAny _ _ (seqItems? (.ref tp) >>= _) _ _ sh
  refine wpAny_bind (wpAny_seqItems tg td ?c)
  case c =>
  simp only [Int.toNat_natCast, out]
  refine wpAny_bind (wpAny_rule (wpAny_bind (wpAny_setField jg jd (by simp) ?d)))
  case d =>
  show wpAny _ _ (newExc (.type "StopIteration") [] >>= _) _ _ _
  refine wpAny_bind ?e
  case e =>
  simp only [newExc, newTuple]
  refine wpAny_bind (wpAny_newObj_type ?f (by size_fits))
  case f =>
  refine wpAny_bind (m := firstArgMember _ _) (wpAny_of_eq (a := Value.none) (by first | rfl | (simp only [firstArgMember]; rfl)) ?g)
  case g =>
  refine wpAny_newObj_type ?h (by size_fits)
  case h =>
  have xg2 : (sh.heap.update j (Obj.mapFields (·.setIfInBounds 0 .none))).get? x1 = some xo := by
    rw [Heap.get?_update_other _ _ (fun z => jx z.symm)]
    exact xg
  refine raiseNew_hot ⟨hh, xo, xv, Heap.get?_push_of_some _ (Heap.get?_push_of_some _ xg2), xd, xc⟩ (Nat.ne_of_lt (Heap.lt_size (Heap.get?_push_of_some _ xg2))) (Heap.get?_push_size _ rfl) rfl (by first | (simp; done) | (simp; omega) | (simp only [Array.size_append]; simp; omega)) ?i
  case i =>
  refine wpAny_bind (wpAny_isInstance (T := "StopIteration") (b := true) ⟨_, Heap.get?_update_self _ (Heap.get?_push_size _ rfl) rfl, rfl⟩ isSubtype_stop ?k)
  case k =>
  refine wpAny_pure (q _ ?l)
  case l =>
  intro c o nc e
  have e2 : (sh.heap.update j (Obj.mapFields (·.setIfInBounds 0 .none))).get? c = some o := by
    rw [Heap.get?_update_other _ _ (fun z => nc z.symm)]
    exact e
  rw [Heap.get?_update_other _ _ (Nat.ne_of_gt (Heap.lt_size (Heap.get?_push_of_some _ e2)))]
  exact Heap.get?_push_of_some _ (Heap.get?_push_of_some _ e2)
theorem turn_tupleH {P : Program} {w : World} {K : PySem.W.Frag} {tg : Expr} (t j : Addr) : TurnH P w K tg (Itt K t) [j] j (fun i h => h.IsTupleIter j t i) := by
  have T := turn_tuple (P := P) (w := w) (K := K) (tg := tg) t j
  refine ⟨T.mem, T.obj, T.keep, ?_, ?_, T.self⟩
  · intro X pe we ke _ i pins s σ H E I ok st go
    subst pe we ke
    obtain ⟨vs, v, isT, at_⟩ := go
    obtain ⟨us, rel, tup, _⟩ := I.tuple isT
    obtain ⟨u, hu, ru⟩ := rel.get at_
    obtain ⟨a0, a1, a2, a3, a4, a5⟩ := ok j (by simp)
    refine wpAny_pyNext_tuple_item st (show s.heap.IsTuple t us.toArray from tup) (x := u) (by simpa using hu) ?_
    intro g st2 same
    obtain ⟨o, e, c, d⟩ := id st2
    have J : Inv X pins σ H { s with heap := g } := I.turned (t' := s.toks) (fun b o ne eb => (same.2 b ne).trans eb) a0 a1 a3 a4 a5
    exact ⟨u, rfl, go_of (s := { s with heap := g }) e c d (by decide) ⟨v, H, J, ru, ⟨rfl, fun ws hw => by rw [I.tuple_inj hw isT]; exact at_⟩, st2, fun b hb => (ok b hb).1⟩⟩
  · intro X pe we ke hc i pins s σ H E I ok st go
    subst pe we ke
    obtain ⟨vs, isT, out⟩ := go
    obtain ⟨us, rel, tup, _⟩ := I.tuple isT
    obtain ⟨a0, a1, a2, a3, a4, a5⟩ := ok j (by simp)
    obtain ⟨x1, hot⟩ := hc.at I
    have len := rel.length
    refine tuple_done_hot hot st (show s.heap.IsTuple t us.toArray from tup) (by simp; omega) ?_
    intro g same
    exact ⟨rfl, I.turned (t' := s.toks) (fun b o ne eb => same b o ne eb) a0 a1 a3 a4 a5⟩
theorem pi_tupH {X : Cx} {tg l : Expr} {tl : TE} (hl : PE X l tl) : PIH X tg l (iTup X.K tl) := by
  constructor
  intro pins s σ H R I h
  refine thn (hl.run pins s σ H _ I h) ?_
  rintro v s1 ⟨x, H1, I1, r1, t, rfl, ⟨vs, isT⟩, q⟩
  cases r1
  obtain ⟨us, rel, tup, _⟩ := I1.tuple isT
  refine wpAny_pyIter_tuple (show s1.heap.IsTuple t us.toArray from tup) ?_
  have J := I1.kept (t' := s1.toks) fun b o e => Heap.get?_push_of_some { cls := .type "tuple_iterator", data := .fields #[.ref t, .int 0 0] } e
  refine ⟨s1.heap.objs.size, [s1.heap.objs.size], _, _, H1, rfl, J, turn_tupleH t _, ⟨_, Heap.get?_push_size _ rfl, rfl, rfl⟩, ?_, q⟩
  intro b hb
  obtain rfl : b = s1.heap.objs.size := by simpa using hb
  exact I1.fpOk (Nat.le_refl _) (I1.hok.fresh (Nat.le_refl _))
/-- the block's context, one exception pinned -/
abbrev blkH (X : Cx) (s : Shared) (H : Hp) (sc : Scope) (env : Env) (fp : List Addr) (p : Addr × Obj) : Cx := { X.blk s H sc env fp with pn := [p] }
theorem _root_.L2.Inv.pinOne {X : Cx} {σ : L2.St} {H : Hp} {s : Shared} {p : Addr × Obj} (I : Inv X [] σ H s) (hp : s.heap.get? p.1 = some p.2 ∧ H p.1 = none ∧ p.1 ≠ X.env.locals ∧ p.1 ∉ X.fs ∧ ∀ v, p.2.data ≠ .cell v) : Inv { X with pn := [p] } [] σ H s := by
  obtain ⟨ok, os, bare, base, loc, cell, free, freeC, pin, hok, len⟩ := I
  refine ⟨⟨ok.mod, ok.kind, ok.glob, ok.blt, ok.above, ok.inj, ok.has, ok.cab, ok.hd, ok.frames, ok.stk, ok.exf, ok.bs, ok.bsz, ok.noex, ok.exfs, ok.funs, ok.frf⟩, os, bare, base, loc, cell, free, freeC, ?_, hok, len⟩
  intro y hy
  obtain rfl : y = p := by simpa using hy
  exact hp
end Gr
namespace Gr
open PySem PySem.Spec PyProof.Rows L2 L2H HotX
abbrev bEnv (scp : Scope) (env : Env) (s : Shared) : Env := compEnvC scp (cellsFrom (s.heap.objs.size + 1) scp.names (cloFrom env.cells scp.names [])) s.heap.objs.size env
/-- [y for x in a tuple if ..] within an except suite -/
theorem pe_lcH {X : Cx} {y tg it : Expr} {ifs : List Expr} {scp : Scope} {own : List (Str × Nat)} {pos : Pos} {wi : TI} {g : TG} {tt : TT} {te : TE} (hc : HotC X) (nd : X.N.Nodup) (hi : PIH X tg it wi) (bk : BlkOk X.N X.env.scope scp own)
    (hg : ∀ (s : Shared) (H : Hp) (C : Addr) (cl : List (Str × Addr)) (fp : List Addr) (p : Addr × Obj), Hot1 X.A p → PG (blkH X s H scp (compEnvC scp cl C X.env) fp p) tg g)
    (ht : ∀ (s : Shared) (H : Hp) (C : Addr) (cl : List (Str × Addr)) (fp : List Addr) (p : Addr × Obj), Hot1 X.A p → PTs (blkH X s H scp (compEnvC scp cl C X.env) fp p) ifs tt)
    (he : ∀ (s : Shared) (H : Hp) (C : Addr) (cl : List (Str × Addr)) (fp : List Addr) (p : Addr × Obj), Hot1 X.A p → PE (blkH X s H scp (compEnvC scp cl C X.env) fp p) y te)
    (hs : ∀ z, foldedSetIterable it X.env z = pure z := by intro _; rfl) :
    PE X (.ListComp y [⟨tg, it, ifs, 0⟩] scp pos) (tLc wi g tt te (own.map (·.2))) := by
  constructor
  intro pins s σ H Q I h
  rw [eval_ListComp]
  obtain ⟨p, hot, hp⟩ := hc
  have hc : HotC X := ⟨p, hot, hp⟩
  have frees : ∀ z ∈ scp.names, z.2 = .free → ∃ c, X.env.cells.lookup z.1 = some c := by
    intro z hz e
    rcases bk.free z hz e with k | k
    · exact I.ok.has _ (.inl k)
    · exact I.ok.has _ (.inr k)
  refine wpAny_comprehension_free rfl hs (closure_ok frees) bk.kind (fun z hz e => by rw [bk.uniq z hz, e]) (thn (hi.run pins s σ H _ I h) fun v s1 h1 => thn h1 fun iv s2 h2 => ?_)
  obtain ⟨j, fp, tn, J, H2, rfl, I2, T, t2, ok2, q⟩ := h2
  refine wpAny_newObj_type (newEnv_comp ?_) (by show 0 ≤ sizeLine; decide)
  generalize eD : s2.heap.objs.size = D
  obtain ⟨W, ⟨m0, w0⟩, step⟩ := q D (I2.hok.fresh (Nat.le_of_eq eD))
  generalize e3 : ({ s2 with heap := s2.heap.push { cls := .type "list", data := .seq ([] : List Value).toArray } } : Shared) = s3
  have k3 : s3.heap = s2.heap.push { cls := .type "list", data := .seq ([] : List Value).toArray } := by rw [← e3]
  have I3 : Inv X pins σ (upd H2 D (.lst [])) s3 := by
    rw [← e3]
    refine I2.laid (t' := s2.toks) (fun b o e => Heap.get?_push_of_some _ e) (Nat.le_of_eq eD) ⟨Nat.zero_le _, [], 0, .nil, ?_⟩
    rw [← eD]
    exact Heap.get?_push_size _ rfl
  have old : ∀ b ∈ fp, b < s2.heap.objs.size := by
    intro b hb
    obtain ⟨o, e, _⟩ := T.obj _ _ t2 b hb
    exact Heap.lt_size e
  have ok3 : ∀ b ∈ fp, FpOk X pins (upd H2 D (.lst [])) b ∧ b < s3.heap.objs.size := by
    intro b hb
    have lt := old b hb
    refine ⟨⟨?_, (ok2 b hb).2⟩, ?_⟩
    · rw [upd_ne (by rw [← eD]; exact Nat.ne_of_lt lt)]
      exact (ok2 b hb).1
    · rw [k3, Heap.size_push]
      exact Nat.lt_succ_of_lt lt
  have t3 : tn 0 s3.heap := T.keep _ _ _ t2 fun b _ o e => by
    rw [k3]
    exact Heap.get?_push_of_some _ e
  have B0 := block_start I3 bk nd ok3
  have P3 := I3.pin p (List.mem_append_left _ hp)
  have gp := hg s3 (upd H2 D (.lst [])) s3.heap.objs.size (cellsFrom (s3.heap.objs.size + 1) scp.names (cloFrom X.env.cells scp.names [])) fp p hot
  have tp := ht s3 (upd H2 D (.lst [])) s3.heap.objs.size (cellsFrom (s3.heap.objs.size + 1) scp.names (cloFrom X.env.cells scp.names [])) fp p hot
  have ep := he s3 (upd H2 D (.lst [])) s3.heap.objs.size (cellsFrom (s3.heap.objs.size + 1) scp.names (cloFrom X.env.cells scp.names [])) fp p hot
  have B1 : Inv (blkH X s3 (upd H2 D (.lst [])) scp (bEnv scp X.env s3) fp p) [] (wipe σ (own.map (·.2))) (upd H2 D (.lst [])) { s3 with heap := pushCells (s3.heap.push { cls := .type "dict", data := .dict #[] }) scp.names } := by
    refine B0.pinOne ⟨pushCells_keeps _ _ _ _ (Heap.get?_push_of_some _ P3.1), P3.2.1, Nat.ne_of_lt (Heap.lt_size P3.1), ?_, P3.2.2.2.2⟩
    intro z
    rcases List.mem_cons.mp (I3.stkSub p.1 z) with z | z
    · exact P3.2.2.1 z
    · exact P3.2.2.2.1 z
  show codeAny _ _ (.compStart (.ListComp y [⟨tg, it, ifs, 0⟩] scp pos) 0 (.ref j) (.ref D) (bEnv scp X.env s3)) _ { s3 with heap := pushCells (s3.heap.push { cls := .type "dict", data := .dict #[] }) scp.names }
  have none3 : ∀ b ∈ fp, (upd H2 D (.lst [])) b = none := fun b hb => (ok3 b hb).1.1
  generalize ec : bEnv scp X.env s3 = ce at *
  have ec' : compEnvC scp (cellsFrom (s3.heap.objs.size + 1) scp.names (cloFrom X.env.cells scp.names [])) s3.heap.objs.size X.env = ce := ec
  rw [ec'] at gp tp ep
  have loc : ce.locals = s3.heap.objs.size := by
    rw [← ec']
    all_goals rfl
  generalize eH : upd H2 D (.lst []) = H3 at *
  generalize e4 : ({ s3 with heap := pushCells (s3.heap.push { cls := .type "dict", data := .dict #[] }) scp.names } : Shared) = s4 at *
  have t4 : tn 0 s4.heap := T.keep _ _ _ t3 fun b _ o e => by
    rw [← e4]
    exact pushCells_keeps _ _ _ _ (Heap.get?_push_of_some _ e)
  have still : ∀ {σ' : L2.St} {H' : Hp} {s' : Shared}, Inv (blkH X s3 H3 scp ce fp p) [] σ' H' s' → (∀ b ∈ fp, H' b = none) → ∀ b ∈ fp, FpOk (blkH X s3 H3 scp ce fp p) [] H' b := by
    intro σ' H' s' J' no b hb
    refine ⟨no b hb, (J'.ok.exf b hb).1, J'.ok.exfs b hb, .inl hb, fun x c e => (J'.ok.exf b hb).2 x c e, ?_⟩
    intro r hr
    obtain rfl : r = p := by simpa using hr
    exact (ok3 b hb).1.2.2.2.2.2 r (List.mem_append_left _ hp)
  have hotB : HotC (blkH X s3 H3 scp ce fp p) := ⟨p, hot, List.mem_cons_self⟩
  have loop : codeAny (model X.prog X.w) X.A (.compLoop (.ListComp y [⟨tg, it, ifs, 0⟩] scp pos) 0 (.ref j) (.ref D) ce) (compPost (model X.prog X.w) X.A X.xe none (EP X pins σ Q) (.ref D) s3.heap.objs.size) s4 := by
    refine compLoop_any (fun n s' => ∃ i H', Inv (blkH X s3 H3 scp ce fp p) [] (wipe σ (own.map (·.2))) H' s' ∧ tn i s'.heap ∧ (∀ b ∈ fp, H' b = none) ∧ W i n H') ?_ m0 ⟨0, H3, B1, t4, none3, w0⟩
    rintro n s5 ⟨i, H5, I5, t5, n5, w5⟩
    rcases step i n H5 w5 with ⟨stop, qq⟩ | ⟨go, Nx, hN, turn⟩
    · refine thnF (T.done (blkH X s3 H3 scp ce fp p) rfl rfl rfl hotB i [] s5 _ H5 (fun _ _ => False) I5 (still I5 n5) t5 stop) ?_
      rintro r s6 ⟨rfl, I6⟩
      have I7 : Inv X pins σ H5 s6 := I3.call' (ch := fp) I6.os I6.base I6.hok I6.bare fun b hb => ⟨(ok3 b hb).1.2.2.2.1, (ok3 b hb).1.2.1, (ok3 b hb).1.2.2.2.2.1, (ok3 b hb).1.2.2.2.2.2⟩
      have nC : H5 s3.heap.objs.size = none := by
        have z : H5 ce.locals = none := I6.free
        rw [loc] at z
        exact z
      obtain ⟨m, hn, _⟩ := I6.loc
      have hn : s6.heap.Ns ce.locals m := hn
      rw [loc] at hn
      refine ⟨m, hn, fun h'' sb => ?_⟩
      obtain ⟨f0, f1, f2, f3, f4, f5⟩ := I3.fpOk (H' := H5) (Nat.le_refl _) nC
      exact ⟨.ref D, H5, I7.turned (t' := s6.toks) (fun b o ne e => (sb.2 b ne).trans e) f0 f1 f3 f4 f5, rfl, qq⟩
    · refine thnF (T.item (blkH X s3 H3 scp ce fp p) rfl rfl rfl hotB i [] s5 _ H5 (fun _ _ => False) I5 (still I5 n5) t5 go) ?_
      rintro r s6 ⟨u, rfl, h6⟩
      refine thnF h6 ?_
      rintro _ s7 ⟨x, H7, I7, r7, y7, t7, n7⟩
      have I7' := I7.pinned (still I7 n7) (T.obj _ _ t7)
      refine thnF (gp.run _ s7 _ H7 x u _ I7' r7 (turn x H7 y7)) ?_
      rintro _ s8 ⟨σ8, H8, I8, w8, q8⟩
      refine thnF (tp.run _ s8 σ8 H8 _ I8 q8) ?_
      rintro b s9 ⟨H9, I9, q9⟩
      have fin : ∀ {s' : Shared} {H' : Hp}, Inv (blkH X s3 H3 scp ce fp p) ([] ++ pinsAt fp s7.heap) σ8 H' s' → Nx H' → ∃ m, m < n ∧ ∃ i H', Inv (blkH X s3 H3 scp ce fp p) [] (wipe σ (own.map (·.2))) H' s' ∧ tn i s'.heap ∧ (∀ b ∈ fp, H' b = none) ∧ W i m H' := by
        intro s' H' I' nx
        obtain ⟨m', lt, w'⟩ := hN H' nx
        have pin' : ∀ b ∈ fp, ∀ o, s7.heap.get? b = some o → s'.heap.get? b = some o ∧ H' b = none := by
          intro b hb o e
          have z := I'.pin (b, o) (List.mem_append_right _ (List.mem_append_right _ (mem_pinsAt hb e)))
          exact ⟨z.1, z.2.1⟩
        refine ⟨m', lt, i + 1, H', (I'.unpinned (pins := [])).weak (by rw [← w8, wipe_length]) ?_, T.keep _ _ _ t7 fun b hb o e => (pin' b hb o e).1, ?_, w'⟩
        · intro k v e
          rw [← w8] at e
          exact (wipe_some e).1
        · intro b hb
          obtain ⟨o, e, _⟩ := T.obj _ _ t7 b hb
          exact (pin' b hb o e).2
      cases b with
      | false =>
        simp only [Bool.false_eq_true, if_false] at q9 ⊢
        exact fin I9 q9
      | true =>
        simp only [if_true] at q9 ⊢
        refine thnF (ep.run _ s9 σ8 H9 _ I9 q9) ?_
        rintro z s10 ⟨yv, H10, I10, r10, acc, at_, sm, nx⟩
        exact app_ok (X := blkH X s3 H3 scp ce fp p) I10 at_ sm r10 fun s11 I11 => fin I11 nx
  exact codeAny_compStart_list loop (T.self X.A 0 _ _ _ t4 loop)
end Gr
/-! try: .. except T as n: .. else: .., the exception's context told to the suite. -/
namespace L2N
open PySem PySem.Spec PyProof.Rows L2
section
variable {Y : Cx} {tn nm : Str} {tv : Value} {j : Nat} {bd su els : List Stmt} {s0 : Stmt} {np ps hp : Pos} {tb : WX → TS} {ts : Addr → Value → Option Addr → TS} {out : WX} {u : TS}
/-- an exception that stands in flight is no frame's -/
theorem gr_noframe {B : Heap} {a : Addr} {envs : List Env} {g : Heap} {o : Obj} {vs : Array Value} (ff : g.FunFrames B envs) (at_ : g.get? a = some o) (d : o.data = .fields vs) : a ∉ frs envs := by
  intro m
  obtain ⟨_, o2, e2, no⟩ := ff.mem m
  rw [at_] at e2
  cases e2
  exact no _ d
/-- what the suite leaves, behind it the name is gone -/
theorem gr_behind {pl : List (Addr × Obj)} {a : Addr} {oe : Obj} {D : Ends} {f : Flow} {s6 : Shared} (ok : Y.Ok) (hN : Y.N.Nodup) (hj : Y.N[j]? = some nm) (loc : Y.env.kindOf nm = some .local)
    (h : SP (Y.suite a ((a, oe) :: (Y.pn ++ pl))) [] { nx := fun σ G => D.nx (σ.set j none) G, rt := fun v G => D.rt v G, bk := fun σ G => D.bk (σ.set j none) G, ct := fun σ G => D.ct (σ.set j none) G } f s6) :
    wpAny (model Y.prog Y.w) Y.A (do bindName Y.env nm .none; unbindBehindTheSuite Y.env nm hp) (fun _ s7 => SP Y pl D f s7) Y.xe s6 := by
  cases f with
  | next =>
    obtain ⟨σ6, G6, S6, q⟩ := h
    exact gone_ok (S6.unsuite ok) hN hj loc fun s7 J => ⟨_, _, J, q⟩
  | brk =>
    obtain ⟨σ6, G6, S6, q⟩ := h
    exact gone_ok (S6.unsuite ok) hN hj loc fun s7 J => ⟨_, _, J, q⟩
  | cont =>
    obtain ⟨σ6, G6, S6, q⟩ := h
    exact gone_ok (S6.unsuite ok) hN hj loc fun s7 J => ⟨_, _, J, q⟩
  | ret r =>
    obtain ⟨v6, σ6, G6, S6, rv, q⟩ := h
    exact gone_ok (S6.unsuite ok) hN hj loc fun s7 J => ⟨_, _, _, J, rv, q⟩
/-- the way of what the body lets out: the clause that takes it, or on -/
theorem gr_caught {pl : List (Addr × Obj)} {D : Ends} {e : Value} {sh : Shared} (ok : Y.Ok) (st : Y.stack = Y.env :: Y.outer) (fr : Y.env.frame = some Y.env.locals) (hN : Y.N.Nodup) (hj : Y.N[j]? = some nm) (loc : Y.env.kindOf nm = some .local) (hc : Names Y tn tv) (tk : Takes Y out)
    (hsu : ∀ (a : Addr) (oe : Obj) (cls : Value) (d : Option Addr) (pn : List (Addr × Obj)), Zn cls d oe → (∃ vs, oe.data = .fields vs) → PSs (Y.suite a ((a, oe) :: pn)) (s0 :: su) (ts a cls d)) {xe : Value → Shared → Prop}
    (h : XE (Y.tr (Y.pn ++ pl) xe) (wAs Y.K tv j ts out D) e sh) :
    wpAny (model Y.prog Y.w) Y.A (noteFrame e Y.env) (fun _ s₂ => wpAny (model Y.prog Y.w) Y.A (setFlight e none) (fun _ s₃ =>
      wpAny (model Y.prog Y.w) Y.A (handleBy e Y.env [.ExceptHandler (some (.Name tn np)) (some nm) (s0 :: su) hp]) (SP Y pl D) Y.xe s₃) Y.xe s₂) Y.xe sh := by
  have frames : Y.A.frames = some (Y.env :: Y.outer) := by rw [ok.frames, st]
  obtain ⟨x, B, t0, pl', σ, G, kl, dd, rfl, I0, below, upto, sky, free, os, bare, yes, take, inn, past⟩ := h
  have I1 : Inv Y pl σ G t0 := I0.ofTry ok
  have sky1 : Sky B (Y.env :: Y.outer) x (Zn kl dd) Y.env.locals sh.heap := by
    rw [← st]
    exact sky
  refine Sky.land Zn.steady frames fr sky1 ?_
  intro g1 fly1 up1
  have I2 : Inv Y pl σ G { sh with heap := g1 } := I1.landed below fly1.1 (upto.trans up1) os bare
  obtain ⟨o1, v1, at1, zn1, dat1⟩ := fly1.there
  have outF := gr_noframe fly1.2.2.1 at1 dat1
  have notL : x ≠ Y.env.locals := by
    intro z
    exact outF (List.mem_filterMap.mpr ⟨Y.env, List.mem_cons_self, by rw [fr, z]⟩)
  have notF : x ∉ Y.fs := by
    intro m
    obtain ⟨en, hen, q⟩ := List.mem_filterMap.mp m
    exact outF (List.mem_filterMap.mpr ⟨en, List.mem_cons_of_mem _ hen, q⟩)
  have I3 := I2.suite at1 dat1 free notL notF
  refine wpAny_handleBy_cons (codeAny_handlers_test ?_) (by intro q; cases q)
  have kind : PySem.W.Looks (model Y.prog Y.w) g1 (typeOf (.ref x)) kl := by
    intro A Q E s k q
    refine wpAny_typeOf_ref (k _ _ at1) ?_
    rw [zn1.1]
    exact q
  have asked := PySem.W.exm_one (M := model Y.prog Y.w) I2.kIn kind take
  have clause : ∀ {Q : Value → Shared → Prop} {E : Value → Shared → Prop}, Q tv { sh with heap := g1 } → wpAny (model Y.prog Y.w) (Y.A.mark (some (.ref x))) (eval (.Name tn np) Y.env) Q E { sh with heap := g1 } := by
    intro Q E q
    obtain ⟨gl, nd, own | ⟨own, boot, nn⟩⟩ := hc
    · exact ld_glob (X := Y.suite x ((x, o1) :: (Y.pn ++ pl))) I3 gl own q nd
    · exact ld_blt (X := Y.suite x ((x, o1) :: (Y.pn ++ pl))) I3 gl own boot q nn nd
  refine clause (asked.here ?_)
  cases yes with
  | true =>
    refine codeAny_handlers_suite_as (HandSPX.lands_againZ fly1 ?_)
    intro g2 fly2 up2
    have I4 : Inv Y pl σ G { sh with heap := g2 } := I1.landed below fly2.1 ((upto.trans up1).trans up2) os bare
    obtain ⟨o2, v2, at2, zn2, dat2⟩ := fly2.there
    have I5 := I4.suite at2 dat2 free notL notF
    refine store_ok (X := Y.suite x ((x, o2) :: (Y.pn ++ pl))) (v := .ref x) I5 hN hj (.inl loc) rfl ?_ (.inr loc)
    intro t5 I6
    exact wpAny_mono ((hsu x o2 kl dd (Y.pn ++ pl) zn2 ⟨_, dat2⟩).run [] t5 _ G _ I6 (inn rfl x free)) (fun f t6 r => gr_behind ok hN hj loc r) (fun _ _ z => z.elim)
  | false =>
    show wpAny _ Y.A (handleBy (.ref x) Y.env []) _ _ _
    refine wpAny_handleBy_nil ?_
    obtain ⟨_, _, _, o3, v3, T, oT, tt, at3, zn3, dat3, one3, _⟩ := id fly1
    unfold PySem.passOn
    refine wpAny_bind (wpAny_field at3 dat3 one3 ?_)
    rw [if_neg (show ¬ ((Value.ref T == Value.none) = true) by simp)]
    have on_ : wpAny (model Y.prog Y.w) Y.A (setFlight (.ref x) Y.env.frame) (fun _ t => wpAny (model Y.prog Y.w) Y.A (throw (.ref x) : Sem Flow) (SP Y pl D) Y.xe t) Y.xe { sh with heap := g1 } := by
      rw [fr]
      refine HandSPX.setFlight_upZ fly1 ?_
      intro g3 held up3
      refine wpAny_throw (tk _ _ ⟨x, B, t0, pl, σ, G, kl, dd, rfl, I1, below, (upto.trans up1).trans up3, .inr (.inr ?_), free, os, bare, past rfl⟩)
      rw [st]
      exact held
    first
      | exact wpAny_bind (wpAny_pure (wpAny_bind on_))
      | exact wpAny_bind on_
/-- the body, then what is to be behind it; an exception that it lets out goes to the suite, or on -/
def tTryE (K : PySem.W.Frag) (tv : Value) (j : Nat) (ts : Addr → Value → Option Addr → TS) (out : WX) (tb : WX → TS) (u : TS) : TS := fun D σ H => tb (wAs K tv j ts out D) { D with nx := u D } σ H
theorem gr_try_asE (st : Y.stack = Y.env :: Y.outer) (fr : Y.env.frame = some Y.env.locals) (hN : Y.N.Nodup) (hj : Y.N[j]? = some nm) (loc : Y.env.kindOf nm = some .local) (hc : Names Y tn tv) (tk : Takes Y out)
    (hb : ∀ (W : WX) (pn : List (Addr × Obj)) (xe : Value → Shared → Prop), Takes (Y.tr pn xe) W → PassesOwn (model Y.prog Y.w) Y.A Y.env xe → PSs (Y.tr pn xe) bd (tb W))
    (hsu : ∀ (a : Addr) (oe : Obj) (cls : Value) (d : Option Addr) (pn : List (Addr × Obj)), Zn cls d oe → (∃ vs, oe.data = .fields vs) → PSs (Y.suite a ((a, oe) :: pn)) (s0 :: su) (ts a cls d)) (ho : PSs Y els u) :
    PS Y (.Try bd [.ExceptHandler (some (.Name tn np)) (some nm) (s0 :: su) hp] els [] ps) (tTryE Y.K tv j ts out tb u) := by
  constructor
  intro pl sh σ H D I h
  have h : tb (wAs Y.K tv j ts out D) { D with nx := u D } σ H := h
  have ok := I.ok
  refine wpAny_Try_except ?_
  refine wpAny_mono ((hb (wAs Y.K tv j ts out D) (Y.pn ++ pl) _ (fun e s' xx => gr_caught ok st fr hN hj loc hc tk hsu xx) PassesOwn.looking).run [] sh σ H { D with nx := u D } (I.toTry _) h) ?_ (fun e s1 he => he)
  intro f s1 r
  cases f with
  | next =>
    obtain ⟨σ', G, J, q⟩ := r
    exact ho.run pl s1 σ' G D (J.ofTry ok) q
  | brk =>
    obtain ⟨σ', G, J, q⟩ := r
    exact ⟨σ', G, J.ofTry ok, q⟩
  | cont =>
    obtain ⟨σ', G, J, q⟩ := r
    exact ⟨σ', G, J.ofTry ok, q⟩
  | ret v =>
    obtain ⟨x, σ', G, J, rv, q⟩ := r
    exact ⟨x, σ', G, J.ofTry ok, rv, q⟩
end
end L2N
/-! An exception with a field, made and raised, its context told. -/
namespace L2N
open PySem PySem.Spec PyProof.Rows L2
theorem gr_mk {X : Cx} {CX : CXT} {x : Str} {C fI : Addr} {k : Nat} {fd : FuncData} {ps : List Str} {sp : Sp} {e : Expr} {es : List Expr} {ta : TA} {p pos : Pos} (T : OexC X.K C) (iC : PySem.W.findIn X.K (.ref C) "__init__" = some (some (.ref fI)))
    (tI : PySem.W.typeIn X.K (.ref fI) = some (.type "function")) (F1 : FnOk X.prog X.w X.K X.mg X.base CX k fI fd ps sp) (hr : Room (k + 1) X.A) (hb : Binds X.K fd ps []) (px : Passes CX X (fun _ _ _ => False)) (gl : Gl X x) (at_ : X.mg x = some (.ref C)) (ha : PA X (e :: es) ta)
    (nd : (x == ("__debug__" : Str)) = false := by decide) (he : starEach (e :: es) X.env = (false, eval e X.env) :: starEach es X.env := by rfl) (hpl : (backTo pos (starEach es X.env)).any (·.1) = false := by rfl) :
    PMk X (.Call (.Name x p) (e :: es) [] pos) (tMkO C sp [] ta) := by
  intro pl sh σ H Q I h
  obtain ⟨_, _, _, _, bm, _, _, _, _, _, _, _, _, _, _, hC, hbm⟩ := T.cls
  refine wpAny_Call_Name_kw (ld_glob I gl at_ ?_ nd)
  refine PySem.W.callWith_K (h₀ := X.base) I.ok.mod.kin T.kC (thn (ha.run pos pl sh σ H _ I h) ?_) he hpl
  rintro us s1 ⟨vs, G, J, rv, few, q⟩
  refine ⟨J.kIn, ?_⟩
  show wpAny _ _ (call (.ref C) us) _ _ _
  obtain ⟨hp, gs, dr, tk, os⟩ := s1
  generalize ea : hp.objs.size + 1 = a
  have lo : hp.objs.size ≤ a := by omega
  have free : G a = none := J.hok.fresh lo
  have q1 := q a free
  rw [List.append_nil] at q1
  generalize eh : (hp.push (PySem.W.kdv_tup us)).push (PySem.HandSPX.excO C hp.objs.size) = hp2
  have keep : ∀ b o, hp.get? b = some o → hp2.get? b = some o := by
    intro b o e
    rw [← eh]
    exact Heap.get?_push_of_some _ (Heap.get?_push_of_some _ e)
  have got : hp2.get? a = some (PySem.HandSPX.excO C hp.objs.size) := by
    rw [← eh, ← ea]
    heap_get
  have J2 : Inv X pl σ (upd G a (exo a C none)) ⟨hp2, gs, dr, tk, os⟩ := J.laid (t' := tk) (a := a) (o := exo a C none) (h' := hp2) keep lo (exo_ok got)
  have r2 : Vals (V.ref a :: vs) (Value.ref a :: us) := .cons rfl rv
  have len : (Value.ref a :: us ++ []).length = ps.length := by
    rw [List.append_nil, ← r2.length]
    exact F1.len _ _ _ _ q1
  have b2 := hb ⟨hp2, gs, dr, tk, os⟩ (Value.ref a :: us) J2.kIn len
  rw [List.append_nil] at b2
  have small : us.length ≤ sizeLine := by
    rw [← rv.length, sizeLine_eq]
    omega
  have fin : codeAny (model X.prog X.w) (X.A.under (.builtin "type.__call__" ⟨.ref C :: us, []⟩)) (.call (.ref fI) ⟨Value.ref a :: us, []⟩) _ ⟨hp2, gs, dr, tk, os⟩ :=
    F1.run (X.A.under (.builtin "type.__call__" ⟨.ref C :: us, []⟩)) X.stack ⟨hp2, gs, dr, tk, os⟩ _ ⟨Value.ref a :: us, []⟩ (Value.ref a :: us) _ _ (fun _ _ _ => False) (hr.make C us []) (J2.env0.make C us []) b2 r2 q1
  subst ea eh
  refine wpAny_call (PySem.HandSPX.call_own F.excBase_ValueError (fun Y => PySem.HandSPX.refsVE_contains Y bm hbm) (J.kIn _ _ hC) (PySem.W.looks_findIn J.kIn iC) (fun self => PySem.W.bind_fn J.kIn self tI) small (codeAny_mono fin ?_))
  intro r s' z
  match r, z with
  | .error er, z => exact px pl σ _ _ er s' J2 z
  | .ok .next, z => exact z.elim
  | .ok .brk, z => exact z.elim
  | .ok .cont, z => exact z.elim
  | .ok (.ret u), ⟨v, G2, eos, bare2, un2, hok2, rv2, ev, d, fs, e1, e2, e3, q2⟩ =>
    subst ev
    obtain ⟨h2, g2, d2, t2, os'⟩ := s'
    refine ⟨rv2, ?_⟩
    obtain ⟨t0, Z, J3, kZ, gone, here, free3⟩ := mk_end0 (d2 := d2) (t2 := t2) J lo keep un2 hok2 eos bare2 e1 e2 e3
    exact ⟨_, _, _, ⟨Z, g2, d2, t2, os'⟩, _, .ref C, some d, rfl, J3, kZ, gone, here, ⟨rfl, rfl, fun vs e => by cases e; rfl⟩, rfl, rfl, free3, rfl, bare2, raises_own T.exC T.tyC, q2⟩
end L2N
namespace K18
open PySem PySem.Spec PyProof.Rows L2 Gr
theorem dqAll_get {K : PySem.W.Frag} {H : Hp} : ∀ {vs : List V} {ds : List PyData} {i : Nat} {v : V}, DqAll K H vs ds → vs[i]? = some v → ∃ d, ds[i]? = some d ∧ Dq K H v d
  | _, _, _, _, .nil, h => by simp at h
  | _, _, 0, _, .cons a b, h => by
    simp only [List.getElem?_cons_zero, Option.some.injEq] at h
    subst h
    exact ⟨_, rfl, a⟩
  | _, _, i + 1, _, .cons a b, h => by
    simp only [List.getElem?_cons_succ] at h ⊢
    exact dqAll_get b h
theorem take_next {ds : List PyData} {i : Nat} {d : PyData} (h : ds[i]? = some d) : ds.take (i + 1) = ds.take i ++ [d] := by
  rw [List.take_add_one, h]
  all_goals rfl
theorem depth_get : ∀ {ds : List PyData} {i : Nat} {d : PyData}, ds[i]? = some d → d.depth ≤ PyData.depthAll ds
  | x :: xs, 0, d, h => by
    simp only [List.getElem?_cons_zero, Option.some.injEq] at h
    subst h
    simp only [PyData.depthAll]
    omega
  | x :: xs, i + 1, d, h => by
    simp only [List.getElem?_cons_succ] at h
    have q := depth_get h
    simp only [PyData.depthAll]
    omega
end K18
/-! f(k = v, ..), a def of the text, nothing by place. -/
namespace Gr
open PySem PySem.Spec PyProof.Rows L2
def tCallN0 (m : Nat) (sp : Sp) (gV : List V → List V → List V) (E : XK) (tk : TA) : TE := fun σ H Q => tk σ H fun zs G => zs.length = m ∧ sp (gV [] zs) G Q E
theorem pe_callN0 {X : Cx} {CX : CXT} {k : Nat} {f : Addr} {fd : FuncData} {ps ks : List Str} {sp : Sp} {E : XK} {x : Str} {p pos : Pos} {kws : List Keyword} {tk : TA} {g : List Value → List Value → List Value} {gV : List V → List V → List V}
    (F : FnOk X.prog X.w X.K X.mg X.base CX k f fd ps sp) (hr : Room k X.A) (gl : Gl X x) (at_ : X.mg x = some (.ref f)) (kp : PySem.W.keepIn X.K (.ref f) = true) (b : KBn X.K fd ps 0 ks g gV) (px : Passes CX X E) (pk : PK X kws tk)
    (all : (backToKw pos (keywordEach kws X.env)).all (·.1.isSome) = true := by rfl) (named : (backToKw pos (keywordEach kws X.env)).filterMap (·.1) = ks := by rfl) (nd : (x == ("__debug__" : Str)) = false := by decide)
    (plain : ((backTo pos (starEach [] X.env)).any (·.1) || (backToKw pos (keywordEach kws X.env)).any (·.1.isNone)) = false := by rfl) :
    PE X (.Call (.Name x p) [] kws pos) (tCallN0 ks.length sp gV E tk) := by
  constructor
  intro pins s σ H Q I h
  refine wpAny_Call_Name_kw (ld_glob I gl at_ ?_ nd)
  refine PySem.W.callWith_KW0 (h₀ := X.base) I.ok.mod.kin kp all (thn (pk.run pos pins s σ H _ I h) ?_) plain
  rintro ws s1 ⟨zs, G, J, rz, len, q⟩
  refine ⟨J.kIn, ?_⟩
  rw [named]
  exact run_fnN (us := []) (vs := []) F hr b px J .nil rz rfl len q
/-- for a promise that is asked where nothing is being shown -/
theorem run_fnNQ {X : Cx} {CX : CXT} {k n : Nat} {f : Addr} {fd : FuncData} {ps ks : List Str} {sp : Sp} {E : XK} {g : List Value → List Value → List Value} {gV : List V → List V → List V} {K : PySem.W.Frag}
    (F : FunD K "x" "x" default [] default [] [] f fd) : True := trivial
end Gr
/-! f(k = v, ..) of a def that may raise. -/
namespace Gr
open PySem PySem.Spec PyProof.Rows L2
def tCallN0S (m : Nat) (sp : Sp) (gV : List V → List V → List V) (E : L2.St → XK) (tk : TA) : TE := fun σ H Q => tk σ H fun zs G => zs.length = m ∧ sp (gV [] zs) G Q (E σ)
theorem pe_callN0S {X : Cx} {CX : CXT} {k : Nat} {f : Addr} {fd : FuncData} {ps ks : List Str} {sp : Sp} {E : L2.St → XK} {x : Str} {p pos : Pos} {kws : List Keyword} {tk : TA} {g : List Value → List Value → List Value} {gV : List V → List V → List V}
    (F : FnOk X.prog X.w X.K X.mg X.base CX k f fd ps sp) (hr : Room k X.A) (gl : Gl X x) (at_ : X.mg x = some (.ref f)) (kp : PySem.W.keepIn X.K (.ref f) = true) (b : KBn X.K fd ps 0 ks g gV) (px : ∀ σ, PassesAt CX X σ (E σ)) (pk : PK X kws tk)
    (all : (backToKw pos (keywordEach kws X.env)).all (·.1.isSome) = true := by rfl) (named : (backToKw pos (keywordEach kws X.env)).filterMap (·.1) = ks := by rfl) (nd : (x == ("__debug__" : Str)) = false := by decide)
    (plain : ((backTo pos (starEach [] X.env)).any (·.1) || (backToKw pos (keywordEach kws X.env)).any (·.1.isNone)) = false := by rfl) :
    PE X (.Call (.Name x p) [] kws pos) (tCallN0S ks.length sp gV E tk) := by
  constructor
  intro pins s σ H Q I h
  refine wpAny_Call_Name_kw (ld_glob I gl at_ ?_ nd)
  refine PySem.W.callWith_KW0 (h₀ := X.base) I.ok.mod.kin kp all (thn (pk.run pos pins s σ H _ I h) ?_) plain
  rintro ws s1 ⟨zs, G, J, rz, len, q⟩
  refine ⟨J.kIn, ?_⟩
  rw [named]
  have to := b.to s1 [] ws J.kIn rfl (rz.length.symm.trans len)
  refine wpAny_call (codeAny_mono (F.run X.A X.stack s1 G ⟨[], ks.zip ws⟩ (g [] ws) (gV [] zs) Q (E σ) hr J.env0 to (b.rel .nil rz) q) ?_)
  intro r s' z
  match r, z with
  | .error er, z => exact px σ pins G s1 er s' J z
  | .ok (.ret u), z => exact J.after z
  | .ok .next, z => exact z.elim
  | .ok .brk, z => exact z.elim
  | .ok .cont, z => exact z.elim
end Gr
/-! isinstance(e, c), e the exception that the suite holds, with fields. -/
namespace Gr
open PySem PySem.Spec PyProof.Rows L2
theorem xf_of {K : PySem.W.Frag} {C : Addr} (c : ExcC K C) : XfC K C := ⟨c.hg, c.hk, c.hs, c.hd⟩
theorem cls_some {K : PySem.W.Frag} {C : Addr} (h : PySem.W.hasDictIn K C = true) : (PySem.W.clsIn K C).isSome = true := by
  unfold PySem.W.hasDictIn at h
  cases e : PySem.W.clsIn K C with
  | none => rw [e] at h; cases h
  | some c => rfl
def rIsEd (K : PySem.W.Frag) (C a : Addr) (cls : Value) (d : Option Addr) : List V → Hp → VK → Prop := fun xs H Q => ∃ (D : Addr) (dd : Addr) (fs : List (Str × V)) (b : Bool), xs = [.ref a, .ref D] ∧ cls = .ref C ∧ d = some dd ∧ H dd = some (.xd fs) ∧ PySem.W.kitOne K (.ref C) (.ref D) = some b ∧ Q (.bl b) H
theorem call_isEd {X : Cx} {a C : Addr} {oe : Obj} {cls : Value} {d : Option Addr} {pn : List (Addr × Obj)} (T : ExcC X.K C) (hz : Zc cls d oe) (hf : ∃ vs, oe.data = .fields vs) : CallR (X.suite a ((a, oe) :: pn)) (.builtin "isinstance") (rIsEd X.K C a cls d) := by
  intro pl sh σ H xs us Q I r h
  obtain ⟨D, dd, fs, b, rfl, rfl, rfl, hx, e, q⟩ := h
  obtain ⟨u1, u2, rfl, r1, r2⟩ := vals2 r
  cases r1
  cases r2
  obtain ⟨at_, _⟩ := I.pin (a, oe) (List.mem_append_left _ List.mem_cons_self)
  obtain ⟨vs, hd⟩ := hf
  have ok : ObjOk X.prog X.w H sh.heap dd (.xd fs) := I.hok dd _ hx
  obtain ⟨mA, ns, _⟩ := ok
  obtain ⟨od, ho, _⟩ := lookIn_ns ns
  have J : PySem.W.InstAt sh.heap a oe C (some od) := ⟨at_, hz.1, by unfold PySem.W.notCls; rw [hd] <;> rfl, by rw [hz.2]; exact ho⟩
  exact PySem.W.kia_one (PySem.W.kitx_exc (cls_some T.hd) T.hg T.hk T.hs T.ha T.hn T.ht T.hm) I.kIn J e (fun z => nomatch z) fun tk => ⟨.bl b, H, I.kept (t' := tk) fun _ _ z => z, rfl, q⟩
end Gr
/-! A head by facts, with facts of error classes that have fields. -/
namespace Gr
open PySem PySem.Spec PyProof.Rows L2
/-- as hookD, one check more -/
def hookG (n : Nat) (fa : List He.Fa) (fn : List He.DefD) (more : PySem.W.Frag → Bool) : PySem.W.Hook where
  α := He.AlD × Bool
  obs := fun s => (He.obsDG n fa fn s.heap.get?, more (He.frG s.heap.get? (He.asD s.heap.get? n)))
  val := fun _ => (He.valD fn, true)
  says := fun _ h => ∃ K : PySem.W.Frag, K.In h ∧ He.SaysD fa fn K ∧ more K = true
  of := fun _ _ e => ⟨_, He.frG_in, congrArg Prod.fst e, congrArg Prod.snd e⟩
  keeps := fun _ _ _ ⟨K, i, c, m⟩ k => ⟨K, PySem.W.Frag.In.keeps i k, c, m⟩
def obG (n : Nat) (fa : List He.Fa) (fn : List He.DefD) (more : PySem.W.Frag → Bool) (s : PySem.W.SharedT) : He.AlD × Bool := (He.obsDG n fa fn (HandSHeadRun.getT s), more (He.frG (HandSHeadRun.getT s) (He.asD (HandSHeadRun.getT s) n)))
theorem obG_eq {n : Nat} {fa : List He.Fa} {fn : List He.DefD} {more : PySem.W.Frag → Bool} (s : PySem.W.SharedT) : obG n fa fn more s = (hookG n fa fn more).obs s.abs := by
  have e : HandSHeadRun.getT s = s.abs.heap.get? := funext (HandSHeadRun.getT_eq s)
  unfold obG
  rw [e]
  all_goals rfl
/-- the class's line, behind itself, ends as ValueError's does -/
def lineB (K : PySem.W.Frag) (C : Addr) : Bool := match K.lookup C with
  | some ⟨_, _, .cls cd, _⟩ => (match cd.mro with
    | _ :: bm => PySem.HandSPX.refsVE bm
    | [] => false)
  | _ => false
def oexB (K : PySem.W.Frag) (C : Addr) : Bool := PySem.W.excInitIn K C He.veBase "ValueError.__new__" && (PySem.W.hasDictIn K C && (lineB K C && (He.eqO (PySem.W.findIn K (.ref C) "__setattr__") (some (some (.builtin "object.__setattr__"))) &&
  (decide (PySem.W.subIn K (.ref C) (.type "BaseException") = some true) && (decide (PySem.W.typeIn K (.ref C) = some (.type "type")) && PySem.W.keepIn K (.ref C))))))
theorem oexB_ok {K : PySem.W.Frag} {h : Heap} {C : Addr} (X : K.In h) (c : oexB K C = true) : OexC K C := by
  obtain ⟨c1, c⟩ := He.ba c
  obtain ⟨c2, c⟩ := He.ba c
  obtain ⟨c3, c⟩ := He.ba c
  obtain ⟨c4, c⟩ := He.ba c
  obtain ⟨c5, c⟩ := He.ba c
  obtain ⟨c6, c7⟩ := He.ba c
  obtain ⟨nm, N, qn, bs, bm, hdct, sn, sub, ab, col, dd, k0, k1, k2, k3, k5, at_, _⟩ := PySem.W.excInit_of X c1
  have there : ∃ o, K.lookup C = some o := by
    unfold PySem.W.excInitIn at c1
    cases e : K.lookup C with
    | none => rw [e] at c1; cases c1
    | some o => exact ⟨o, rfl⟩
  obtain ⟨o, e⟩ := there
  have eo := X C o e
  rw [at_] at eo
  obtain rfl := Option.some.inj eo
  have hd : hdct = true := by
    unfold PySem.W.hasDictIn PySem.W.clsIn at c2
    rw [e] at c2
    exact c2
  subst hd
  have line : PySem.HandSPX.refsVE bm = true := by
    unfold lineB at c3
    rw [e] at c3
    exact c3
  exact ⟨⟨nm, qn, N, bs, bm, sn, sub, ab, col, dd, k0, k1, k2, k3, k5, e, line⟩, He.eqO_ok c4, of_decide_eq_true c5, of_decide_eq_true c6, c7⟩
def excB (K : PySem.W.Frag) (C : Addr) : Bool := He.eqO (PySem.W.findIn K (.ref C) "__getattribute__") (some (some (.builtin "BaseException.__getattribute__"))) && (He.eqO (PySem.W.findIn K (.ref C) "__getattr__") (some none) &&
  (decide (PySem.W.subIn K (.ref C) (.type "BaseException") = some true) && (PySem.W.hasDictIn K C && (He.eqO (PySem.W.findIn K (.ref C) "__class__") (some (some (.builtin "object.__class__"))) &&
  (He.eqO (PySem.W.specialIn K (.builtin "object.__class__") "__get__") (some (some (.builtin "getset_descriptor.__get__"))) && (decide (PySem.W.takesIn K (.builtin "object.__class__") = some true) && decide (PySem.W.mroIn K C (.type "object") = some true)))))))
theorem excB_ok {K : PySem.W.Frag} {C : Addr} (c : excB K C = true) : ExcC K C := by
  obtain ⟨c1, c⟩ := He.ba c
  obtain ⟨c2, c⟩ := He.ba c
  obtain ⟨c3, c⟩ := He.ba c
  obtain ⟨c4, c⟩ := He.ba c
  obtain ⟨c5, c⟩ := He.ba c
  obtain ⟨c6, c⟩ := He.ba c
  obtain ⟨c7, c8⟩ := He.ba c
  exact ⟨He.eqO_ok c1, He.eqO_ok c2, of_decide_eq_true c3, c4, He.eqO_ok c5, He.eqO_ok c6, of_decide_eq_true c7, of_decide_eq_true c8⟩
/-- an error class with its own __init__, of a family -/
def errB (C D : Str) (f : Str) (K : PySem.W.Frag) : Bool := oexB K (He.ga K C) && (He.eqO (PySem.W.findIn K (.ref (He.ga K C)) "__init__") (some (some (.ref (He.ma K (He.ga K C) "__init__")))) && (decide (PySem.W.typeIn K (.ref (He.ma K (He.ga K C) "__init__")) = some (.type "function")) &&
  (He.eqO (PySem.W.findIn K (.ref (He.ga K C)) f) (some none) && (excB K (He.ga K C) && (decide (PySem.W.kitOne K (.ref (He.ga K C)) (.ref (He.ga K D)) = some true) && decide (PySem.W.exmOne K (.ref (He.ga K C)) (.ref (He.ga K C)) = some true))))))
structure ErrF (K : PySem.W.Frag) (C D f : Str) : Prop where
  ox : OexC K (He.ga K C)
  iC : PySem.W.findIn K (.ref (He.ga K C)) "__init__" = some (some (.ref (He.ma K (He.ga K C) "__init__")))
  tI : PySem.W.typeIn K (.ref (He.ma K (He.ga K C) "__init__")) = some (.type "function")
  no : PySem.W.findIn K (.ref (He.ga K C)) f = some none
  ex : ExcC K (He.ga K C)
  is : PySem.W.kitOne K (.ref (He.ga K C)) (.ref (He.ga K D)) = some true
  take : PySem.W.exmOne K (.ref (He.ga K C)) (.ref (He.ga K C)) = some true
theorem errB_ok {K : PySem.W.Frag} {h : Heap} {C D f : Str} (X : K.In h) (c : errB C D f K = true) : ErrF K C D f := by
  obtain ⟨c1, c⟩ := He.ba c
  obtain ⟨c2, c⟩ := He.ba c
  obtain ⟨c3, c⟩ := He.ba c
  obtain ⟨c4, c⟩ := He.ba c
  obtain ⟨c5, c⟩ := He.ba c
  obtain ⟨c6, c7⟩ := He.ba c
  exact ⟨oexB_ok X c1, He.eqO_ok c2, of_decide_eq_true c3, He.eqO_ok c4, excB_ok c5, of_decide_eq_true c6, of_decide_eq_true c7⟩
end Gr
/-! Tables of the module with text keys: what stands in them, what doesn't. A head with tables and checks. -/
namespace Gr
open PySem PySem.Spec PyProof.Rows L2
theorem tab_not {P : Params} {z : Str} : ∀ {l : List DictEntry} {ks : List Str}, l.map He.keyOf = He.keysIn P ks → z ∉ ks → l.find? (fun e => e.key.isStr z) = none ∧ l.any (fun e => e.refKey) = false
  | [], _, _, _ => ⟨rfl, rfl⟩
  | e :: r, [], h, _ => by cases h
  | e :: r, k :: ks, h, n => by
    have h1 : He.keyOf e :: r.map He.keyOf = some (k, PyData.keyHash P k) :: He.keysIn P ks := h
    injection h1 with h2 h3
    have ih := tab_not (z := z) h3 (fun m => n (List.mem_cons_of_mem _ m))
    unfold He.keyOf at h2
    split at h2
    · rename_i x t q
      have h4 := Option.some.inj h2
      obtain ⟨h5, h6⟩ := Prod.mk.inj h4
      have ne : (x == z) = false := by
        rw [beq_eq_false_iff_ne]
        intro e2
        exact n (by rw [← e2, h5]; exact List.mem_cons_self)
      constructor
      · rw [List.find?_cons]
        have : e.key.isStr z = false := by rw [q]; exact ne
        rw [this]
        exact ih.1
      · rw [List.any_cons, ih.2, Bool.or_false]
        unfold DictEntry.refKey
        rw [q]
    · cases h2
theorem tab_absent {K : PySem.W.Frag} {w : World} {a : Addr} {ks : List Str} {z : Str} (h : He.dicW K a = some (He.keysIn w.params ks)) (n : z ∉ ks) : PySem.W.nsIn K a z = some none := by
  unfold He.dicW at h
  split at h
  · rename_i c es m sl lk
    split at h
    · have q := tab_not (z := z) (Option.some.inj h) n
      unfold PySem.W.nsIn
      rw [lk]
      dsimp only
      rw [q.1]
      dsimp only
      rw [q.2]
      all_goals rfl
    · cases h
  · cases h
def rowsB (K : PySem.W.Frag) (a : Addr) (kvs : List (Str × V)) : Bool := kvs.all fun q => match PySem.W.nsIn K a q.1 with
  | some (some u) => He.relB q.2 u
  | _ => false
theorem rowsB_ok {K : PySem.W.Frag} {a : Addr} {kvs : List (Str × V)} (h : rowsB K a kvs = true) {q : Str × V} (hq : q ∈ kvs) : ∃ u, PySem.W.nsIn K a q.1 = some (some u) ∧ RelV q.2 u := by
  have h2 := List.all_eq_true.mp h q hq
  cases e : PySem.W.nsIn K a q.1 with
  | none =>
    rw [e] at h2
    cases h2
  | some r =>
    rw [e] at h2
    cases r with
    | none => cases h2
    | some u => exact ⟨u, rfl, He.relB_ok h2⟩
/-- as hookT, one check more -/
def hookGT (n : Nat) (fa : List He.Fa) (fn : List He.DefD) (ts : List He.Tab) (more : PySem.W.Frag → Bool) : PySem.W.Hook where
  α := He.AlT × Bool
  obs := fun s => (He.obsTG n fa fn ts s.heap.get?, more (He.frG s.heap.get? (He.asD s.heap.get? n)))
  val := fun w => (He.valT fn ts w, true)
  says := fun w h => ∃ K : PySem.W.Frag, K.In h ∧ He.SaysT fa fn ts w K ∧ more K = true
  of := fun _ _ e => ⟨_, He.frG_in, congrArg Prod.fst e, congrArg Prod.snd e⟩
  keeps := fun _ _ _ ⟨K, i, c, m⟩ k => ⟨K, PySem.W.Frag.In.keeps i k, c, m⟩
def obGT (n : Nat) (fa : List He.Fa) (fn : List He.DefD) (ts : List He.Tab) (more : PySem.W.Frag → Bool) (s : PySem.W.SharedT) : He.AlT × Bool := (He.obsTG n fa fn ts (HandSHeadRun.getT s), more (He.frG (HandSHeadRun.getT s) (He.asD (HandSHeadRun.getT s) n)))
theorem obGT_eq {n : Nat} {fa : List He.Fa} {fn : List He.DefD} {ts : List He.Tab} {more : PySem.W.Frag → Bool} (s : PySem.W.SharedT) : obGT n fa fn ts more s = (hookGT n fa fn ts more).obs s.abs := by
  have e : HandSHeadRun.getT s = s.abs.heap.get? := funext (HandSHeadRun.getT_eq s)
  unfold obGT
  rw [e]
  all_goals rfl
theorem SaysT_keys {fa : List He.Fa} {fn : List He.DefD} {ts : List He.Tab} {w : World} {K : PySem.W.Frag} (c : He.SaysT fa fn ts w K) (i : Nat) {t : He.Tab} (h : ts[i]? = some t := by rfl) : He.dicW K (t.1 K) = some (He.keysIn w.params t.2) := by
  have e : ts.map (fun t => He.dicW K (t.1 K)) = ts.map fun t => some (He.keysIn w.params t.2) := congrArg (fun z : He.AlT => z.2) c
  have e2 : (ts.map fun t => He.dicW K (t.1 K))[i]? = (ts.map fun t => some (He.keysIn w.params t.2))[i]? := by rw [e]
  rw [List.getElem?_map, List.getElem?_map, h] at e2
  exact Option.some.inj e2
/-- one class under another, or not -/
def kitB (C D : Str) (v : Bool) (K : PySem.W.Frag) : Bool := decide (PySem.W.kitOne K (.ref (He.ga K C)) (.ref (He.ga K D)) = some v)
/-- a clause for D takes a C -/
def takeB (C D : Str) (K : PySem.W.Frag) : Bool := decide (PySem.W.exmOne K (.ref (He.ga K C)) (.ref (He.ga K D)) = some true)
end Gr
namespace K18
open PySem PySem.Spec PyProof.Rows L2 Gr
/-- a dict of the module with text keys, and nothing else in it -/
structure Tab (K : PySem.W.Frag) (w : World) (d : Addr) (kvs : List (Str × V)) : Prop where
  kd : ∃ es n, KDict K w d es n
  has : ∀ q ∈ kvs, ∃ u, PySem.W.nsIn K d q.1 = some (some u) ∧ RelV q.2 u
  not : ∀ z, z ∉ kvs.map (·.1) → PySem.W.nsIn K d z = some none
def deedT : List (Str × V) := [("add", .non), ("times", .non), ("rest", .int 1)]
/-- a deed's word: the least that its number may be -/
def leastD (z : Str) : Option (Option Int) := if z = "add" then some none else if z = "times" then some none else if z = "rest" then some (some 1) else none
def isDeed : PyData → Bool
  | .tuple [.str z, e] => (match leastD z with
    | some lo => isWh lo none e
    | none => false)
  | _ => false
def allDeed : List PyData → Bool
  | [] => true
  | d :: ds => isDeed d && allDeed ds
def isDeeds : PyData → Bool
  | .tuple ds => decide (ds.length ≤ 8) && allDeed ds
  | _ => false
theorem least_in {z : Str} {lo : Option Int} (h : leastD z = some lo) : (z, oV lo) ∈ deedT := by
  unfold leastD at h
  split at h
  · rename_i e
    cases h
    rw [e]
    exact List.mem_cons_self ..
  · split at h
    · rename_i e
      cases h
      rw [e]
      exact List.mem_cons_of_mem _ (List.mem_cons_self ..)
    · split at h
      · rename_i e
        cases h
        rw [e]
        exact List.mem_cons_of_mem _ (List.mem_cons_of_mem _ (List.mem_cons_self ..))
      · cases h
theorem least_no {z : Str} (h : leastD z = none) : z ∉ deedT.map (·.1) := by
  unfold leastD at h
  split at h
  · cases h
  · split at h
    · cases h
    · split at h
      · cases h
      · rename_i a b c
        intro m
        simp only [deedT, List.map_cons, List.map_nil, List.mem_cons, List.mem_nil_iff, or_false] at m
        rcases m with m | m | m
        · exact a m
        · exact b m
        · exact c m
theorem isDeed_not {d : PyData} (h : isT "tuple" d = false) : isDeed d = false := by
  cases d with
  | tuple xs => exact absurd h (by simp [isT, isN, tyn])
  | _ => rfl
theorem isDeeds_not {d : PyData} (h : isT "tuple" d = false) : isDeeds d = false := by
  cases d with
  | tuple xs => exact absurd h (by simp [isT, isN, tyn])
  | _ => rfl
theorem isDeed_len {ds : List PyData} (h : ds.length ≠ 2) : isDeed (.tuple ds) = false := by
  match ds, h with
  | [], _ => rfl
  | [_], _ => simp [isDeed]
  | [_, _], h => exact absurd rfl h
  | _ :: _ :: _ :: _, _ => simp [isDeed]
theorem isDeed_word {a b : PyData} (h : isT "str" a = false) : isDeed (.tuple [a, b]) = false := by
  cases a with
  | str z => exact absurd h (by simp [isT, isN, tyn])
  | _ => simp [isDeed]
def spDeed (K : PySem.W.Frag) : Sp := fun vs H Q _ => ∃ (v : V) (d : PyData), vs = [v] ∧ Dn K H v d ∧ Q (.bl (isDeed d)) H
section
variable {P : Program} {w : World} {K : PySem.W.Frag} {mg : Str → Option Value} {base : Heap} {f fW dD : Addr} {fd fdW : FuncData}
theorem scDeed : FnScope ["thing", "word", "number"] ["thing"] (defScope sDeed) := ⟨rfl, rfl, rfl, by decide +kernel, rfl, by decide +kernel, by decide +kernel⟩
theorem ok_isDeed (F : Fun K "_is_deed" "_is_deed" sDeed f fd) (WH : Cal P w K mg base 1 "is_whole" ["thing", "low", "high"] (spWhole K) fW fdW) (TD : Tab K w dD deedT) (gD : mg "LEAST_OF_DEED" = some (.ref dD)) (mi : mg "isinstance" = none) (mT : mg "tuple" = none) (ms : mg "str" = none) (ml : mg "len" = none) :
    FnOk P w K mg base CX0 2 f fd ["thing"] (spDeed K) := by
  refine F.ok scDeed (fun vs H Q E h => ?_) (fun cdv A outer s H vs Q E hr h => ?_)
  · obtain ⟨v, d, rfl, _⟩ := h
    rfl
  obtain ⟨v, d, rfl, hd, q⟩ := h
  obtain ⟨es, nn, kd⟩ := TD.kd
  refine ⟨_, pss_cons (ps_if (PW.pt (pw_or (pt_not (pt_val (pe_callB (call_isN kit_tuple) rfl mi boot_isi (pa_cons (pv 0) (pa_cons (pe_bltn (v := .ty "tuple") rfl mT boot_tuple rfl) pa_nil)))))
        (pw_or1 (pt_cmpR op_ne (pe_callB call_len_seq rfl ml PySem.boot_len (pa_cons (pv 0) pa_nil)) pe_int (nomark _))))) (pss_one (ps_ret pe_bl)) pss_nil)
    (pss_cons (ps_asg (pv 0) (pg_tup rfl (pgs_cons (pg_name (i := 1) scDeed.nd rfl (Or.inl rfl)) (pgs_cons (pg_name (i := 2) scDeed.nd rfl (Or.inl rfl)) pgs_nil))))
    (pss_one (ps_ret (pe_and (pe_callB (call_isN kit_str) rfl mi boot_isi (pa_cons (pv 1) (pa_cons (pe_bltn (v := .ty "str") rfl ms boot_str rfl) pa_nil)))
      (pe_and (pe_cmpR (op_in_kd kd) (pv 1) (pe_glob (v := .ref dD) rfl gD rfl) rfl) (pe_one (pe_call WH.ok hr rfl WH.at_ WH.kp WH.bd .nil pass0 (pa_cons (pv 2) (pa_cons (pe_ix ix_kdict (pe_glob (v := .ref dD) rfl gD rfl) (pv 1) (fun _ _ => rfl)) (pa_cons pe_non pa_nil)))))))))), ?_⟩
  refine ⟨_, rfl, v, d, rfl, hd, _, rfl, ?_⟩
  cases ht : isT "tuple" d with
  | false =>
    rw [isDeed_not ht] at q
    exact iteT (iteT q)
  | true =>
  obtain ⟨ds, rfl⟩ := isT_tuple ht
  cases hd with
  | @tup a vs _ hs ha =>
  have lv := ha.len
  refine iteF ⟨_, rfl, a, vs, rfl, .inr hs, rfl, _, rfl, ?_⟩
  by_cases l2 : vs.length = 2
  · have e2 : decide (V.int (vs.length : Int) = V.int 2) = true := decide_eq_true (by rw [l2]; rfl)
    rw [e2]
    refine iteF ⟨_, rfl, a, vs, rfl, hs, l2, ?_⟩
    obtain ⟨x, y, rfl⟩ : ∃ x y, vs = [x, y] := by
      rcases vs with _ | ⟨x, _ | ⟨y, _ | _⟩⟩
      · cases l2
      · cases l2
      · exact ⟨x, y, rfl⟩
      · cases l2
    obtain ⟨dx, dy, rfl, hx, hy⟩ : ∃ dx dy, ds = [dx, dy] ∧ Dn _ H x dx ∧ Dn _ H y dy := by
      cases ha with
      | cons h1 h2 =>
        cases h2 with
        | cons h3 h4 =>
          cases h4
          exact ⟨_, _, rfl, h1, h3⟩
    refine ⟨_, _, rfl, _, _, rfl, rfl, ?_⟩
    refine ⟨_, rfl, x, dx, rfl, hx, _, rfl, ?_⟩
    cases hstr : isT "str" dx with
    | false =>
      rw [isDeed_word hstr] at q
      exact iteF q
    | true =>
    obtain ⟨z, rfl⟩ := isT_str hstr
    cases hx
    refine iteT ?_
    cases hz : leastD z with
    | none =>
      have e : isDeed (.tuple [.str z, dy]) = false := by simp [isDeed, hz]
      rw [e] at q
      exact ⟨_, rfl, z, none, rfl, rfl, TD.not z (least_no hz), _, rfl, iteF q⟩
    | some lo =>
      have e : isDeed (.tuple [.str z, dy]) = isWh lo none dy := by simp [isDeed, hz]
      rw [e] at q
      obtain ⟨u, n1, n2⟩ := TD.has _ (least_in hz)
      refine ⟨_, rfl, z, some u, rfl, rfl, n1, _, rfl, iteT ?_⟩
      exact ⟨_, rfl, _, rfl, dD, z, oV lo, rfl, rfl, ⟨es, nn, u, kd.at_, kd.lit, n1, n2⟩, y, dy, lo, none, rfl, hy, q⟩
  · have e2 : decide (V.int (vs.length : Int) = V.int 2) = false := decide_eq_false (fun z => l2 (by have := V.int.inj z; omega))
    rw [e2]
    rw [isDeed_len (by omega)] at q
    exact iteT q
end
end K18
namespace K18
open PySem PySem.Spec PyProof.Rows L2 Gr
theorem allDeed_app : ∀ xs ys : List PyData, allDeed (xs ++ ys) = (allDeed xs && allDeed ys)
  | [], ys => by simp [allDeed]
  | x :: xs, ys => by simp [allDeed, allDeed_app xs ys, Bool.and_assoc]
def spDeeds (K : PySem.W.Frag) : Sp := fun vs H Q _ => ∃ (v : V) (d : PyData), vs = [v] ∧ Dn K H v d ∧ ∀ H', Same H H' → Q (.bl (isDeeds d)) H'
/-- each part's truth, as they are made -/
structure Asked (H : Hp) (D : Addr) (ds : List PyData) (i : Nat) (G : Hp) : Prop where
  same : Same H G
  ex : ∃ bs : List Bool, G D = some (.lst (bs.map V.bl)) ∧ bs.length = i ∧ bs.all id = allDeed (ds.take i)
section
variable {P : Program} {w : World} {K : PySem.W.Frag} {mg : Str → Option Value} {base : Heap} {f fD : Addr} {fd fdD : FuncData}
theorem scDeeds : FnScope ["thing", "part"] ["thing"] (defScope sDeeds) := ⟨rfl, rfl, rfl, by decide +kernel, rfl, by decide +kernel, by decide +kernel⟩
theorem ok_isDeeds (F : Fun K "is_deeds" "is_deeds" sDeeds f fd) (DE : Cal P w K mg base 2 "_is_deed" ["thing"] (spDeed K) fD fdD) (mi : mg "isinstance" = none) (mT : mg "tuple" = none) (ml : mg "len" = none) (ma : mg "all" = none) {t8 : Tok} (m8 : mg "MOST_DEEDS" = some (.int 8 t8)) :
    FnOk P w K mg base CX0 3 f fd ["thing"] (spDeeds K) := by
  refine F.ok scDeeds (fun vs H Q E h => ?_) (fun cdv A outer s H vs Q E hr h => ?_)
  · obtain ⟨v, d, rfl, _⟩ := h
    rfl
  obtain ⟨v, d, rfl, hd, q⟩ := h
  refine ⟨_, pss_cons (ps_if (PW.pt (pw_or (pt_not (pt_val (pe_callB (call_isN kit_tuple) rfl mi boot_isi (pa_cons (pv 0) (pa_cons (pe_bltn (v := .ty "tuple") rfl mT boot_tuple rfl) pa_nil)))))
        (pw_or1 (pt_cmpR op_gt (pe_callB call_len_seq rfl ml PySem.boot_len (pa_cons (pv 0) pa_nil)) (pe_glob (v := .int 8) rfl m8 ⟨_, rfl⟩) (nomark _))))) (pss_one (ps_ret pe_bl)) pss_nil)
    (pss_one (ps_ret (pe_callB (cr_all rfl) rfl ma Gr.boot_all (pa_cons (pe_lc (own := [("part", 1)]) (g := gName 1) (tt := tYes) rfl scDeeds.nd (pi_tup (pv 0)) (blkOk_by (N := ["thing", "part"]) (sc := defScope sDeeds) (by decide +kernel)) (fun _ _ _ _ _ => pg_name (i := 1) scDeeds.nd rfl (Or.inl rfl))
          (fun _ _ _ _ _ => pts_nil) (fun _ _ _ _ _ => pe_call DE.ok hr rfl DE.at_ DE.kp DE.bd .nil pass0 (pa_cons (pv 1) pa_nil))) pa_nil)))), ?_⟩
  refine ⟨_, rfl, v, d, rfl, hd, _, rfl, ?_⟩
  cases ht : isT "tuple" d with
  | false =>
    have q' := q _ (Same.refl _)
    rw [isDeeds_not ht] at q'
    exact iteT (iteT q')
  | true =>
  obtain ⟨ds, rfl⟩ := isT_tuple ht
  cases hd with
  | @tup a vs _ hs ha =>
  have lv := ha.len
  refine iteF ⟨_, rfl, a, vs, rfl, .inr hs, _, _, rfl, rfl, _, rfl, ?_⟩
  refine ite2 (fun c => ?_) (fun c => ?_)
  · have c8 : (8 : Int) < (vs.length : Int) := of_decide_eq_true c
    have q' := q _ (Same.refl _)
    have e : isDeeds (.tuple ds) = false := by
      show (decide (ds.length ≤ 8) && allDeed ds) = false
      rw [decide_eq_false (show ¬ ds.length ≤ 8 by omega), Bool.false_and]
    rw [e] at q'
    exact q'
  · have c8 : ¬ (8 : Int) < (vs.length : Int) := of_decide_eq_false (Bool.eq_false_iff.mpr c)
    refine ⟨_, rfl, a, rfl, ⟨vs, hs⟩, fun D hD => ?_⟩
    refine lc_tup (xs := vs) (Asked H D ds) ⟨same_upd hD _, [], upd_same, rfl, by simp [allDeed]⟩ (fun i G' hi p => same_seqT p.same hs) (fun i x G' hx p => ?_) (fun G' p => ?_)
    · obtain ⟨dx, edx, hdx⟩ := dnAll_get ha hx
      obtain ⟨ps, bs, eD, la, ea⟩ := p
      have il : i < vs.length := (List.getElem?_eq_some_iff.mp hx).1
      refine ⟨rfl, ?_⟩
      refine yes_if ?_
      refine ⟨_, rfl, x, dx, rfl, hdx.le ps, ?_⟩
      refine ⟨_, eD, small1000 (by rw [List.length_map]; omega), fun b o e => ?_, bs ++ [isDeed dx], ?_, ?_, ?_⟩
      · rw [upd_ne (ne_of_none e hD)]
        exact ps b o e
      · rw [upd_same, List.map_append]
        all_goals rfl
      · rw [List.length_append, la]
        all_goals rfl
      · rw [take_next edx, allDeed_app, ← ea, List.all_append]
        simp [allDeed]
    · obtain ⟨ps, bs, eD, la, ea⟩ := p
      refine ⟨D, bs, rfl, SqL.of eD, ?_⟩
      have e : isDeeds (.tuple ds) = bs.all id := by
        rw [ea, lv, List.take_length]
        show (decide (ds.length ≤ 8) && allDeed ds) = allDeed ds
        rw [decide_eq_true (show ds.length ≤ 8 by omega), Bool.true_and]
      rw [← e]
      exact q _ ps
end
end K18
namespace K18
open PySem PySem.Spec PyProof.Rows L2 Gr
def testT : List (Str × V) := [("below", .non), ("parts", .int 1), ("is", .non)]
/-- a test's word: the least that its number may be -/
def leastT (z : Str) : Option (Option Int) := if z = "below" then some none else if z = "parts" then some (some 1) else if z = "is" then some none else none
def isTest : PyData → Bool
  | .tuple [ds, .str z, e, .bool _] => isDeeds ds && (match leastT z with
    | some lo => isWh lo none e
    | none => false)
  | _ => false
def allTest : List PyData → Bool
  | [] => true
  | d :: ds => isTest d && allTest ds
def isTests : PyData → Bool
  | .tuple ds => (decide (1 ≤ ds.length) && decide (ds.length ≤ 8)) && allTest ds
  | _ => false
theorem leastT_in {z : Str} {lo : Option Int} (h : leastT z = some lo) : (z, oV lo) ∈ testT := by
  unfold leastT at h
  split at h
  · rename_i e
    cases h
    rw [e]
    exact List.mem_cons_self ..
  · split at h
    · rename_i e
      cases h
      rw [e]
      exact List.mem_cons_of_mem _ (List.mem_cons_self ..)
    · split at h
      · rename_i e
        cases h
        rw [e]
        exact List.mem_cons_of_mem _ (List.mem_cons_of_mem _ (List.mem_cons_self ..))
      · cases h
theorem leastT_no {z : Str} (h : leastT z = none) : z ∉ testT.map (·.1) := by
  unfold leastT at h
  split at h
  · cases h
  · split at h
    · cases h
    · split at h
      · cases h
      · rename_i a b c
        intro m
        simp only [testT, List.map_cons, List.map_nil, List.mem_cons, List.mem_nil_iff, or_false] at m
        rcases m with m | m | m
        · exact a m
        · exact b m
        · exact c m
theorem isTest_not {d : PyData} (h : isT "tuple" d = false) : isTest d = false := by
  cases d with
  | tuple xs => exact absurd h (by simp [isT, isN, tyn])
  | _ => rfl
theorem isTests_not {d : PyData} (h : isT "tuple" d = false) : isTests d = false := by
  cases d with
  | tuple xs => exact absurd h (by simp [isT, isN, tyn])
  | _ => rfl
theorem isTest_len {ds : List PyData} (h : ds.length ≠ 4) : isTest (.tuple ds) = false := by
  rcases ds with _ | ⟨a, _ | ⟨b, _ | ⟨c, _ | ⟨d, _ | ⟨e, r⟩⟩⟩⟩⟩
  · rfl
  · simp [isTest]
  · simp [isTest]
  · simp [isTest]
  · exact absurd rfl h
  · simp [isTest]
theorem isTest_4 {a b c d : PyData} (h : (isDeeds a && isT "bool" d) = false) : isTest (.tuple [a, b, c, d]) = false := by
  cases d with
  | bool x =>
    have y : isT "bool" (.bool x) = true := rfl
    rw [y, Bool.and_true] at h
    cases b with
    | str z => simp [isTest, h]
    | _ => simp [isTest]
  | _ => cases b <;> simp [isTest]
theorem isTest_word {a b c d : PyData} (h : isT "str" b = false) : isTest (.tuple [a, b, c, d]) = false := by
  cases b with
  | str z => exact absurd h (by simp [isT, isN, tyn])
  | _ => simp [isTest]
def spTest (K : PySem.W.Frag) : Sp := fun vs H Q _ => ∃ (v : V) (d : PyData), vs = [v] ∧ Dn K H v d ∧ ∀ H', Same H H' → Q (.bl (isTest d)) H'
section
variable {P : Program} {w : World} {K : PySem.W.Frag} {mg : Str → Option Value} {base : Heap} {f fW fD dD : Addr} {fd fdW fdD : FuncData}
theorem scTest : FnScope ["thing", "deeds", "word", "number", "truth"] ["thing"] (defScope sTest) := ⟨rfl, rfl, rfl, by decide +kernel, rfl, by decide +kernel, by decide +kernel⟩
theorem ok_isTest (F : Fun K "_is_test" "_is_test" sTest f fd) (WH : Cal P w K mg base 1 "is_whole" ["thing", "low", "high"] (spWhole K) fW fdW) (DE : Cal P w K mg base 3 "is_deeds" ["thing"] (spDeeds K) fD fdD) (TD : Tab K w dD testT) (gD : mg "LEAST_OF_TEST" = some (.ref dD))
    (mi : mg "isinstance" = none) (mT : mg "tuple" = none) (ms : mg "str" = none) (mb : mg "bool" = none) (ml : mg "len" = none) :
    FnOk P w K mg base CX0 4 f fd ["thing"] (spTest K) := by
  refine F.ok scTest (fun vs H Q E h => ?_) (fun cdv A outer s H vs Q E hr h => ?_)
  · obtain ⟨v, d, rfl, _⟩ := h
    rfl
  obtain ⟨v, d, rfl, hd, q⟩ := h
  obtain ⟨es, nn, kd⟩ := TD.kd
  refine ⟨_, pss_cons (ps_if (PW.pt (pw_or (pt_not (pt_val (pe_callB (call_isN kit_tuple) rfl mi boot_isi (pa_cons (pv 0) (pa_cons (pe_bltn (v := .ty "tuple") rfl mT boot_tuple rfl) pa_nil)))))
        (pw_or1 (pt_cmpR op_ne (pe_callB call_len_seq rfl ml PySem.boot_len (pa_cons (pv 0) pa_nil)) pe_int (nomark _))))) (pss_one (ps_ret pe_bl)) pss_nil)
    (pss_cons (ps_asg (pv 0) (pg_tup rfl (pgs_cons (pg_name (i := 1) scTest.nd rfl (Or.inl rfl)) (pgs_cons (pg_name (i := 2) scTest.nd rfl (Or.inl rfl)) (pgs_cons (pg_name (i := 3) scTest.nd rfl (Or.inl rfl)) (pgs_cons (pg_name (i := 4) scTest.nd rfl (Or.inl rfl)) pgs_nil))))))
    (pss_cons (ps_if (PW.pt (pw_or (pt_not (pt_val (pe_call DE.ok hr rfl DE.at_ DE.kp DE.bd .nil pass0 (pa_cons (pv 1) pa_nil)))) (pw_or1 (pt_not (pt_val (pe_callB (call_isN kit_bool) rfl mi boot_isi (pa_cons (pv 4) (pa_cons (pe_bltn (v := .ty "bool") rfl mb boot_bool rfl) pa_nil)))))))) (pss_one (ps_ret pe_bl)) pss_nil)
    (pss_one (ps_ret (pe_and (pe_callB (call_isN kit_str) rfl mi boot_isi (pa_cons (pv 2) (pa_cons (pe_bltn (v := .ty "str") rfl ms boot_str rfl) pa_nil)))
      (pe_and (pe_cmpR (op_in_kd kd) (pv 2) (pe_glob (v := .ref dD) rfl gD rfl) rfl) (pe_one (pe_call WH.ok (hr.mono (by decide)) rfl WH.at_ WH.kp WH.bd .nil pass0 (pa_cons (pv 3) (pa_cons (pe_ix ix_kdict (pe_glob (v := .ref dD) rfl gD rfl) (pv 2) (fun _ _ => rfl)) (pa_cons pe_non pa_nil))))))))))), ?_⟩
  have no : isTest d = false → ∀ G, Same H G → Q (.bl false) G := fun e G s => by
    have q' := q G s
    rw [e] at q'
    exact q'
  refine ⟨_, rfl, v, d, rfl, hd, _, rfl, ?_⟩
  cases ht : isT "tuple" d with
  | false => exact iteT (iteT (no (isTest_not ht) _ (Same.refl _)))
  | true =>
  obtain ⟨ds, rfl⟩ := isT_tuple ht
  cases hd with
  | @tup a vs _ hs ha =>
  have lv := ha.len
  refine iteF ⟨_, rfl, a, vs, rfl, .inr hs, rfl, _, rfl, ?_⟩
  by_cases l4 : vs.length = 4
  · have e4 : decide (V.int (vs.length : Int) = V.int 4) = true := decide_eq_true (by rw [l4]; rfl)
    rw [e4]
    refine iteF ⟨_, rfl, a, vs, rfl, hs, l4, ?_⟩
    obtain ⟨x, y, z, u, rfl⟩ : ∃ x y z u, vs = [x, y, z, u] := by
      rcases vs with _ | ⟨x, _ | ⟨y, _ | ⟨z, _ | ⟨u, _ | _⟩⟩⟩⟩
      · cases l4
      · cases l4
      · cases l4
      · cases l4
      · exact ⟨x, y, z, u, rfl⟩
      · cases l4
    obtain ⟨dx, dy, dz, du, rfl, hx, hy, hz, hu⟩ : ∃ dx dy dz du, ds = [dx, dy, dz, du] ∧ Dn _ H x dx ∧ Dn _ H y dy ∧ Dn _ H z dz ∧ Dn _ H u du := by
      cases ha with
      | cons h1 r1 =>
        cases r1 with
        | cons h2 r2 =>
          cases r2 with
          | cons h3 r3 =>
            cases r3 with
            | cons h4 r4 =>
              cases r4
              exact ⟨_, _, _, _, rfl, h1, h2, h3, h4⟩
    refine ⟨_, _, rfl, _, _, rfl, _, _, rfl, _, _, rfl, rfl, ?_⟩
    refine ⟨_, rfl, x, dx, rfl, hx, fun G1 s1 => ⟨_, rfl, ?_⟩⟩
    cases h1 : isDeeds dx with
    | false => exact iteT (iteT (no (isTest_4 (by rw [h1]; rfl)) _ s1))
    | true =>
    refine iteF ⟨_, rfl, u, du, rfl, hu.le s1, _, rfl, ?_⟩
    cases h2 : isT "bool" du with
    | false => exact iteT (no (isTest_4 (by rw [h1, h2]; rfl)) _ s1)
    | true =>
    obtain ⟨tt, rfl⟩ := isT_bool h2
    refine iteF ⟨_, rfl, y, dy, rfl, hy.le s1, _, rfl, ?_⟩
    cases hstr : isT "str" dy with
    | false => exact iteF (no (isTest_word hstr) _ s1)
    | true =>
    obtain ⟨sz, rfl⟩ := isT_str hstr
    cases hy
    refine iteT ?_
    cases hl : leastT sz with
    | none =>
      have e : isTest (.tuple [dx, .str sz, dz, .bool tt]) = false := by simp [isTest, hl]
      exact ⟨_, rfl, sz, none, rfl, rfl, TD.not sz (leastT_no hl), _, rfl, iteF (no e _ s1)⟩
    | some lo =>
      have e : isTest (.tuple [dx, .str sz, dz, .bool tt]) = isWh lo none dz := by simp [isTest, hl, h1]
      have q' := q _ s1
      rw [e] at q'
      obtain ⟨uu, n1, n2⟩ := TD.has _ (leastT_in hl)
      refine ⟨_, rfl, sz, some uu, rfl, rfl, n1, _, rfl, iteT ?_⟩
      exact ⟨_, rfl, _, rfl, dD, sz, oV lo, rfl, rfl, ⟨es, nn, uu, kd.at_, kd.lit, n1, n2⟩, z, dz, lo, none, rfl, hz.le s1, q'⟩
  · have e4 : decide (V.int (vs.length : Int) = V.int 4) = false := decide_eq_false (fun z => l4 (by have := V.int.inj z; omega))
    rw [e4]
    exact iteT (no (isTest_len (by omega)) _ (Same.refl _))
end
end K18
/-! Own errors of any family (LookupError's, too): their first field is kept, they are made and raised. -/
namespace PySem.HandSPX
open PySem PySem.Spec PyProof.Rows
open Builtin Builtin.ObjectAttr
section
variable {prog : Program} {w : World} {A : Around} {hp : Heap} {g : Array GenState} {d : Drawn} {t : Nat} {os : OsState} {R : Result → Shared → Prop}
/-- the first field of an exception that is being made, whatever its family -/
theorem gr_osa {K : W.Frag} {f : Str} {ft : Tok} {v : Value} {e C : Addr} {vs : Array Value} {cd : ClassData} (X : K.In hp) (he : hp.get? e = some { cls := .ref C, data := .fields vs }) (hc : W.clsIn K C = some cd)
    (some_ : cd.mro.isEmpty = false) (ob : cd.mro.contains (.type "object") = true) (free : refuseLoop (.ref e) "__setattr__" cd.mro = pure ()) (dict_ : cd.hasDict = true) (no : W.findIn K (.ref C) f = some none)
    (q : ∀ G t2 x, (∀ b o, b ≠ e → hp.get? b = some o → G.get? b = some o) → hp.objs.size ≤ x → x ≠ e → G.get? e = some { cls := .ref C, dict := some x, data := .fields vs } →
      G.Ns1 x (fun y => if y = f then some v else none) → R (.ok (.ret .none)) ⟨G, g, d, t2, os⟩) :
    codeAny (model prog w) A (.call (.builtin "object.__setattr__") ⟨[.ref e, .str f ft, v], []⟩) R ⟨hp, g, d, t, os⟩ := by
  have J : W.InstAt hp e { cls := .ref C, data := .fields vs } C none := ⟨he, rfl, rfl, trivial⟩
  have S := F.store_object
  have ne : e ≠ hp.objs.size := Nat.ne_of_lt (Heap.lt_size he)
  have is : W.Looks (model prog w) hp (isInstance (.ref e) (.type "object")) true := by
    refine J.type.andThen (W.looks_mroIn X ?_)
    unfold W.mroIn
    rw [hc, Option.bind_some, if_neg (by rw [some_]; decide), ob]
  refine codeAny_call_builtin S.slot.plain S.entry (@W.check_slot (model prog w) _ _ ⟨hp, g, d, t, os⟩ "object.__setattr__" "object" "__setattr__" (.ref e) [.str f ft, v] [] _ S.kind S.split is (S.args _ _ _) ?_)
  have along : W.Looks (model prog w) hp (mroOf (.ref C)) cd.mro := W.Looks.andThen (W.looks_clsIn X hc) .now
  have told : W.Looks (model prog w) hp (classData C) cd := W.looks_clsIn X hc
  have none_ : W.Looks (model prog w) hp (storeTaker? none) none := W.Looks.now
  rw [W.osa_eq, refuse_eq]
  refine wpAny_bind (wpAny_bind ?_)
  refine J.type.at (wpAny_bind (along.at ?_))
  rw [free]
  refine wpAny_pure (wpAny_bind ?_)
  refine J.type.at (wpAny_bind ?_)
  refine (W.looks_findIn X no).at (wpAny_bind ?_)
  refine none_.at ?_
  show wpAny _ _ (storeInOwnDict (.ref e) (.ref C) (.str f ft) f v false) _ _ _
  obtain ⟨c1, c2, c3, c4, c5, has, c7, c8, c9, c10, c11⟩ := cd
  dsimp only at dict_
  subst dict_
  unfold storeInOwnDict
  unfold ownDictForStores
  repeat (first | (with_reducible refine store_in_new ?_ ?_) | (with_reducible refine wpAny_loadPart_at he ?_) | (with_reducible refine told.at ?_) | wp_step)
  · exact ⟨_, #[], _, Eq.trans (Heap.get?_update_ne _ _ _ _ (Ne.symm ne)) (Heap.get?_push_at rfl rfl), rfl,
      fun z hz => absurd hz (by simp), fun _ => rfl⟩
  · intro G t2 ns same
    have he1 : (hp.push { cls := .type "dict", data := .dict #[] }).get? e = some { cls := .ref C, data := .fields vs } := by
      exact Heap.get?_push_of_some _ he
    refine q G t2 hp.objs.size (fun b o nb ob => ?_) (Nat.le_refl _) (Ne.symm ne) ?_ ns
    · rw [same.2 b (Nat.ne_of_lt (Heap.lt_size ob)), Heap.get?_update_ne _ _ _ _ nb]
      exact Heap.get?_push_of_some _ ob
    · rw [same.2 e ne]
      exact Heap.get?_update_self _ he1 rfl
end
end PySem.HandSPX
namespace L2
open PySem PySem.Spec PyProof.Rows
/-- what is told of an own error class over the built-in one whose line is bmB -/
structure OexF (K : PySem.W.Frag) (bmB : List Value) (newId : String) (C : Addr) : Prop where
  cls : ∃ nm qn N bs bm sn sub ab col dd k0 k1 k2 k3 k5, K.lookup C = some (excClassObj nm qn C N bs bm true sn sub ab col dd k0 k1 k2 k3 k5 newId) ∧ PySem.W.excTail bmB bm = true
  free : ∀ e : Addr, refuseLoop (.ref e) "__setattr__" bmB = pure ()
  obj : bmB.contains (.type "object") = true
  sa : PySem.W.findIn K (.ref C) "__setattr__" = some (some (.builtin "object.__setattr__"))
  exC : PySem.W.subIn K (.ref C) (.type "BaseException") = some true
  tyC : PySem.W.typeIn K (.ref C) = some (.type "type")
  kC : PySem.W.keepIn K (.ref C) = true
section
variable {X : Cx} {pins : List (Addr × Obj)} {σ : St} {H : Hp} {s : Shared} {bmB : List Value} {newId : String} {C a : Addr} {f : Str} {y : V} {u : Value}
theorem gr_ost (T : OexF X.K bmB newId C) (I : Inv X pins σ H s) (e : H a = some (exo a C none)) (no : PySem.W.findIn X.K (.ref C) f = some none) (ry : RelV y u) {A : Around} {E : Value → Shared → Prop} {Q : Unit → Shared → Prop}
    (h : ∀ x s', H x = none → x ≠ a → Inv X pins σ (upd (upd H x (exd x [(f, y)])) a (exo a C (some x))) s' → Q () s') : wpAny (model X.prog X.w) A (setAttr (.ref a) f u) Q E s := by
  obtain ⟨nm, qn, N, bs, bm, sn, sub, ab, col, dd, k0, k1, k2, k3, k5, look, tail⟩ := T.cls
  have cl : PySem.W.clsIn X.K C = some { name := nm, bases := bs, mro := .ref C :: bm, ns := N, qualname := qn, hasDict := true, slotNames := sn, subclasses := sub, abstract := ab, collection := col, hasDel := false } := by
    unfold PySem.W.clsIn
    rw [look]
    all_goals rfl
  have tl : PySem.W.excTail bmB (.ref C :: bm) = true := tail
  obtain ⟨t1, there⟩ := exo_at I.hok e
  obtain ⟨hp, g, dr, tk, os⟩ := s
  refine PySem.W.set_plain I.kIn (ox := ({ cls := .ref C, dict := none, data := .fields #[.ref t1, .none, .none, .none, .bool false, .none] } : Obj)) (od := none) ⟨there, rfl, rfl, trivial⟩ T.sa ?_
  refine PySem.HandSPX.gr_osa I.kIn there cl rfl ?_ (PySem.W.excTail_pass (.ref a) (T.free a) _ tl) rfl no (fun G t2 x keep above ne at_ ns => ?_)
  · exact (PySem.W.excTail_contains "object" _ tl).trans T.obj
  have hx0 : H x = none := I.hok.fresh above
  have apart : ∀ {b : Addr} {o : Obj}, hp.get? b = some o → b ≠ x := fun {b o} z => Nat.ne_of_lt (Nat.lt_of_lt_of_le (Heap.lt_size z) above)
  have not_a : ∀ {b : Addr}, H b = none → b ≠ a := fun {b} n z => by rw [z, e] at n; cases n
  have un : Un X.fs [] H (upd (upd H x (exd x [(f, y)])) a (exo a C (some x))) hp G := {
    keep := fun b o z n _ _ => keep b o (not_a n) z
    slot := fun b o z n _ _ => ⟨o.slots, keep b o (not_a n) z⟩
    free := fun b o z n _ => by
      rw [upd_ne (not_a n), upd_ne (apart z)]
      exact n
    there := fun b o z _ => by
      by_cases ba : b = a
      · exact ⟨_, by rw [ba]; exact at_⟩
      · exact ⟨o, keep b o ba z⟩
    tups := fun b xs z => by
      rw [upd_ne (at_ne e z exo_tup), upd_ne (ne_of_none z hx0)]
      exact z
    frzs := fun b o v z => by
      rw [upd_ne (at_ne e z exo_frz), upd_ne (ne_of_none z hx0)]
      exact z
    tbls := fun b ps z => ⟨#[], by
      rw [upd_ne (at_ne e z exo_tbl), upd_ne (ne_of_none z hx0), z]
      simp⟩ }
  refine h x _ hx0 ne (I.un (t' := t2) un fun b o z => ?_)
  by_cases ba : b = a
  · subst ba
    rw [upd_same] at z
    cases z
    exact exo_ok at_
  rw [upd_ne ba] at z
  by_cases bx : b = x
  · subst bx
    rw [upd_same] at z
    cases z
    exact exd_ok ns (relO_put (fs := []) ry fun _ => True.intro)
  rw [upd_ne bx] at z
  refine (I.hok b o z).stay (fun c v hc w => keep c v ?_ w) (fun c hc => ?_) (fun c xs hc => ?_)
  · rcases hc with hc | hc
    · rw [hc]
      exact ba
    · exact at_ne e hc exo_own
  · rw [upd_ne (at_ne e hc exo_own), upd_ne (ne_of_none hc hx0)]
    exact hc
  · rw [upd_ne (at_ne e hc exo_tup), upd_ne (ne_of_none hc hx0)]
    exact hc
/-- self.f = e, the first field of an error of a family -/
def tOsF (K : PySem.W.Frag) (bmB : List Value) (newId : String) (f : Str) (to te : TE) : TS := fun D σ H => te σ H fun y H1 => to σ H1 fun x H2 => ∃ b C : Addr, x = .ref b ∧ OexF K bmB newId C ∧ PySem.W.findIn K (.ref C) f = some none ∧
  H2 b = some (exo b C none) ∧ ∀ x, H2 x = none → x ≠ b → D.nx σ (upd (upd H2 x (exd x [(f, y)])) b (exo b C (some x)))
theorem ps_osF {o e : Expr} {to te : TE} {p' pos : Pos} (ho : PE X o to) (he : PE X e te) (hs : swapsWith e (some (.Attribute o f p')) pos.line X.env = pure false := by rfl) : PS X (.Assign [.Attribute o f p'] e pos) (tOsF X.K bmB newId f to te) := by
  constructor
  intro pl sh σ H D I h
  refine plainObj_wpAny_Assign_Attribute ?_ hs
  refine thn (he.run pl sh σ H _ I h) fun v s1 k1 => ?_
  obtain ⟨y, H1, I1, r1, q1⟩ := k1
  refine thn (ho.run pl s1 σ H1 _ I1 q1) fun w s2 k2 => ?_
  obtain ⟨x, H2, I2, r2, b, C, rfl, T, no, at_, q⟩ := k2
  obtain rfl : w = Value.ref b := r2
  exact gr_ost T I2 at_ no r1 fun x s' n ne J => ⟨σ, _, J, q x n ne⟩
end
end L2
/-! An error of any family with a field, made and raised, its context told; what the head tells of LookupError's. -/
namespace L2N
open PySem PySem.Spec PyProof.Rows L2
theorem gr_mkF {X : Cx} {CX : CXT} {x : Str} {C fI : Addr} {k : Nat} {fd : FuncData} {ps : List Str} {sp : Sp} {e : Expr} {es : List Expr} {ta : TA} {p pos : Pos} {bmB : List Value} {B newId initId : String} (FB : ExcBaseFacts B newId initId bmB) (T : OexF X.K bmB newId C)
    (iC : PySem.W.findIn X.K (.ref C) "__init__" = some (some (.ref fI)))
    (tI : PySem.W.typeIn X.K (.ref fI) = some (.type "function")) (F1 : FnOk X.prog X.w X.K X.mg X.base CX k fI fd ps sp) (hr : Room (k + 1) X.A) (hb : Binds X.K fd ps []) (px : Passes CX X (fun _ _ _ => False)) (gl : Gl X x) (at_ : X.mg x = some (.ref C)) (ha : PA X (e :: es) ta)
    (nd : (x == ("__debug__" : Str)) = false := by decide) (he : starEach (e :: es) X.env = (false, eval e X.env) :: starEach es X.env := by rfl) (hpl : (backTo pos (starEach es X.env)).any (·.1) = false := by rfl) :
    PMk X (.Call (.Name x p) (e :: es) [] pos) (tMkO C sp [] ta) := by
  intro pl sh σ H Q I h
  obtain ⟨_, _, _, _, bm, _, _, _, _, _, _, _, _, _, _, hC, tail⟩ := T.cls
  refine wpAny_Call_Name_kw (ld_glob I gl at_ ?_ nd)
  refine PySem.W.callWith_K (h₀ := X.base) I.ok.mod.kin T.kC (thn (ha.run pos pl sh σ H _ I h) ?_) he hpl
  rintro us s1 ⟨vs, G, J, rv, few, q⟩
  refine ⟨J.kIn, ?_⟩
  show wpAny _ _ (call (.ref C) us) _ _ _
  obtain ⟨hp, gs, dr, tk, os⟩ := s1
  generalize ea : hp.objs.size + 1 = a
  have lo : hp.objs.size ≤ a := by omega
  have free : G a = none := J.hok.fresh lo
  have q1 := q a free
  rw [List.append_nil] at q1
  generalize eh : (hp.push (PySem.W.kdv_tup us)).push (PySem.HandSPX.excO C hp.objs.size) = hp2
  have keep : ∀ b o, hp.get? b = some o → hp2.get? b = some o := by
    intro b o e
    rw [← eh]
    exact Heap.get?_push_of_some _ (Heap.get?_push_of_some _ e)
  have got : hp2.get? a = some (PySem.HandSPX.excO C hp.objs.size) := by
    rw [← eh, ← ea]
    heap_get
  have J2 : Inv X pl σ (upd G a (exo a C none)) ⟨hp2, gs, dr, tk, os⟩ := J.laid (t' := tk) (a := a) (o := exo a C none) (h' := hp2) keep lo (exo_ok got)
  have r2 : Vals (V.ref a :: vs) (Value.ref a :: us) := .cons rfl rv
  have len : (Value.ref a :: us ++ []).length = ps.length := by
    rw [List.append_nil, ← r2.length]
    exact F1.len _ _ _ _ q1
  have b2 := hb ⟨hp2, gs, dr, tk, os⟩ (Value.ref a :: us) J2.kIn len
  rw [List.append_nil] at b2
  have small : us.length ≤ sizeLine := by
    rw [← rv.length, sizeLine_eq]
    omega
  have fin : codeAny (model X.prog X.w) (X.A.under (.builtin "type.__call__" ⟨.ref C :: us, []⟩)) (.call (.ref fI) ⟨Value.ref a :: us, []⟩) _ ⟨hp2, gs, dr, tk, os⟩ :=
    F1.run (X.A.under (.builtin "type.__call__" ⟨.ref C :: us, []⟩)) X.stack ⟨hp2, gs, dr, tk, os⟩ _ ⟨Value.ref a :: us, []⟩ (Value.ref a :: us) _ _ (fun _ _ _ => False) (hr.make C us []) (J2.env0.make C us []) b2 r2 q1
  subst ea eh
  refine wpAny_call (PySem.HandSPX.call_own FB (fun Y => PySem.W.excTail_contains Y bm tail) (J.kIn _ _ hC) (PySem.W.looks_findIn J.kIn iC) (fun self => PySem.W.bind_fn J.kIn self tI) small (codeAny_mono fin ?_))
  intro r s' z
  match r, z with
  | .error er, z => exact px pl σ _ _ er s' J2 z
  | .ok .next, z => exact z.elim
  | .ok .brk, z => exact z.elim
  | .ok .cont, z => exact z.elim
  | .ok (.ret u), ⟨v, G2, eos, bare2, un2, hok2, rv2, ev, d, fs, e1, e2, e3, q2⟩ =>
    subst ev
    obtain ⟨h2, g2, d2, t2, os'⟩ := s'
    refine ⟨rv2, ?_⟩
    obtain ⟨t0, Z, J3, kZ, gone, here, free3⟩ := mk_end0 (d2 := d2) (t2 := t2) J lo keep un2 hok2 eos bare2 e1 e2 e3
    exact ⟨_, _, _, ⟨Z, g2, d2, t2, os'⟩, _, .ref C, some d, rfl, J3, kZ, gone, here, ⟨rfl, rfl, fun vs e => by cases e; rfl⟩, rfl, rfl, free3, rfl, bare2, raises_own T.exC T.tyC, q2⟩
end L2N
namespace Gr
open PySem PySem.Spec PyProof.Rows L2
def leBase : List Value := [.type "LookupError", .type "Exception", .type "BaseException", .type "object"]
abbrev OexL (K : PySem.W.Frag) (C : Addr) : Prop := OexF K leBase "LookupError.__new__" C
theorem le_free (e : Addr) : refuseLoop (.ref e) "__setattr__" leBase = pure () := by
  kernel_rfl
theorem le_facts : ExcBaseFacts "LookupError" "LookupError.__new__" "LookupError.__init__" leBase := F.excBase_LookupError
/-- the class's line, behind itself, ends as the built-in one's does -/
def lineF (bmB : List Value) (K : PySem.W.Frag) (C : Addr) : Bool := match K.lookup C with
  | some ⟨_, _, .cls cd, _⟩ => (match cd.mro with
    | _ :: bm => PySem.W.excTail bmB bm
    | [] => false)
  | _ => false
def oexLB (K : PySem.W.Frag) (C : Addr) : Bool := PySem.W.excInitIn K C leBase "LookupError.__new__" && (PySem.W.hasDictIn K C && (lineF leBase K C && (He.eqO (PySem.W.findIn K (.ref C) "__setattr__") (some (some (.builtin "object.__setattr__"))) &&
  (decide (PySem.W.subIn K (.ref C) (.type "BaseException") = some true) && (decide (PySem.W.typeIn K (.ref C) = some (.type "type")) && PySem.W.keepIn K (.ref C))))))
theorem oexLB_ok {K : PySem.W.Frag} {h : Heap} {C : Addr} (X : K.In h) (c : oexLB K C = true) : OexL K C := by
  obtain ⟨c1, c⟩ := He.ba c
  obtain ⟨c2, c⟩ := He.ba c
  obtain ⟨c3, c⟩ := He.ba c
  obtain ⟨c4, c⟩ := He.ba c
  obtain ⟨c5, c⟩ := He.ba c
  obtain ⟨c6, c7⟩ := He.ba c
  obtain ⟨nm, N, qn, bs, bm, hdct, sn, sub, ab, col, dd, k0, k1, k2, k3, k5, at_, _⟩ := PySem.W.excInit_of X c1
  have there : ∃ o, K.lookup C = some o := by
    unfold PySem.W.excInitIn at c1
    cases e : K.lookup C with
    | none => rw [e] at c1; cases c1
    | some o => exact ⟨o, rfl⟩
  obtain ⟨o, e⟩ := there
  have eo := X C o e
  rw [at_] at eo
  obtain rfl := Option.some.inj eo
  have hd : hdct = true := by
    unfold PySem.W.hasDictIn PySem.W.clsIn at c2
    rw [e] at c2
    exact c2
  subst hd
  have line : PySem.W.excTail leBase bm = true := by
    unfold lineF at c3
    rw [e] at c3
    exact c3
  exact ⟨⟨nm, qn, N, bs, bm, sn, sub, ab, col, dd, k0, k1, k2, k3, k5, e, line⟩, le_free, by decide +kernel, He.eqO_ok c4, of_decide_eq_true c5, of_decide_eq_true c6, c7⟩
end Gr
namespace L2N
open PySem PySem.Spec PyProof.Rows L2 NdefX
/-- statements run in a def's own activation -/
structure PSsA (X : Cx) (body ss : List Stmt) (t : TS) : Prop where
  run : ∀ (pins : List (Addr × Obj)) (s : Shared) (σ : L2.St) (H : Hp) (D : Ends), Inv X pins σ H s → t D σ H → _root_.PySem.wpAt (model X.prog X.w) X.A (.func body X.env) (execs ss X.env) (SP X pins D) X.xe s
section
variable {X : Cx} {body : List Stmt} {st : Stmt} {rest ss : List Stmt} {t u : TS}
theorem psa_of (h : PSs X ss t) : PSsA X body ss t := ⟨fun pins s σ H D I q => wpAt_of_wpAny (h.run pins s σ H D I q)⟩
theorem psa_cons (h1 : PS X st t) (h2 : PSsA X body rest u) : PSsA X body (st :: rest) (tSeq t u) := by
  refine ⟨fun pins s σ H D I h => ?_⟩
  refine PySem.ks_wpAt_execs_cons (wpAt_of_wpAny (thn (h1.run pins s σ H { D with nx := u D } I h) fun f s1 q => ?_))
  cases f with
  | next =>
    obtain ⟨σ', H', I', q⟩ := q
    exact h2.run pins s1 σ' H' D I' q
  | ret v => exact q
  | brk => exact q
  | cont => exact q
end
/-- what the text must tell of «super().__init__()» in a def of the class D, at an instance of C -/
structure Sup (P : Program) (K : PySem.W.Frag) (cc cda C D f2 : Addr) : Prop where
  cell : ∃ (cl : Value) (cld : Option Addr) (csl : Array (Option Value)), K.lookup cc = some ⟨cl, cld, .cell (some (.ref D)), csl⟩
  code : ∃ (ccl : Value) (cdd : Option Addr) (vs : Array Value) (ccs : Array (Option Value)) (file : Str) (tf : Tok), K.lookup cda = some ⟨ccl, cdd, .fields vs, ccs⟩ ∧ vs[2]? = some (.str file tf) ∧ ((P.main.file : Str) == file) = true
  cls : ∃ cd, PySem.W.clsIn K D = some cd
  own : ∃ cd, PySem.W.clsIn K C = some cd
  sub : PySem.W.mroIn K C (.ref D) = some true
  opq : PySem.W.nsIn K cStatics "thirdparty.any" = some none
  find : PySem.W.ks_superIn K C D "__init__" = some (some (.ref f2))
  typ : PySem.W.typeIn K (.ref f2) = some (.type "function")
  fn : PySem.W.fnIn K f2 = true
  top : (P.main.scope.names.lookup ("super" : Str)).isSome = false
/-- super().__init__(): the instance is the first parameter's -/
def tSup (i : Nat) (C : Addr) (sp : Sp) (E : XK) : TS := fun D σ H => ∃ x dx fs, σ[i]? = some (some (.ref x)) ∧ H x = some (.ins C dx fs) ∧ sp [.ref x] H (fun _ H1 => D.nx σ H1) E
section
variable {X : Cx} {CX : CXT} {body : List Stmt} {rest : List Stmt} {t : TS} {k i : Nat} {f cc cda C D f2 : Addr} {F : NF} {fd2 : FuncData} {ps2 : List Str} {sp : Sp} {E : XK} {p0 p1 ap p pe : Pos} {x1 : Str} {oc : Value} {od : Option Addr} {osl : Array (Option Value)} {fd : FuncData} {ar : Arg} {pl : Sem Bool}
theorem psa_super (U : Sup X.prog X.K cc cda C D f2) (G : FnOk X.prog X.w X.K X.mg X.base CX k f2 fd2 ps2 sp) (hb : Binds X.K fd2 ps2 []) (hr : Room k X.A) (hx : Passes CX X E)
    (hf : X.K.lookup f = some ⟨oc, od, .func fd, osl⟩) (hfu : X.env.func = some f) (hco : X.env.code = .ref cda) (hce : X.env.cells.lookup ("__class__" : Str) = some cc)
    (hp : (fd.params.posonlyargs ++ fd.params.args).head? = some ar) (hN : X.N[i]? = some ar.arg)
    (hks : X.env.scope.names.lookup ("super" : Str) = some .globalImplicit) (hkc : X.env.scope.names.lookup ("__class__" : Str) = some .free) (hka : X.env.scope.names.lookup ar.arg = some .local) (hm : X.mg "super" = none)
    (h2 : PSsA X body rest t)
    (hs : swapsWith (.Call (.Attribute (.Call (.Name "super" p0) [] [] p1) "__init__" ap) [] [] p) none pe.line X.env = pure false := by rfl)
    (he : eval (.Call (.Attribute (.Call (.Name "super" p0) [] [] p1) "__init__" ap) [] [] p) X.env = (do
      let ov ← attributeBase (.Call (.Name "super" p0) [] [] p1) "__init__" X.env (eval (.Call (.Name "super" p0) [] [] p1) X.env)
      standAt ap.atName
      let (f, first) ← holding [ov] (getMethod ov "__init__" pl)
      callWith p f first (backTo p (starEach [] X.env)) []) := by rfl) :
    PSsA X body (.Expr (.Call (.Attribute (.Call (.Name "super" p0) [] [] p1) "__init__" ap) [] [] p) pe :: rest) (tSeq (tSup i C sp E) t) := by
  refine ⟨fun pins s σ H Dn I h => ?_⟩
  obtain ⟨x, dx, fs, hσ, hx1, hsp⟩ := h
  obtain ⟨cl, cld, csl, kc⟩ := U.cell
  obtain ⟨ccl, cdd, vs, ccs, file, tf, kcode, hvs, hfile⟩ := U.code
  obtain ⟨cdD, hD⟩ := U.cls
  obtain ⟨cdC, hC⟩ := U.own
  have KX := I.kIn
  obtain ⟨mA, O, _, _, _, _⟩ := ins_get I.hok hx1
  have ox1 := O.obj
  obtain ⟨m, hns, hv⟩ := I.loc
  obtain ⟨u, ru, lu⟩ := hv i ar.arg (.ref x) hN hσ (.inl hka)
  have mu : m ar.arg = some (.ref x) := by
    obtain rfl : u = Value.ref x := ru
    rcases lu with ⟨_, z⟩ | ⟨z, _⟩
    · exact z
    · rcases z with z | z <;> exact absurd (hka.symm.trans z) (by decide)
  obtain ⟨oD, hD1, hD2⟩ : ∃ oD, s.heap.get? D = some oD ∧ oD.data = .cls cdD := by
    unfold PySem.W.clsIn at hD
    split at hD
    · rename_i c d cd' sl ho
      cases hD
      exact ⟨_, KX _ _ ho, rfl⟩
    · cases hD
  have neC : x ≠ C := by
    rintro rfl
    unfold PySem.W.clsIn at hC
    split at hC
    · rename_i c d cd' sl ho
      have e := KX _ _ ho
      rw [ox1] at e
      cases e
    · cases hC
  obtain ⟨mb, hb1, hb2⟩ := I.mod.blt
  have fnd : PySem.W.alongIn X.K "__init__" ((cdC.mro.dropWhile (· != .ref D)).drop 1) = some (some (.ref f2)) := by
    have z := U.find
    unfold PySem.W.ks_superIn at z
    rw [hC] at z
    exact z
  obtain ⟨of, hof, hofc⟩ : ∃ of, s.heap.get? f2 = some of ∧ of.cls = .type "function" := by
    have ht' : (X.K.lookup f2).map (·.cls) = some (.type "function") := U.typ
    cases z : X.K.lookup f2 with
    | none => rw [z] at ht'; cases ht'
    | some of => rw [z] at ht'; exact ⟨of, KX _ _ z, Option.some.inj ht'⟩
  refine PySem.ks_wpAt_execs_cons ?_
  refine PySem.ks_wpAt_Expr_any ?_ I.quiet hs
  refine PySem.ks_wpAt_MethodCall (pl := pl) ?_ he
  refine PySem.ks_wpAt_super_base (env := X.env) hks hkc (by decide) hfu (KX _ _ hf) rfl hp hco (KX _ _ kcode) rfl hvs hfile U.top ?_
  refine PySem.W.ks_loadName_global I.ok.kind hks (Calls.loadGlobal_builtin (by rw [I.ok.glob]; exact I.mod.glob.keeps I.bk) hm (by rw [I.ok.blt]; exact hb1.keeps I.bk) ((hb2 "super" (by decide)).trans (by first | rfl | kernel_rfl)) ⟨rfl, ?_⟩)
  refine wpAny_loadName_free I.ok.kind hkc hce ⟨_, KX _ _ kc, rfl⟩ ?_
  refine wpAny_loadName_local I.ok.kind hka hns mu ?_
  refine PySem.ks_wpAny_isType_cls hD1 hD2 ⟨rfl, ?_⟩
  obtain ⟨hh, g, d, tk, os⟩ := s
  refine PySem.ks_wpAny_call_super hD1 hD2 ox1 rfl (fun c z => by cases z) (PySem.W.looks_mroIn KX U.sub) (fun h' e kp => ?_)
  have K1 : X.K.In h' := KX.keeps kp
  refine PySem.ks_wpAny_getMethod_super e (PySem.W.looks_opaque K1 U.opq) (l₀ := cdC.mro) (fun A Q E s k q => wpAny_bind ((PySem.W.looks_clsIn K1 hC) A _ E s k (wpAny_pure q))) rfl K1 fnd (kp _ _ hof) hofc neC (by decide) ?_
  have kp2 : ∀ b o, hh.get? b = some o → (h'.push { cls := .type "method", data := .fields #[.ref f2, .ref x] }).get? b = some o := fun b o z => Heap.get?_push_of_some _ (kp b o z)
  have I2 : Inv X pins σ H ⟨h'.push { cls := .type "method", data := .fields #[.ref f2, .ref x] }, g, d, tk + 1, os⟩ := I.kept (t' := tk + 1) kp2
  have hb' : (h'.push { cls := .type "method", data := .fields #[.ref f2, .ref x] }).get? h'.objs.size = some (PySem.W.methodObj (.ref f2) (.ref x)) := Heap.get?_push_at rfl rfl
  refine PySem.W.callWith_M0 ⟨hb', I2.kIn⟩ U.fn (wpAny_call (PySem.ks_codeAny_call_bound hb' ?_))
  have hl : ([Value.ref x] ++ []).length = ps2.length := G.len _ _ _ _ hsp
  refine codeAny_mono (G.run X.A X.stack _ H ⟨[.ref x], []⟩ [.ref x] [.ref x] _ E hr I2.env0 (hb _ [.ref x] I2.kIn hl) (.cons rfl .nil) hsp) fun r s' hq => ?_
  cases r with
  | error e => exact hx pins σ H _ e s' I2 hq
  | ok fl =>
    cases fl with
    | ret u =>
      obtain ⟨v, H', I3, rv, q⟩ := I2.after hq
      exact h2.run pins s' σ H' Dn I3 q
    | next => exact False.elim hq
    | brk => exact False.elim hq
    | cont => exact False.elim hq
end

/-- the words of a def of a class whose body says super() -/
abbrev nfS (name qual : Str) (params : Arguments) (body : List Stmt) (scope : Scope) (cc cda : Addr) : NF := ⟨name, qual, params, body, scope, [("__class__", cc)], cda⟩
section
variable {CX : CXT} {P : Program} {w : World} {K : PySem.W.Frag} {mg : Str → Option Value} {base : Heap} {k : Nat} {f cc cda : Addr} {name qual : Str} {params : Arguments} {body : List Stmt} {scope : Scope} {dV kV doc pm ct oc : Value} {an od : Option Addr}
    {osl : Array (Option Value)} {N ps : List Str} {sp : Sp}
theorem look1 {y : Str} {c : Addr} (h : ([(("__class__" : Str), cc)] : List (Str × Addr)).lookup y = some c) : y = ("__class__" : Str) ∧ c = cc := by
  unfold List.lookup at h
  split at h
  · rename_i q
    exact ⟨eq_of_beq q, (Option.some.inj h).symm⟩
  · cases h
/-- THE RULE: a method whose body says super(), by its body -/
theorem fn_ofS (lk : K.lookup f = some ⟨oc, od, .func (PySem.W.fnX name qual params body scope [("__class__", cc)] dV kV doc pm an (.ref cda) ct), osl⟩) (hcd : PySem.W.codeIn K (.ref cda) qual = true)
    (kc : ∃ (cl : Value) (cld : Option Addr) (v : Option Value) (csl : Array (Option Value)), K.lookup cc = some ⟨cl, cld, .cell v, csl⟩) (S : NScope N ps ["__class__"] scope)
    (len : ∀ vs H Q E, sp vs H Q E → vs.length = ps.length)
    (hbody : ∀ (A : Around) (outer : List Env) (s : Shared) (H : Hp) (vs : List V) (Q : VK) (E : XK), Room k (A.deeper (envF (nfS name qual params body scope cc cda) f s.heap.objs.size)) → sp vs H Q E →
      ∃ t, PSsA (ncx CX P w K mg base N (nfS name qual params body scope cc cda) f A outer s H E) body body t ∧ t { nx := fun _ H' => Q .non H', rt := Q } (startF N vs [none]) H) :
    FnOk P w K mg base CX (k + 1) f (PySem.W.fnX name qual params body scope [("__class__", cc)] dV kV doc pm an (.ref cda) ct) ps sp := by
  refine ⟨len, fun A outer s H args us vs Q E hr e0 hb r hsp => ?_⟩
  have hl := len _ _ _ _ hsp
  have KX : K.In s.heap := e0.mod.kin.keeps fun b o e => (e0.bs b o e).1
  have lim : s.heap.NoLimit := e0.mod.nolimit.keeps fun b o e => (e0.bs b o e).1
  obtain ⟨cl, cld, cv, csl, hc⟩ := kc
  have C : CellsAt (nfS name qual params body scope cc cda).cl ["__class__"] [none] s.heap H := by
    refine ⟨rfl, fun y c e => ?_, fun x y c e1 e2 => ?_, fun i y e => ?_⟩
    · obtain ⟨_, rfl⟩ := look1 e
      exact ⟨(e0.bs _ _ (e0.mod.kin _ _ hc)).2, cv, _, KX _ _ hc, rfl⟩
    · rw [(look1 e1).1, (look1 e2).1]
    · cases i with
      | zero =>
        cases e
        refine ⟨cc, rfl, fun v z => ?_⟩
        cases z
      | succ i => cases e
  refine PySem.ks_codeAny_call_defAt (fd := PySem.W.fnX name qual params body scope [("__class__", cc)] dV kV doc pm an (.ref cda) ct) (body := body) hr.depth (KX _ _ lk) rfl lim (PySem.W.codeRec_of KX hcd) rfl hb S.nocell (fun ⟨n, _⟩ hy => S.par n (List.of_mem_zip hy).1) (fun h₁ hns kp => ?_) S.co S.gen S.kind
  obtain ⟨t, ht, hq⟩ := hbody A outer s H vs Q E (hr.deeper _) hsp
  have I : Inv (ncx CX P w K mg base N (nfS name qual params body scope cc cda) f A outer s H E) [] (startF N vs [none]) H { s with heap := h₁, toks := s.toks + (ps.zip us).length } := inv_startN S hr.hd e0 hl r C hns kp
  refine PySem.ks_wpAt_mono (ht.run [] _ (startF N vs [none]) H _ I hq) (fun fl s' hs => ?_) fun e s' hs => hs
  have fin : ∀ {σ' : L2.St} {H' : Hp} {v : V} {u : Value}, Inv (ncx CX P w K mg base N (nfS name qual params body scope cc cda) f A outer s H E) [] σ' H' s' → L2.RelV v u → Q v H' → CE outer P w H s Q u s' :=
    fun {σ' H' v u} J rv q => ⟨v, H', J.os, J.bare, J.base, J.hok, rv, q⟩
  cases fl with
  | ret u =>
    obtain ⟨v, σ', H', J, rv, q⟩ := hs
    exact fin J rv q
  | next =>
    obtain ⟨σ', H', J, q⟩ := hs
    exact fin (v := V.non) (u := Value.none) J rfl q
  | brk =>
    obtain ⟨_, _, _, q⟩ := hs
    exact False.elim q
  | cont =>
    obtain ⟨_, _, _, q⟩ := hs
    exact False.elim q
end
end L2N
namespace Gr
open PySem PySem.Spec PyProof.Rows L2
/-! ### binding -/
section
variable {K : PySem.W.Frag} {x qual : Str} {params : Arguments} {body : List Stmt} {scope : Scope} {kws : List (Str × V)} {f : Addr} {fd : FuncData} {ps : List Str} {st : Stmt}
theorem fun_of (F : FunD K x qual (defArgs st) (defBody st) (defScope st) [] kws f fd) : Fun K x qual st f fd := by
  obtain ⟨oc, od, dV, kV, doc, pm, an, cdv, ct, osl, e, lk, hcd, hD, _⟩ := F.ex
  rcases hD with ⟨_, rfl⟩ | ⟨n, _⟩
  · exact ⟨⟨oc, od, kV, doc, pm, an, cdv, ct, osl, e, lk, hcd⟩, F.kp⟩
  · exact absurd rfl n
/-- called by names alone -/
theorem kbN (F : FunD K x qual params body scope [] kws f fd) (ks : List Str) (g : {α : Type} → List α → List α) (hrel : ∀ {zs : List V} {ws : List Value}, Vals zs ws → Vals (g zs) (g ws))
    (h : ∀ (kV doc pm : Value) (an : Option Addr) (cdv ct : Value) (ws : List Value), ws.length = ks.length → bindArgs (PySem.W.fnOf x qual params body scope .none kV doc pm an cdv ct) ⟨[], ks.zip ws⟩ = pure (ps.zip (g ws))) : KBn K fd ps 0 ks (fun _ ws => g ws) (fun _ zs => g zs) := by
  obtain ⟨oc, od, dV, kV, doc, pm, an, cdv, ct, osl, rfl, lk, hcd, hD, _⟩ := F.ex
  rcases hD with ⟨_, rfl⟩ | ⟨n, _⟩
  · refine ⟨fun s us ws _ l1 l2 => ?_, fun _ r => hrel r⟩
    obtain rfl : us = [] := List.eq_nil_of_length_eq_zero l1
    exact .of_eq (h kV doc pm an cdv ct ws l2)
  · exact absurd rfl n
end
section
variable {K : PySem.W.Frag} {f : Addr} {fd : FuncData}
abbrev FnD (K : PySem.W.Frag) (x : Str) (st : Stmt) (f : Addr) (fd : FuncData) : Prop := FunD K x x (defArgs st) (defBody st) (defScope st) [] [] f fd
end
end Gr
/-! A head with defs of a class whose body says super(). -/
namespace Gr
open PySem PySem.Spec PyProof.Rows L2
abbrev FnC : Type := Option (Str × Str × Arguments × FuncBody × Scope × Addr × List Str × Addr)
def fnC (K : PySem.W.Frag) (p : Str × Option Str) : FnC := match K.lookup (He.fAd K p) with
  | some ⟨_, _, .func fd, _⟩ => some (fd.name, fd.qualname, fd.params, fd.body, fd.scope, fd.globals, fd.closure.map (·.1), fd.builtins)
  | _ => none
structure DefC where
  at_ : Str × Option Str
  name : Str
  qual : Str
  params : Arguments
  body : List Stmt
  scope : Scope
def DefC.val (d : DefC) : FnC := some (d.name, d.qual, d.params, FuncBody.stmts d.body, d.scope, mainGlobals, ["__class__"], builtinsNs)
def cellOf (K : PySem.W.Frag) (p : Str × Option Str) : Addr := match K.lookup (He.fAd K p) with
  | some ⟨_, _, .func fd, _⟩ => (match fd.closure with
    | [(_, c)] => c
    | _ => 0)
  | _ => 0
def cellB (K : PySem.W.Frag) (c D : Addr) : Bool := match K.lookup c with
  | some ⟨_, _, .cell (some (.ref E)), _⟩ => decide (E = D)
  | _ => false
def fileB (K : PySem.W.Frag) (c : Addr) (file : Str) : Bool := match K.lookup c with
  | some ⟨_, _, .fields vs, _⟩ => (match (vs[2]? : Option Value) with
    | some (Value.str z _) => decide (z = file)
    | _ => false)
  | _ => false
/-- such a def -/
structure FunS (K : PySem.W.Frag) (x qual : Str) (params : Arguments) (body : List Stmt) (scope : Scope) (f cc cda : Addr) (fd : FuncData) : Prop where
  ex : ∃ (oc : Value) (od : Option Addr) (kV doc pm : Value) (an : Option Addr) (ct : Value) (osl : Array (Option Value)),
    fd = PySem.W.fnX x qual params body scope [("__class__", cc)] .none kV doc pm an (.ref cda) ct ∧ K.lookup f = some ⟨oc, od, .func fd, osl⟩ ∧ PySem.W.codeIn K (.ref cda) qual = true
  kp : PySem.W.keepIn K (.ref f) = true
def DefC.ok (K : PySem.W.Frag) (d : DefC) : Bool := PySem.W.keepIn K (.ref (He.fAd K d.at_)) && (match K.lookup (He.fAd K d.at_) with
  | some ⟨_, _, .func fd, _⟩ => PySem.W.codeIn K fd.code d.qual && He.dflB K fd.defaults []
  | _ => false)
theorem DefC.funS {K : PySem.W.Frag} {d : DefC} (e : fnC K d.at_ = d.val) (c : d.ok K = true) : ∃ fd, FunS K d.name d.qual d.params d.body d.scope (He.fAd K d.at_) (cellOf K d.at_) (He.codeOf K d.at_) fd := by
  obtain ⟨kp, c2⟩ := He.ba c
  unfold fnC at e
  cases q : K.lookup (He.fAd K d.at_) with
  | none =>
    rw [q] at c2
    cases c2
  | some o =>
    obtain ⟨oc, od, dt, osl⟩ := o
    rw [q] at c2 e
    cases dt with
    | func fd =>
      have c3 : (PySem.W.codeIn K fd.code d.qual && He.dflB K fd.defaults []) = true := c2
      obtain ⟨k1, k2⟩ := He.ba c3
      obtain ⟨ca, eca⟩ := He.codeIn_ref k1
      have hc := He.codeOf_eq q eca
      have hcell : cellOf K d.at_ = (match fd.closure with | [(_, c)] => c | _ => 0) := by
        unfold cellOf
        rw [q]
      have k3 := He.dflB_ok k2
      obtain ⟨n1, n2, n3, n4, n5, n6, n7, n8, n9, n10, n11, n12, n13, n14, n15⟩ := fd
      have e2 : (some (n1, n2, n3, n4, n5, n6, n7.map (·.1), n15) : FnC) = some (d.name, d.qual, d.params, FuncBody.stmts d.body, d.scope, mainGlobals, (["__class__"] : List Str), builtinsNs) := e
      simp only [Option.some.injEq, Prod.mk.injEq] at e2
      obtain ⟨h1, h2, h3, h4, h5, h6, h7, h8⟩ := e2
      subst h1 h2 h3 h4 h5 h6 h8
      obtain ⟨c, rfl⟩ : ∃ c : Addr, n7 = [(("__class__" : Str), c)] := by
        match n7, h7 with
        | [(y, c)], h7 =>
          injection h7 with h7 _
          exact ⟨c, by rw [← h7]⟩
      have eca2 : n13 = .ref ca := eca
      subst eca2
      have n8e : n8 = .none := by
        rcases k3 with ⟨_, h⟩ | ⟨h, _⟩
        · exact h
        · exact absurd rfl h
      subst n8e
      rw [hcell, hc]
      exact ⟨_, ⟨oc, od, n9, n10, n11, n12, n14, osl, rfl, q, k1⟩, kp⟩
    | _ => cases c2
/-- what the class tells, for an instance of it -/
def supB (K : PySem.W.Frag) (p : Str × Option Str) (C f2 : Addr) (file : Str) : Bool := cellB K (cellOf K p) C && (fileB K (He.codeOf K p) file && ((PySem.W.clsIn K C).isSome && (decide (PySem.W.mroIn K C (.ref C) = some true) &&
  (He.eqO (PySem.W.nsIn K cStatics "thirdparty.any") (some none) && (He.eqO (PySem.W.ks_superIn K C C "__init__") (some (some (.ref f2))) && (decide (PySem.W.typeIn K (.ref f2) = some (.type "function")) && PySem.W.fnIn K f2))))))
theorem supB_ok {P : Program} {K : PySem.W.Frag} {p : Str × Option Str} {C f2 : Addr} {file : Str} (h : supB K p C f2 file = true) (hP : P.main.file = file) (hT : (P.main.scope.names.lookup ("super" : Str)).isSome = false) : L2N.Sup P K (cellOf K p) (He.codeOf K p) C C f2 := by
  obtain ⟨h1, h⟩ := He.ba h
  obtain ⟨h2, h⟩ := He.ba h
  obtain ⟨h3, h⟩ := He.ba h
  obtain ⟨h4, h⟩ := He.ba h
  obtain ⟨h5, h⟩ := He.ba h
  obtain ⟨h6, h⟩ := He.ba h
  obtain ⟨h7, h8⟩ := He.ba h
  refine ⟨?_, ?_, Option.isSome_iff_exists.mp h3, Option.isSome_iff_exists.mp h3, of_decide_eq_true h4, He.eqO_ok h5, He.eqO_ok h6, of_decide_eq_true h7, h8, hT⟩
  · unfold cellB at h1
    split at h1
    · rename_i q
      rw [of_decide_eq_true h1] at q
      exact ⟨_, _, _, q⟩
    · cases h1
  · unfold fileB at h2
    split at h2
    · rename_i q
      split at h2
      · rename_i z t e
        have := of_decide_eq_true h2
        exact ⟨_, _, _, _, z, t, q, e, by rw [this, hP]; exact beq_self_eq_true _⟩
      · cases h2
    · cases h2
/-- as hookGT, with such defs -/
def asS (g : Addr → Option Obj) (n : Nat) : List Addr := He.asD g n ++ [cStatics]
abbrev AlS : Type := (He.AlT × Bool) × List FnC
def obsS (n : Nat) (fa : List He.Fa) (fn : List He.DefD) (fs : List DefC) (ts : List He.Tab) (more : PySem.W.Frag → Bool) (g : Addr → Option Obj) : AlS :=
  ((He.obsT fa fn ts (He.frG g (asS g n)), more (He.frG g (asS g n))), fs.map fun d => fnC (He.frG g (asS g n)) d.at_)
def hookS (n : Nat) (fa : List He.Fa) (fn : List He.DefD) (fs : List DefC) (ts : List He.Tab) (more : PySem.W.Frag → Bool) : PySem.W.Hook where
  α := AlS
  obs := fun s => obsS n fa fn fs ts more s.heap.get?
  val := fun w => ((He.valT fn ts w, true), fs.map DefC.val)
  says := fun w h => ∃ K : PySem.W.Frag, K.In h ∧ He.SaysT fa fn ts w K ∧ more K = true ∧ (fs.map fun d => fnC K d.at_) = fs.map DefC.val
  of := fun _ _ e => ⟨_, He.frG_in, congrArg (fun z : AlS => z.1.1) e, congrArg (fun z : AlS => z.1.2) e, congrArg (fun z : AlS => z.2) e⟩
  keeps := fun _ _ _ ⟨K, i, c⟩ k => ⟨K, PySem.W.Frag.In.keeps i k, c⟩
def obS (n : Nat) (fa : List He.Fa) (fn : List He.DefD) (fs : List DefC) (ts : List He.Tab) (more : PySem.W.Frag → Bool) (s : PySem.W.SharedT) : AlS := obsS n fa fn fs ts more (HandSHeadRun.getT s)
theorem obS_eq {n : Nat} {fa : List He.Fa} {fn : List He.DefD} {fs : List DefC} {ts : List He.Tab} {more : PySem.W.Frag → Bool} (s : PySem.W.SharedT) : obS n fa fn fs ts more s = (hookS n fa fn fs ts more).obs s.abs := by
  have e : HandSHeadRun.getT s = s.abs.heap.get? := funext (HandSHeadRun.getT_eq s)
  unfold obS
  rw [e]
  all_goals rfl
theorem funS_at {fs : List DefC} {K : PySem.W.Frag} (c : (fs.map fun d => fnC K d.at_) = fs.map DefC.val) (i : Nat) {d : DefC} (ok : d.ok K = true) (h : fs[i]? = some d := by rfl) : ∃ fd, FunS K d.name d.qual d.params d.body d.scope (He.fAd K d.at_) (cellOf K d.at_) (He.codeOf K d.at_) fd := by
  have e2 : (fs.map fun d => fnC K d.at_)[i]? = (fs.map DefC.val)[i]? := by rw [c]
  rw [List.getElem?_map, List.getElem?_map, h] at e2
  exact DefC.funS (Option.some.inj e2) ok
section
variable {K : PySem.W.Frag} {x qual : Str} {params : Arguments} {body : List Stmt} {scope : Scope} {f cc cda : Addr} {fd : FuncData} {ps : List Str}
theorem FunS.bindsN (F : FunS K x qual params body scope f cc cda fd)
    (h : ∀ (kV doc pm : Value) (an : Option Addr) (ct : Value) (us : List Value), us.length = ps.length → bindArgs (PySem.W.fnX x qual params body scope [("__class__", cc)] .none kV doc pm an (.ref cda) ct) ⟨us, []⟩ = pure (ps.zip us)) : Binds K fd ps [] := by
  obtain ⟨oc, od, kV, doc, pm, an, ct, osl, rfl, lk, hcd⟩ := F.ex
  intro s us _ l1
  rw [List.append_nil]
  rw [List.append_nil] at l1
  exact .of_eq (h kV doc pm an ct us l1)
end
end Gr
namespace K18
open PySem PySem.Spec PyProof.Rows L2 Gr
def d_is_whole : He.DefD := ⟨("is_whole", none), "is_whole", "is_whole", defArgs sWhole, defBody sWhole, defScope sWhole, [], []⟩
def d_is_deeds : He.DefD := ⟨("is_deeds", none), "is_deeds", "is_deeds", defArgs sDeeds, defBody sDeeds, defScope sDeeds, [], []⟩
def d_is_tests : He.DefD := ⟨("is_tests", none), "is_tests", "is_tests", defArgs sTests, defBody sTests, defScope sTests, [], []⟩
def d_p_is_deed : He.DefD := ⟨("_is_deed", none), "_is_deed", "_is_deed", defArgs sDeed, defBody sDeed, defScope sDeed, [], []⟩
def d_p_is_test : He.DefD := ⟨("_is_test", none), "_is_test", "_is_test", defArgs sTest, defBody sTest, defScope sTest, [], []⟩
def d_p_check_deeds : He.DefD := ⟨("_check_deeds", none), "_check_deeds", "_check_deeds", defArgs sCheckDeeds, defBody sCheckDeeds, defScope sCheckDeeds, [], []⟩
def d_p_check_tests : He.DefD := ⟨("_check_tests", none), "_check_tests", "_check_tests", defArgs sCheckTests, defBody sCheckTests, defScope sCheckTests, [], []⟩
def d_p_check_number : He.DefD := ⟨("_check_number", none), "_check_number", "_check_number", defArgs sCheckNumber, defBody sCheckNumber, defScope sCheckNumber, [], []⟩
def d_law_cell : He.DefD := ⟨("_law_cell", none), "_law_cell", "_law_cell", defArgs lCell, defBody lCell, defScope lCell, [], []⟩
def d_law_box : He.DefD := ⟨("_law_box", none), "_law_box", "_law_box", defArgs lBox, defBody lBox, defScope lBox, [], []⟩
def d_law_take : He.DefD := ⟨("_law_take", none), "_law_take", "_law_take", defArgs lTake, defBody lTake, defScope lTake, [], []⟩
def d_law_deeds : He.DefD := ⟨("_law_deeds", none), "_law_deeds", "_law_deeds", defArgs lDeeds, defBody lDeeds, defScope lDeeds, [], []⟩
def d_law_tests : He.DefD := ⟨("_law_tests", none), "_law_tests", "_law_tests", defArgs lTests, defBody lTests, defScope lTests, [], []⟩
def d_law_odd : He.DefD := ⟨("_law_odd", none), "_law_odd", "_law_odd", defArgs lOdd, defBody lOdd, defScope lOdd, [], []⟩
def d_law_bad_deeds : He.DefD := ⟨("_law_bad_deeds", none), "_law_bad_deeds", "_law_bad_deeds", defArgs lBadDeeds, defBody lBadDeeds, defScope lBadDeeds, [], []⟩
def d_law_bad_tests : He.DefD := ⟨("_law_bad_tests", none), "_law_bad_tests", "_law_bad_tests", defArgs lBadTests, defBody lBadTests, defScope lBadTests, [], []⟩
def d_law_bad_number : He.DefD := ⟨("_law_bad_number", none), "_law_bad_number", "_law_bad_number", defArgs lBadNumber, defBody lBadNumber, defScope lBadNumber, [], []⟩
def d_law_by_place : He.DefD := ⟨("_law_by_place", none), "_law_by_place", "_law_by_place", defArgs lByPlace, defBody lByPlace, defScope lByPlace, [], []⟩
def d_law_tried : He.DefD := ⟨("_law_tried", none), "_law_tried", "_law_tried", defArgs lTried, defBody lTried, defScope lTried, [], []⟩
def d_law_good : He.DefD := ⟨("_law_good", none), "_law_good", "_law_good", defArgs lGood, defBody lGood, defScope lGood, [], []⟩
def d_law_bare : He.DefD := ⟨("_law_bare", none), "_law_bare", "_law_bare", defArgs lBare, defBody lBare, defScope lBare, [], []⟩
def d_law_right : He.DefD := ⟨("_law_right", none), "_law_right", "_law_right", defArgs lRight, defBody lRight, defScope lRight, [], []⟩
def d_law : He.DefD := ⟨("law", none), "law", "law", defArgs lLaw, defBody lLaw, defScope lLaw, [], []⟩
def d_initNoNumber : He.DefD := ⟨("NoNumber", some "__init__"), "__init__", "NoNumber.__init__", defArgs sNoNumberInit, defBody sNoNumberInit, defScope sNoNumberInit, [], []⟩
def d_initNoDeeds : He.DefD := ⟨("NoDeeds", some "__init__"), "__init__", "NoDeeds.__init__", defArgs sNoDeedsInit, defBody sNoDeedsInit, defScope sNoDeedsInit, [], []⟩
def d_initNoTests : He.DefD := ⟨("NoTests", some "__init__"), "__init__", "NoTests.__init__", defArgs sNoTestsInit, defBody sNoTestsInit, defScope sNoTestsInit, [], []⟩
def d_initMachine : He.DefD := ⟨("Machine", some "__init__"), "__init__", "Machine.__init__", defArgs sMachineInit, defBody sMachineInit, defScope sMachineInit, [], []⟩
def d_mgives : He.DefD := ⟨("Machine", some "gives"), "gives", "Machine.gives", defArgs sMachineGives, defBody sMachineGives, defScope sMachineGives, [], []⟩
def d_mstop : He.DefD := ⟨("Machine", some "stop"), "stop", "Machine.stop", defArgs sMachineStop, defBody sMachineStop, defScope sMachineStop, [], []⟩
def d_sTurned : DefC := ⟨("Turned", some "__init__"), "__init__", "Turned.__init__", defArgs sTurnedInit, defBody sTurnedInit, defScope sTurnedInit⟩
def d_sChosen : DefC := ⟨("Chosen", some "__init__"), "__init__", "Chosen.__init__", defArgs sChosenInit, defBody sChosenInit, defScope sChosenInit⟩
def d_sWhile : DefC := ⟨("While", some "__init__"), "__init__", "While.__init__", defArgs sWhileInit, defBody sWhileInit, defScope sWhileInit⟩
def d_sUntil : DefC := ⟨("Until", some "__init__"), "__init__", "Until.__init__", defArgs sUntilInit, defBody sUntilInit, defScope sUntilInit⟩
def d_sFirst : DefC := ⟨("First", some "__init__"), "__init__", "First.__init__", defArgs sFirstInit, defBody sFirstInit, defScope sFirstInit⟩
def d_sSkip : DefC := ⟨("Skip", some "__init__"), "__init__", "Skip.__init__", defArgs sSkipInit, defBody sSkipInit, defScope sSkipInit⟩
def d_sWindows : DefC := ⟨("Windows", some "__init__"), "__init__", "Windows.__init__", defArgs sWindowsInit, defBody sWindowsInit, defScope sWindowsInit⟩
def d_sGroups : DefC := ⟨("Groups", some "__init__"), "__init__", "Groups.__init__", defArgs sGroupsInit, defBody sGroupsInit, defScope sGroupsInit⟩
def d_sSums : DefC := ⟨("Sums", some "__init__"), "__init__", "Sums.__init__", defArgs sSumsInit, defBody sSumsInit, defScope sSumsInit⟩
def fs : List DefC := [d_sTurned, d_sChosen, d_sWhile, d_sUntil, d_sFirst, d_sSkip, d_sWindows, d_sGroups, d_sSums]
def fileS : Str := PySem.Challenge.pw_greatrows_k18_machines_refused.main.file
def fn_0 : List He.DefD := [d_is_whole, d_is_deeds, d_is_tests, d_p_is_deed, d_p_is_test, d_p_check_deeds, d_p_check_tests, d_p_check_number, d_law_cell, d_law_box, d_law_take, d_law_deeds]
def fn_1 : List He.DefD := [d_law_tests, d_law_odd, d_law_bad_deeds, d_law_bad_tests, d_law_bad_number, d_law_by_place, d_law_tried, d_law_good, d_law_bare, d_law_right, d_law, d_initNoNumber]
def fn_2 : List He.DefD := [d_initNoDeeds, d_initNoTests, d_initMachine, d_mgives, d_mstop]
def fn : List He.DefD := fn_0 ++ (fn_1 ++ (fn_2))
def fa_0 : List He.Fa := [.glo "is_whole", .glo "is_deeds", .glo "is_tests", .glo "_is_deed", .glo "_is_test", .glo "_check_deeds", .glo "_check_tests", .glo "_check_number", .glo "_law_cell", .glo "_law_box", .glo "_law_take", .glo "_law_deeds"]
def fa_1 : List He.Fa := [.glo "_law_tests", .glo "_law_odd", .glo "_law_bad_deeds", .glo "_law_bad_tests", .glo "_law_bad_number", .glo "_law_by_place", .glo "_law_tried", .glo "_law_good", .glo "_law_bare", .glo "_law_right", .glo "law", .glo "PlanError"]
def fa_2 : List He.Fa := [.glo "NoNumber", .glo "NoDeeds", .glo "NoTests", .glo "Barred", .glo "Over", .glo "Machine", .glo "Turned", .glo "Chosen", .glo "While", .glo "Until", .glo "First", .glo "Skip"]
def fa_3 : List He.Fa := [.glo "Windows", .glo "Groups", .glo "Sums", .glo "Flat", .glo "LEAST_OF_DEED", .glo "LEAST_OF_TEST", .free "LookupError", .free "ValueError", .free "all", .free "bool", .free "int", .free "isinstance"]
def fa_4 : List He.Fa := [.free "len", .free "list", .free "max", .free "min", .free "range", .free "repr", .free "str", .free "sum", .free "tuple", .int "MOST_DEEDS" 8, .int "MOST_TESTS" 8, .cls "Turned"]
def fa_5 : List He.Fa := [.mkr "Turned", .noat "Turned" "lying", .noat "Turned" "is_done", .noat "Turned" "is_cut", .noat "Turned" "_deeds", .meth "Turned" "gives", .cls "Chosen", .mkr "Chosen", .noat "Chosen" "lying", .noat "Chosen" "is_done", .noat "Chosen" "is_cut", .noat "Chosen" "_tests"]
def fa_6 : List He.Fa := [.meth "Chosen" "gives", .cls "While", .mkr "While", .noat "While" "lying", .noat "While" "is_done", .noat "While" "is_cut", .noat "While" "_tests", .meth "While" "gives", .cls "Until", .mkr "Until", .noat "Until" "lying", .noat "Until" "is_done"]
def fa_7 : List He.Fa := [.noat "Until" "is_cut", .noat "Until" "_tests", .meth "Until" "gives", .cls "First", .mkr "First", .noat "First" "lying", .noat "First" "is_done", .noat "First" "is_cut", .noat "First" "_many", .noat "First" "_left", .meth "First" "gives", .cls "Skip"]
def fa_8 : List He.Fa := [.mkr "Skip", .noat "Skip" "lying", .noat "Skip" "is_done", .noat "Skip" "is_cut", .noat "Skip" "_many", .noat "Skip" "_left", .meth "Skip" "gives", .cls "Windows", .mkr "Windows", .noat "Windows" "lying", .noat "Windows" "is_done", .noat "Windows" "is_cut"]
def fa_9 : List He.Fa := [.noat "Windows" "_many", .noat "Windows" "_kept", .meth "Windows" "gives", .cls "Groups", .mkr "Groups", .noat "Groups" "lying", .noat "Groups" "is_done", .noat "Groups" "is_cut", .noat "Groups" "_deeds", .noat "Groups" "_kept", .meth "Groups" "gives", .cls "Sums"]
def fa_10 : List He.Fa := [.mkr "Sums", .noat "Sums" "lying", .noat "Sums" "is_done", .noat "Sums" "is_cut", .noat "Sums" "_total", .meth "Sums" "gives", .cls "Flat", .mkr "Flat", .noat "Flat" "lying", .noat "Flat" "is_done", .noat "Flat" "is_cut", .meth "Flat" "gives"]
def fa_11 : List He.Fa := [.meth "First" "stop", .exm "NoTests" "NoDeeds" false, .exm "NoNumber" "NoDeeds" false, .exm "NoNumber" "NoTests" false, .exm "Over" "Over" true, .free "super"]
def fa : List He.Fa := fa_0 ++ (fa_1 ++ (fa_2 ++ (fa_3 ++ (fa_4 ++ (fa_5 ++ (fa_6 ++ (fa_7 ++ (fa_8 ++ (fa_9 ++ (fa_10 ++ (fa_11)))))))))))
def tabs : List He.Tab := [(fun K => He.ga K "LEAST_OF_DEED", ["add", "times", "rest"]), (fun K => He.ga K "LEAST_OF_TEST", ["below", "parts", "is"])]
def overB (K : PySem.W.Frag) : Bool := PySem.W.excIn K (He.ga K "Over") leBase "LookupError.__new__" && (PySem.W.keepIn K (.ref (He.ga K "Over")) && (decide (PySem.W.subIn K (.ref (He.ga K "Over")) (.type "BaseException") = some true) && (decide (PySem.W.typeIn K (.ref (He.ga K "Over")) = some (.type "type")) && (excB K (He.ga K "Over") && (kitB "Over" "Barred" true K && kitB "Over" "PlanError" false K)))))
def kitsB (K : PySem.W.Frag) : Bool := kitB "NoDeeds" "NoTests" false K && (kitB "NoDeeds" "NoNumber" false K && (kitB "NoTests" "NoDeeds" false K && (kitB "NoTests" "NoNumber" false K && (kitB "NoNumber" "NoDeeds" false K && (kitB "NoNumber" "NoTests" false K)))))
def sameB (C m : Str) (K : PySem.W.Frag) : Bool := decide (He.ma K (He.ga K C) m = He.ma K (He.ga K "Machine") m)
def samesB (K : PySem.W.Frag) : Bool := (["Turned", "Chosen", "While", "Until", "First", "Skip", "Windows", "Groups", "Sums", "Flat"] : List Str).all (fun C => sameB C "gives" K) && (sameB "First" "stop" K && sameB "Flat" "__init__" K)
def supsB (K : PySem.W.Frag) : Bool := (["Turned", "Chosen", "While", "Until", "First", "Skip", "Windows", "Groups", "Sums"] : List Str).all (fun C => supB K (C, some "__init__") (He.ga K C) (He.ma K (He.ga K "Machine") "__init__") fileS)
def errsB (K : PySem.W.Frag) : Bool := errB "NoNumber" "PlanError" "found" K && (errB "NoDeeds" "PlanError" "found" K && errB "NoTests" "PlanError" "found" K)
def more (K : PySem.W.Frag) : Bool := overB K && (kitsB K && (samesB K && (supsB K && ((fs.all fun d => d.ok K) && (errsB K && (rowsB K (He.ga K "LEAST_OF_DEED") deedT && rowsB K (He.ga K "LEAST_OF_TEST") testT))))))
end K18
namespace K18
open PySem PySem.Spec PyProof.Rows L2 Gr
abbrev R : PySem.W.OpenRow := PySem.W.OpenLaw.row PySem.Challenge.rw_greatrows_k18_machines_refused
def loose0 : List Str := ["__name__", "_wall", "PlanError", "NoNumber", "NoDeeds", "NoTests", "Barred", "Over", "is_whole", "MOST_DEEDS", "MOST_TESTS", "LEAST_OF_DEED"]
def loose1 : List Str := ["LEAST_OF_TEST", "is_deeds", "is_tests", "_is_deed", "_is_test", "Machine", "Turned", "Chosen", "While", "Until", "First", "Skip"]
def loose2 : List Str := ["Windows", "Groups", "Sums", "Flat", "_check_deeds", "_check_tests", "_check_number", "_law_cell", "_law_box", "_law_take", "_law_mixed", "_law_thing"]
def loose3 : List Str := ["_law_deeds", "_law_tests", "_law_value", "_law_turned", "_law_hold", "_law_odd", "_law_bad_deeds", "_law_bad_tests", "_law_bad_number", "_law_by_place", "_law_tried", "_law_good"]
def loose4 : List Str := ["_law_bare", "_law_right"]
def loose : List Str := loose0 ++ (loose1 ++ (loose2 ++ (loose3 ++ (loose4))))
theorem run_false (w : World) : HandSHeadRun.RunEq R  (PySem.W.view R.prog [54]) (hookS 4 fa fn fs tabs more) (obS 4 fa fn fs tabs more) 12000 loose (w.withFollow "special-get-raises" false) := by
  intro os
  kernel_rfl
theorem run_true (w : World) : HandSHeadRun.RunEq R  (PySem.W.view R.prog [54]) (hookS 4 fa fn fs tabs more) (obS 4 fa fn fs tabs more) 12000 loose (w.withFollow "special-get-raises" true) := by
  intro os
  kernel_rfl
theorem run (w : World) : HandSHeadRun.RunEq R  (PySem.W.view R.prog [54]) (hookS 4 fa fn fs tabs more) (obS 4 fa fn fs tabs more) 12000 loose w := by
  have h : HandSHeadRun.RunEq R  (PySem.W.view R.prog [54]) (hookS 4 fa fn fs tabs more) (obS 4 fa fn fs tabs more) 12000 loose (w.withFollow "special-get-raises" (w.params.followText "special-get-raises")) := by
    cases w.params.followText "special-get-raises"
    · exact run_false w
    · exact run_true w
  rwa [World.withFollow_self] at h
end K18
namespace K18
open PySem PySem.Spec PyProof.Rows L2 Gr
theorem allTest_app : ∀ xs ys : List PyData, allTest (xs ++ ys) = (allTest xs && allTest ys)
  | [], ys => by simp [allTest]
  | x :: xs, ys => by simp [allTest, allTest_app xs ys, Bool.and_assoc]
def spTests (K : PySem.W.Frag) : Sp := fun vs H Q _ => ∃ (v : V) (d : PyData), vs = [v] ∧ Dn K H v d ∧ ∀ H', Same H H' → Q (.bl (isTests d)) H'
/-- each part's truth, as they are made -/
structure AskedT (H : Hp) (D : Addr) (ds : List PyData) (i : Nat) (G : Hp) : Prop where
  same : Same H G
  ex : ∃ bs : List Bool, G D = some (.lst (bs.map V.bl)) ∧ bs.length = i ∧ bs.all id = allTest (ds.take i)
section
variable {P : Program} {w : World} {K : PySem.W.Frag} {mg : Str → Option Value} {base : Heap} {f fD : Addr} {fd fdD : FuncData}
theorem scTests : FnScope ["thing", "part"] ["thing"] (defScope sTests) := ⟨rfl, rfl, rfl, by decide +kernel, rfl, by decide +kernel, by decide +kernel⟩
theorem ok_isTests (F : Fun K "is_tests" "is_tests" sTests f fd) (DE : Cal P w K mg base 4 "_is_test" ["thing"] (spTest K) fD fdD) (mi : mg "isinstance" = none) (mT : mg "tuple" = none) (ml : mg "len" = none) (ma : mg "all" = none) {t8 : Tok} (m8 : mg "MOST_TESTS" = some (.int 8 t8)) :
    FnOk P w K mg base CX0 5 f fd ["thing"] (spTests K) := by
  refine F.ok scTests (fun vs H Q E h => ?_) (fun cdv A outer s H vs Q E hr h => ?_)
  · obtain ⟨v, d, rfl, _⟩ := h
    rfl
  obtain ⟨v, d, rfl, hd, q⟩ := h
  refine ⟨_, pss_cons (ps_if (PW.pt (pw_or (pt_not (pt_val (pe_callB (call_isN kit_tuple) rfl mi boot_isi (pa_cons (pv 0) (pa_cons (pe_bltn (v := .ty "tuple") rfl mT boot_tuple rfl) pa_nil)))))
        (pw_or1 (pt_not (pt_chain op_le op_le pe_int (pe_callB call_len_seq rfl ml PySem.boot_len (pa_cons (pv 0) pa_nil)) (pe_glob (v := .int 8) rfl m8 ⟨_, rfl⟩)))))) (pss_one (ps_ret pe_bl)) pss_nil)
    (pss_one (ps_ret (pe_callB (cr_all rfl) rfl ma Gr.boot_all (pa_cons (pe_lc (own := [("part", 1)]) (g := gName 1) (tt := tYes) rfl scTests.nd (pi_tup (pv 0)) (blkOk_by (N := ["thing", "part"]) (sc := defScope sTests) (by decide +kernel)) (fun _ _ _ _ _ => pg_name (i := 1) scTests.nd rfl (Or.inl rfl))
          (fun _ _ _ _ _ => pts_nil) (fun _ _ _ _ _ => pe_call DE.ok hr rfl DE.at_ DE.kp DE.bd .nil pass0 (pa_cons (pv 1) pa_nil))) pa_nil)))), ?_⟩
  refine ⟨_, rfl, v, d, rfl, hd, _, rfl, ?_⟩
  cases ht : isT "tuple" d with
  | false =>
    have q' := q _ (Same.refl _)
    rw [isTests_not ht] at q'
    exact iteT (iteT q')
  | true =>
  obtain ⟨ds, rfl⟩ := isT_tuple ht
  cases hd with
  | @tup a vs _ hs ha =>
  have lv := ha.len
  have no : (decide (1 ≤ ds.length) && decide (ds.length ≤ 8)) = false → Q (.bl false) H := fun e => by
    have q' := q _ (Same.refl _)
    have e2 : isTests (.tuple ds) = false := by
      show ((decide (1 ≤ ds.length) && decide (ds.length ≤ 8)) && allTest ds) = false
      rw [e, Bool.false_and]
    rw [e2] at q'
    exact q'
  refine iteF ⟨_, rfl, a, vs, rfl, .inr hs, _, _, rfl, rfl, _, rfl, ?_⟩
  refine ite2 (fun c1 => ?_) (fun c1 => ?_)
  rotate_left
  · have c0 : ¬ (1 : Int) ≤ (vs.length : Int) := of_decide_eq_false (Bool.eq_false_iff.mpr c1)
    exact ⟨_, rfl, iteT (no (by rw [decide_eq_false (show ¬ 1 ≤ ds.length by omega), Bool.false_and]))⟩
  have c0 : (1 : Int) ≤ (vs.length : Int) := of_decide_eq_true c1
  refine ⟨_, _, rfl, rfl, _, rfl, ?_⟩
  refine ite2 (fun c => ?_) (fun c => ?_)
  · have c8 : ¬ (vs.length : Int) ≤ 8 := fun y => by
      rw [decide_eq_true y] at c
      cases c
    exact no (by rw [decide_eq_false (show ¬ ds.length ≤ 8 by omega), Bool.and_false])
  · have c8 : (vs.length : Int) ≤ 8 := by
      refine Classical.byContradiction fun y => c ?_
      rw [decide_eq_false y]
      rfl
    refine ⟨_, rfl, a, rfl, ⟨vs, hs⟩, fun D hD => ?_⟩
    refine lc_tup (xs := vs) (AskedT H D ds) ⟨same_upd hD _, [], upd_same, rfl, by simp [allTest]⟩ (fun i G' hi p => same_seqT p.same hs) (fun i x G' hx p => ?_) (fun G' p => ?_)
    · obtain ⟨dx, edx, hdx⟩ := dnAll_get ha hx
      obtain ⟨ps, bs, eD, la, ea⟩ := p
      have il : i < vs.length := (List.getElem?_eq_some_iff.mp hx).1
      refine ⟨rfl, ?_⟩
      refine yes_if ?_
      refine ⟨_, rfl, x, dx, rfl, hdx.le ps, fun G2 s2 => ?_⟩
      refine ⟨_, s2 _ _ eD, small1000 (by rw [List.length_map]; omega), fun b o e => ?_, bs ++ [isTest dx], ?_, ?_, ?_⟩
      · rw [upd_ne (ne_of_none e hD)]
        exact s2 b o (ps b o e)
      · rw [upd_same, List.map_append]
        all_goals rfl
      · rw [List.length_append, la]
        all_goals rfl
      · rw [take_next edx, allTest_app, ← ea, List.all_append]
        simp [allTest]
    · obtain ⟨ps, bs, eD, la, ea⟩ := p
      refine ⟨D, bs, rfl, SqL.of eD, ?_⟩
      have e : isTests (.tuple ds) = bs.all id := by
        rw [ea, lv, List.take_length]
        show ((decide (1 ≤ ds.length) && decide (ds.length ≤ 8)) && allTest ds) = allTest ds
        rw [decide_eq_true (show ds.length ≤ 8 by omega), decide_eq_true (show 1 ≤ ds.length by omega), Bool.true_and, Bool.true_and]
      rw [← e]
      exact q _ ps
end
end K18
/-! data told by the heap's tuples alone -/
namespace Gr
open PySem PySem.Spec PyProof.Rows L2
def tups (H : Hp) : Hp := fun a => match H a with
  | some (.tup us) => some (.tup us)
  | _ => none
theorem tups_of {H : Hp} {a : Addr} {us : List V} (h : H a = some (.tup us)) : tups H a = some (.tup us) := by unfold tups; rw [h]
theorem tups_to {H : Hp} {a : Addr} {o : HO} (h : tups H a = some o) : H a = some o ∧ ∃ us, o = .tup us := by
  unfold tups at h
  split at h
  · rename_i us e
    cases h
    exact ⟨e, us, rfl⟩
  · cases h
theorem tups_le {H : Hp} : Same (tups H) H := fun a o e => (tups_to e).1
/-- tuples stay -/
def TupSame (H G : Hp) : Prop := ∀ (a : Addr) (us : List V), H a = some (.tup us) → G a = some (.tup us)
theorem TupSame.refl (H : Hp) : TupSame H H := fun _ _ e => e
theorem TupSame.trans {H G F : Hp} (a : TupSame H G) (b : TupSame G F) : TupSame H F := fun c us e => b c us (a c us e)
theorem TupSame.tups {H G : Hp} (h : TupSame H G) : Same (tups H) (tups G) := fun a o e => by
  obtain ⟨e1, us, rfl⟩ := tups_to e
  exact tups_of (h a us e1)
theorem same_tup {H G : Hp} (h : Same H G) : TupSame H G := fun a us e => h _ _ e
theorem turn_tup {st : Addr} {n m : Nat} {H G : Hp} (t : TurnB st n H G) (h : StB H st m) : TupSame H G := fun a us e => t.keep (tupB_ne h e) e
theorem TupSame.put {H : Hp} {a : Addr} {o : HO} (h : ∀ us, H a ≠ some (.tup us)) : TupSame H (upd H a o) := fun b us e => by
  rw [upd_ne (fun z => h us (by rw [← z]; exact e))]
  exact e
theorem tup_do {G : Hp} {T : Addr} {us : List V} {ds : List PyData} (e : G T = some (.tup us)) (h : DoAll (tups G) us ds) : Do (tups G) (.ref T) (.tuple ds) := .tup (tups_of e) h
theorem tup_doto {G : Hp} {v : V} {ds : List PyData} (h : Do (tups G) v (.tuple ds)) : ∃ T us, v = .ref T ∧ G T = some (.tup us) ∧ DoAll (tups G) us ds := by
  cases h with
  | tup a b => exact ⟨_, _, rfl, tups_le _ _ a, b⟩
/-- put into a list that is new -/
theorem turn_put {st a : Addr} {n : Nat} {H G : Hp} (t : TurnB st n H G) (h : H a = none) (ne : a ≠ st) (o : HO) : TurnB st n H (upd G a o) := by
  refine ⟨t.now.write' ne _, fun b u e => ?_⟩
  have n2 : b ≠ st := fun c => by rw [c, offB_st] at e; cases e
  rw [offB_ne n2] at e ⊢
  rw [upd_ne (ne_of_none e h)]
  exact t.keep n2 e
end Gr
namespace K18
open PySem PySem.Spec PyProof.Rows L2 Gr 
theorem dStr (a b : Str) : decide (V.str a = V.str b) = decide (a = b) := by
  by_cases h : a = b
  · rw [h, decide_eq_true rfl, decide_eq_true rfl]
  · rw [decide_eq_false h, decide_eq_false (fun z => h (V.str.inj z))]
/-- drawn deeds -/
def spDe : Sp := fun vs H Q _ => ∃ (st : Addr) (n : Nat), vs = [.ref st] ∧ StB H st (n + 17) ∧ ∀ (v : V) (ds : List PyData) (G : Hp), TurnB st n H G → Do (tups G) v (.tuple ds) → ds.length ≤ 8 → allDeed ds = true → FitAll 24 1 ds → Q v G
theorem scLDe : FnScope ["_law_box_here", "_law_found", "_law_k", "_law_word"] ["_law_box_here"] (defScope lDeeds) := ⟨rfl, rfl, rfl, by decide +kernel, rfl, by decide +kernel, by decide +kernel⟩
section
variable {P : Program} {w : World} {K : PySem.W.Frag} {mg : Str → Option Value} {base : Heap} {f fT : Addr} {fd fdT : FuncData}
theorem ok_lde (F : Fun K "_law_deeds" "_law_deeds" lDeeds f fd) (TA : Cal P w K mg base 1 "_law_take" ["_law_box_here", "_law_many"] spTake fT fdT) (m_range : mg "range" = none) (m_tuple : mg "tuple" = none) : FnOk P w K mg base CX0 2 f fd ["_law_box_here"] spDe := by
  refine F.ok scLDe (fun vs H Q E h => ?_) (fun cdv A outer s H vs Q E hr h => ?_)
  · obtain ⟨st, n, rfl, _⟩ := h
    rfl
  obtain ⟨st, n, rfl, hS, q⟩ := h
  refine ⟨_, (pss_cons (ps_set (i := 1) scLDe.nd rfl (Or.inl rfl) (pe_lst pa_nil))
 (pss_cons (ps_for PassesOwn.never rfl (pi_range1 rfl m_range (pa_cons (pe_ix ix_list (pe_lst (pa_cons pe_int (pa_cons pe_int (pa_cons pe_int (pa_cons pe_int (pa_cons pe_int pa_nil)))))) (pe_cal TA hr rfl (pa_cons (pv 0) (pa_cons pe_int pa_nil))) (fun _ _ => rfl)) pa_nil)) (pg_name (i := 2) scLDe.nd rfl (Or.inl rfl))
 (pss_cons (ps_set (i := 3) scLDe.nd rfl (Or.inl rfl) (pe_ix ix_list (pe_lst (pa_cons pe_str (pa_cons pe_str (pa_cons pe_str pa_nil)))) (pe_cal TA hr rfl (pa_cons (pv 0) (pa_cons pe_int pa_nil))) (fun _ _ => rfl)))
 (pss_one (ps_expr (pe_bm PySem.F.plainAttrs_list PySem.F.slot_list_append PySem.F.type_list_append mt_append (pv 1) (pa_cons (pe_tup (pa_cons (pv 3) (pa_cons (pe_ifExp (pt_cmpR op_eq (pv 3) pe_str (nomark _)) (pe_op op_add pe_int (pe_cal TA hr rfl (pa_cons (pv 0) (pa_cons pe_int pa_nil)))) (pe_op op_sub (pe_cal TA hr rfl (pa_cons (pv 0) (pa_cons pe_int pa_nil))) pe_int)) pa_nil))) pa_nil))))))
 (pss_one (ps_ret (pe_callTy call_tuple_of rfl m_tuple boot_tuple (pa_cons (pv 1) pa_nil)))))), ?_⟩
  have zl := sizeLine_eq
  refine ⟨by show 0 ≤ sizeLine; decide, fun D hD => ?_⟩
  obtain ⟨t1, _, nD⟩ := stepB hS hD (.lst [])
  have eD : (upd H D (.lst [])) D = some (.lst []) := upd_same
  generalize upd H D (HO.lst []) = G1 at t1 eD ⊢
  refine ⟨by show 5 ≤ sizeLine; omega, fun L0 hL0 => ?_⟩
  obtain ⟨t2, _, nL0⟩ := stepB t1.now hL0 (.lst [.int 0, .int 1, .int 1, .int 2, .int 8])
  have eL0 : (upd G1 L0 (.lst [.int 0, .int 1, .int 1, .int 2, .int 8])) L0 = some (.lst [.int 0, .int 1, .int 1, .int 2, .int 8]) := upd_same
  generalize upd G1 L0 (HO.lst [.int 0, .int 1, .int 1, .int 2, .int 8]) = G2 at t2 eL0 ⊢
  refine ⟨_, rfl, st, 5, n + 16, rfl, t2.now.mono (by omega), by omega, by omega, fun r G3 r0 r1 t3 => ?_⟩
  obtain ⟨m, hm8, em⟩ : ∃ m : Int, (0 ≤ m ∧ m ≤ 8) ∧ atI [V.int 0, .int 1, .int 1, .int 2, .int 8] r = some (.int m) := by
    obtain ⟨rr, h1, h2⟩ := at_ints [0, 1, 1, 2, 8] r r0 r1
    simp only [List.mem_cons, List.not_mem_nil, or_false] at h1
    rcases h1 with rfl | rfl | rfl | rfl | rfl <;> exact ⟨_, ⟨by decide, by decide⟩, h2⟩
  refine ⟨L0, _, _, .int m, rfl, rfl, SqL.of (t3.keep nL0 eL0), em, m, rfl, by omega, by omega, ?_⟩
  have tt := (t1.trans t2).trans t3
  have eD3 := t3.keep nD (t2.keep nD eD)
  have hmn : m.toNat ≤ 8 := by omega
  refine for_range (fun j σ F => TurnB st (n + 2 * (8 - j)) H F ∧ ∃ us ds, F D = some (.lst us) ∧ us.length = j ∧ DoAll (tups F) us ds ∧ allDeed ds = true ∧ FitAll (3 * j) 1 ds ∧ ∃ o3 o4, σ = [some (.ref st), some (.ref D), o3, o4]) ?_ (fun j σ F hj pv => ?_) (fun σ F pv => ?_)
  · exact ⟨tt.mono (by omega), [], [], eD3, rfl, .nil, rfl, FitAll.nil, _, _, rfl⟩
  · obtain ⟨tF, us, ds, eDF, lus, hds, hok, hfit, o3, o4, rfl⟩ := pv
    have sB8 : StB F st (n + 2 * (8 - (j + 1)) + 2) := tF.now.mono (by omega)
    refine ⟨by show 3 ≤ sizeLine; omega, fun L1 hL1 => ?_⟩
    obtain ⟨x1, _, nL1⟩ := stepB sB8 hL1 (.lst [.str "add", .str "times", .str "rest"])
    have eL1 : (upd F L1 (.lst [.str "add", .str "times", .str "rest"])) L1 = some (.lst [.str "add", .str "times", .str "rest"]) := upd_same
    generalize upd F L1 (HO.lst [.str "add", .str "times", .str "rest"]) = F1 at x1 eL1 ⊢
    refine ⟨_, rfl, st, 3, n + 2 * (8 - (j + 1)) + 1, rfl, x1.now, by decide, by decide, fun w1 F2 w10 w11 x2 => ?_⟩
    obtain ⟨wv, hwv, ewv⟩ := at_any [.str "add", .str "times", .str "rest"] w1 w10 w11
    refine ⟨L1, _, _, wv, rfl, rfl, SqL.of (x2.keep nL1 eL1), ewv, ?_⟩
    obtain ⟨z, rfl, hz⟩ : ∃ z : Str, wv = .str z ∧ (z = "add" ∨ z = "times" ∨ z = "rest") := by
      simp only [List.mem_cons, List.not_mem_nil, or_false] at hwv
      rcases hwv with rfl | rfl | rfl
      · exact ⟨_, rfl, .inl rfl⟩
      · exact ⟨_, rfl, .inr (.inl rfl)⟩
      · exact ⟨_, rfl, .inr (.inr rfl)⟩
    have x12 := x1.trans x2
    have item : ∀ (F6 : Hp) (x16 : TurnB st (n + 2 * (8 - (j + 1))) F F6) (b' : Int), -3 ≤ b' → b' ≤ 9 → (z = "rest" → 1 ≤ b') → ∀ T, F6 T = none →
        TurnB st (n + 2 * (8 - (j + 1))) H (upd (upd F6 T (.tup [.str z, .int b'])) D (.lst (us ++ [.ref T]))) ∧ ∃ us2 ds2, (upd (upd F6 T (.tup [.str z, .int b'])) D (.lst (us ++ [.ref T]))) D = some (.lst us2) ∧ us2.length = j + 1 ∧ DoAll (tups (upd (upd F6 T (.tup [.str z, .int b'])) D (.lst (us ++ [.ref T])))) us2 ds2 ∧ allDeed ds2 = true ∧ FitAll (3 * (j + 1)) 1 ds2 := fun F6 x16 b' b0 b9 b1 T hT => by
      have eDF6 := x16.keep nD eDF
      have s6 := same_new hT (.tup [.str z, .int b'])
      have eT : (upd F6 T (.tup [.str z, .int b'])) T = some (.tup [.str z, .int b']) := upd_same
      have x67 := TurnB.new x16.now hT (.tup [.str z, .int b'])
      have eDF7 := s6 _ _ eDF6
      generalize upd F6 T (HO.tup [V.str z, .int b']) = F7 at s6 eT x67 eDF7 ⊢
      have ts : TupSame F7 (upd F7 D (.lst (us ++ [.ref T]))) := TupSame.put fun _ e => by rw [eDF7] at e; cases e
      have tsF := ((turn_tup x16 sB8).trans (same_tup s6)).trans ts
      have hz2 : isDeed (.tuple [.str z, .int b']) = true := by
        rcases hz with rfl | rfl | rfl
        · simp [isDeed, leastD, isWh, inB]
        · have e : leastD "times" = some none := by decide +kernel
          simp [isDeed, e, isWh, inB]
        · have e : leastD "rest" = some (some 1) := by decide +kernel
          simp only [isDeed, e, isWh, inB, Bool.and_true, decide_eq_true_eq]
          exact b1 rfl
      have fz : fineStr z = true := by rcases hz with rfl | rfl | rfl <;> decide +kernel
      have fb : b'.natAbs < 10 ^ 40 := Nat.lt_of_le_of_lt (show b'.natAbs ≤ 9 by omega) (by decide)
      refine ⟨turn_put (tF.trans (x16.trans x67)) hD nD _, us ++ [.ref T], ds ++ [.tuple [.str z, .int b']], upd_same, by rw [List.length_append, lus]; rfl, (hds.le tsF.tups).app (.cons (tup_do (ts _ _ eT) (.cons (.str _) (.cons (.int _) .nil))) .nil), by rw [allDeed_app, hok]; simp [allDeed, hz2], ?_⟩
      have hf : Fit 3 1 (.tuple [.str z, .int b']) := ⟨by simp [fine, fineAll, fz, fb], by simp [nodes, nodesAll], by simp [PyData.depth, PyData.depthAll]⟩
      rw [Nat.mul_succ]
      exact hfit.snoc hf
    have eDF2 := x12.keep nD eDF
    refine ⟨_, rfl, ?_⟩
    refine ⟨.inl ⟨rfl, _, SqL.of eDF2⟩, ?_⟩
    refine ⟨_, rfl, _, rfl, rfl, _, rfl, ?_⟩
    rw [dStr]
    by_cases cz : z = "rest"
    · rw [decide_eq_true cz]
      refine (if_pos rfl).mpr ⟨_, rfl, st, 5, n + 2 * (8 - (j + 1)), rfl, x12.now, by decide, by decide, fun a1 F3 a10 a11 x3 => ⟨_, _, rfl, rfl, ?_⟩⟩
      have x16 := x12.trans x3
      have eDF6 := x16.keep nD eDF
      refine ⟨(by show 2 ≤ sizeLine; omega), fun T hT => ?_⟩
      obtain ⟨p1, us2, ds2, p3, p4, p5, p6, p7⟩ := item F3 x16 (1 + a1) (by omega) (by omega) (fun _ => by omega) T hT
      exact ⟨D, us, _, rfl, rfl, by rw [upd_ne (ne_of_none eDF6 hT)]; exact eDF6, by omega, p1, us2, ds2, p3, p4, p5, p6, p7, _, _, rfl⟩
    · rw [decide_eq_false cz]
      refine (if_neg Bool.false_ne_true).mpr ⟨_, rfl, st, 7, n + 2 * (8 - (j + 1)), rfl, x12.now, by decide, by decide, fun a1 F3 a10 a11 x3 => ⟨_, _, rfl, rfl, ?_⟩⟩
      have x16 := x12.trans x3
      have eDF6 := x16.keep nD eDF
      refine ⟨(by show 2 ≤ sizeLine; omega), fun T hT => ?_⟩
      obtain ⟨p1, us2, ds2, p3, p4, p5, p6, p7⟩ := item F3 x16 (a1 - 3) (by omega) (by omega) (fun h => absurd h cz) T hT
      exact ⟨D, us, _, rfl, rfl, by rw [upd_ne (ne_of_none eDF6 hT)]; exact eDF6, by omega, p1, us2, ds2, p3, p4, p5, p6, p7, _, _, rfl⟩
  · obtain ⟨tF, us, ds, eDF, lus, hds, hok, hfit, o3, o4, rfl⟩ := pv
    refine ⟨_, rfl, D, us, rfl, .inl ⟨SqL.of eDF, fun T hT => ?_⟩⟩
    have ld := hds.len
    have s6 := same_new hT (.tup us)
    refine q (.ref T) ds _ ((tF.trans (TurnB.new tF.now hT _)).mono (by omega)) (tup_do upd_same (hds.le (same_tup s6).tups)) (by omega) hok ⟨hfit.ok, Nat.le_trans hfit.few (by omega), hfit.deep⟩
end
end K18
namespace K18
open PySem PySem.Spec PyProof.Rows L2 Gr 
/-- drawn tests -/
def spTe : Sp := fun vs H Q _ => ∃ (st : Addr) (n : Nat), vs = [.ref st] ∧ StB H st (n + 170) ∧ ∀ (v : V) (ts : List PyData) (G : Hp), TurnB st n H G → Do (tups G) v (.tuple ts) → 1 ≤ ts.length → ts.length ≤ 8 → allTest ts = true → FitAll 240 3 ts → Q v G
theorem scLTe : FnScope ["_law_box_here", "_law_found", "_law_k", "_law_word", "_law_number"] ["_law_box_here"] (defScope lTests) := ⟨rfl, rfl, rfl, by decide +kernel, rfl, by decide +kernel, by decide +kernel⟩
section
variable {P : Program} {w : World} {K : PySem.W.Frag} {mg : Str → Option Value} {base : Heap} {f fT fD : Addr} {fd fdT fdD : FuncData}
theorem ok_lte (F : Fun K "_law_tests" "_law_tests" lTests f fd) (TA : Cal P w K mg base 1 "_law_take" ["_law_box_here", "_law_many"] spTake fT fdT) (DE : Cal P w K mg base 2 "_law_deeds" ["_law_box_here"] spDe fD fdD) (m_range : mg "range" = none) (m_tuple : mg "tuple" = none) : FnOk P w K mg base CX0 3 f fd ["_law_box_here"] spTe := by
  refine F.ok scLTe (fun vs H Q E h => ?_) (fun cdv A outer s H vs Q E hr h => ?_)
  · obtain ⟨st, n, rfl, _⟩ := h
    rfl
  obtain ⟨st, n, rfl, hS, q⟩ := h
  refine ⟨_, (pss_cons (ps_set (i := 1) scLTe.nd rfl (Or.inl rfl) (pe_lst pa_nil))
 (pss_cons (ps_for PassesOwn.never rfl (pi_range1 rfl m_range (pa_cons (pe_ix ix_list (pe_lst (pa_cons pe_int (pa_cons pe_int (pa_cons pe_int (pa_cons pe_int (pa_cons pe_int pa_nil)))))) (pe_cal TA hr rfl (pa_cons (pv 0) (pa_cons pe_int pa_nil))) (fun _ _ => rfl)) pa_nil)) (pg_name (i := 2) scLTe.nd rfl (Or.inl rfl))
 (pss_cons (ps_set (i := 3) scLTe.nd rfl (Or.inl rfl) (pe_ix ix_list (pe_lst (pa_cons pe_str (pa_cons pe_str (pa_cons pe_str pa_nil)))) (pe_cal TA hr rfl (pa_cons (pv 0) (pa_cons pe_int pa_nil))) (fun _ _ => rfl)))
 (C8.pss_cut (ps_set (i := 4) scLTe.nd rfl (Or.inl rfl) (pe_ifExp (pt_cmpR op_eq (pv 3) pe_str (nomark _)) (pe_op op_add pe_int (pe_cal TA hr rfl (pa_cons (pv 0) (pa_cons pe_int pa_nil)))) (pe_op op_sub (pe_cal TA hr rfl (pa_cons (pv 0) (pa_cons pe_int pa_nil))) pe_int)))
 (pss_one (ps_expr (pe_bm PySem.F.plainAttrs_list PySem.F.slot_list_append PySem.F.type_list_append mt_append (pv 1) (pa_cons (pe_tup (pa_cons (pe_ifExp (pt_cmpR op_eq (pe_cal TA hr rfl (pa_cons (pv 0) (pa_cons pe_int pa_nil))) pe_int (nomark _)) (pe_cal DE hr rfl (pa_cons (pv 0) pa_nil)) (pe_tup pa_nil)) (pa_cons (pv 3) (pa_cons (pv 4) (pa_cons (pe_cmpR op_eq (pe_cal TA hr rfl (pa_cons (pv 0) (pa_cons pe_int pa_nil))) pe_int (nomark _)) pa_nil))))) pa_nil)))))))
 (pss_one (ps_ret (pe_callTy call_tuple_of rfl m_tuple boot_tuple (pa_cons (pv 1) pa_nil)))))), ?_⟩
  have zl := sizeLine_eq
  refine ⟨by show 0 ≤ sizeLine; decide, fun D hD => ?_⟩
  obtain ⟨t1, _, nD⟩ := stepB hS hD (.lst [])
  have eD : (upd H D (.lst [])) D = some (.lst []) := upd_same
  generalize upd H D (HO.lst []) = G1 at t1 eD ⊢
  refine ⟨by show 5 ≤ sizeLine; omega, fun L0 hL0 => ?_⟩
  obtain ⟨t2, _, nL0⟩ := stepB t1.now hL0 (.lst [.int 1, .int 1, .int 1, .int 2, .int 8])
  have eL0 : (upd G1 L0 (.lst [.int 1, .int 1, .int 1, .int 2, .int 8])) L0 = some (.lst [.int 1, .int 1, .int 1, .int 2, .int 8]) := upd_same
  generalize upd G1 L0 (HO.lst [.int 1, .int 1, .int 1, .int 2, .int 8]) = G2 at t2 eL0 ⊢
  refine ⟨_, rfl, st, 5, n + 169, rfl, t2.now.mono (by omega), by omega, by omega, fun r G3 r0 r1 t3 => ?_⟩
  obtain ⟨m, hm8, em⟩ : ∃ m : Int, (1 ≤ m ∧ m ≤ 8) ∧ atI [V.int 1, .int 1, .int 1, .int 2, .int 8] r = some (.int m) := by
    obtain ⟨rr, h1, h2⟩ := at_ints [1, 1, 1, 2, 8] r r0 r1
    simp only [List.mem_cons, List.not_mem_nil, or_false] at h1
    rcases h1 with rfl | rfl | rfl | rfl | rfl <;> exact ⟨_, ⟨by decide, by decide⟩, h2⟩
  refine ⟨L0, _, _, .int m, rfl, rfl, SqL.of (t3.keep nL0 eL0), em, m, rfl, by omega, by omega, ?_⟩
  have tt := (t1.trans t2).trans t3
  have eD3 := t3.keep nD (t2.keep nD eD)
  have hmn : m.toNat ≤ 8 ∧ 1 ≤ m.toNat := by omega
  refine for_range (fun j σ F => TurnB st (n + 21 * (8 - j)) H F ∧ ∃ us ds, F D = some (.lst us) ∧ us.length = j ∧ DoAll (tups F) us ds ∧ allTest ds = true ∧ FitAll (30 * j) 3 ds ∧ ∃ o3 o4 o5, σ = [some (.ref st), some (.ref D), o3, o4, o5]) ?_ (fun j σ F hj pv => ?_) (fun σ F pv => ?_)
  · exact ⟨tt.mono (by omega), [], [], eD3, rfl, .nil, rfl, FitAll.nil, _, _, _, rfl⟩
  · obtain ⟨tF, us, ds, eDF, lus, hds, hok, hfit, o3, o4, o5, rfl⟩ := pv
    have sB8 : StB F st (n + 21 * (8 - (j + 1)) + 21) := tF.now.mono (by omega)
    refine ⟨by show 3 ≤ sizeLine; omega, fun L1 hL1 => ?_⟩
    obtain ⟨x1, _, nL1⟩ := stepB sB8 hL1 (.lst [.str "below", .str "parts", .str "is"])
    have eL1 : (upd F L1 (.lst [.str "below", .str "parts", .str "is"])) L1 = some (.lst [.str "below", .str "parts", .str "is"]) := upd_same
    generalize upd F L1 (HO.lst [.str "below", .str "parts", .str "is"]) = F1 at x1 eL1 ⊢
    refine ⟨_, rfl, st, 3, n + 21 * (8 - (j + 1)) + 20, rfl, x1.now, by decide, by decide, fun w1 F2 w10 w11 x2 => ?_⟩
    obtain ⟨wv, hwv, ewv⟩ := at_any [.str "below", .str "parts", .str "is"] w1 w10 w11
    refine ⟨L1, _, _, wv, rfl, rfl, SqL.of (x2.keep nL1 eL1), ewv, ?_⟩
    obtain ⟨z, rfl, hz⟩ : ∃ z : Str, wv = .str z ∧ (z = "below" ∨ z = "parts" ∨ z = "is") := by
      simp only [List.mem_cons, List.not_mem_nil, or_false] at hwv
      rcases hwv with rfl | rfl | rfl
      · exact ⟨_, rfl, .inl rfl⟩
      · exact ⟨_, rfl, .inr (.inl rfl)⟩
      · exact ⟨_, rfl, .inr (.inr rfl)⟩
    have x12 := x1.trans x2
    have item : ∀ (F6 : Hp) (x16 : TurnB st (n + 21 * (8 - (j + 1))) F F6) (vd : V) (dd : List PyData) (b' : Int) (tb : Bool), Do (tups F6) vd (.tuple dd) → dd.length ≤ 8 → allDeed dd = true → FitAll 24 1 dd → -3 ≤ b' → b' ≤ 9 → (z = "parts" → 1 ≤ b') → ∀ T, F6 T = none →
        TurnB st (n + 21 * (8 - (j + 1))) H (upd (upd F6 T (.tup [vd, .str z, .int b', .bl tb])) D (.lst (us ++ [.ref T]))) ∧ ∃ us2 ds2, (upd (upd F6 T (.tup [vd, .str z, .int b', .bl tb])) D (.lst (us ++ [.ref T]))) D = some (.lst us2) ∧ us2.length = j + 1 ∧ DoAll (tups (upd (upd F6 T (.tup [vd, .str z, .int b', .bl tb])) D (.lst (us ++ [.ref T])))) us2 ds2 ∧ allTest ds2 = true ∧ FitAll (30 * (j + 1)) 3 ds2 := fun F6 x16 vd dd b' tb hvd l8 al fd b0 b9 b1 T hT => by
      have eDF6 := x16.keep nD eDF
      have s6 := same_new hT (.tup [vd, .str z, .int b', .bl tb])
      have eT : (upd F6 T (.tup [vd, .str z, .int b', .bl tb])) T = some (.tup [vd, .str z, .int b', .bl tb]) := upd_same
      have x67 := TurnB.new x16.now hT (.tup [vd, .str z, .int b', .bl tb])
      have eDF7 := s6 _ _ eDF6
      generalize upd F6 T (HO.tup [vd, V.str z, .int b', .bl tb]) = F7 at s6 eT x67 eDF7 ⊢
      have ts : TupSame F7 (upd F7 D (.lst (us ++ [.ref T]))) := TupSame.put fun _ e => by rw [eDF7] at e; cases e
      have ts6 := (same_tup s6).trans ts
      have tsF := (turn_tup x16 sB8).trans ts6
      have dds : isDeeds (.tuple dd) = true := by simp [isDeeds, l8, al]
      have hz2 : isTest (.tuple [.tuple dd, .str z, .int b', .bool tb]) = true := by
        have e : ∃ lo, leastT z = some lo ∧ isWh lo none (.int b') = true := by
          rcases hz with rfl | rfl | rfl
          · exact ⟨none, by decide +kernel, rfl⟩
          · exact ⟨some 1, by decide +kernel, by simp only [isWh, inB, Bool.and_true, decide_eq_true_eq]; exact b1 rfl⟩
          · exact ⟨none, by decide +kernel, rfl⟩
        obtain ⟨lo, e1, e2⟩ := e
        simp only [isTest, dds, e1, e2, Bool.and_true]
      have fz : fineStr z = true := by rcases hz with rfl | rfl | rfl <;> decide +kernel
      have fb : b'.natAbs < 10 ^ 40 := Nat.lt_of_le_of_lt (show b'.natAbs ≤ 9 by omega) (by decide)
      refine ⟨turn_put (tF.trans (x16.trans x67)) hD nD _, us ++ [.ref T], ds ++ [.tuple [.tuple dd, .str z, .int b', .bool tb]], upd_same, by rw [List.length_append, lus]; rfl, (hds.le tsF.tups).app (.cons (tup_do (ts _ _ eT) (.cons (hvd.le ts6.tups) (.cons (.str _) (.cons (.int _) (.cons (.bl _) .nil))))) .nil), by rw [allTest_app, hok]; simp [allTest, hz2], ?_⟩
      obtain ⟨f1, f2, f3⟩ := fd
      have hf : Fit 30 3 (.tuple [.tuple dd, .str z, .int b', .bool tb]) := ⟨by simp [fine, fineAll, fz, fb, f1], by simp [nodes, nodesAll]; omega, by simp [PyData.depth, PyData.depthAll]; omega⟩
      rw [Nat.mul_succ]
      exact hfit.snoc hf
    refine ⟨fun σ G => ∃ (o2 : Option V) (b' : Int), TurnB st (n + 21 * (8 - (j + 1)) + 19) F G ∧ -3 ≤ b' ∧ b' ≤ 9 ∧ (z = "parts" → 1 ≤ b') ∧ σ = [some (.ref st), some (.ref D), o2, some (.str z), some (.int b')], ?_, ?_⟩
    · refine ⟨_, rfl, rfl, _, rfl, ?_⟩
      rw [dStr]
      by_cases cz : z = "parts"
      · rw [decide_eq_true cz]
        refine (if_pos rfl).mpr ⟨_, rfl, st, 4, n + 21 * (8 - (j + 1)) + 19, rfl, x12.now, by decide, by decide, fun a1 F3 a10 a11 x3 => ⟨_, _, rfl, rfl, ?_⟩⟩
        exact ⟨_, 1 + a1, x12.trans x3, by omega, by omega, fun _ => by omega, rfl⟩
      · rw [decide_eq_false cz]
        refine (if_neg Bool.false_ne_true).mpr ⟨_, rfl, st, 9, n + 21 * (8 - (j + 1)) + 19, rfl, x12.now, by decide, by decide, fun a1 F3 a10 a11 x3 => ⟨_, _, rfl, rfl, ?_⟩⟩
        exact ⟨_, a1 - 3, x12.trans x3, by omega, by omega, fun h => absurd h cz, rfl⟩
    rintro σ F3 ⟨o2, b', x13, b0, b9, b1, rfl⟩
    have eDF3 := x13.keep nD eDF
    refine ⟨_, rfl, ?_⟩
    refine ⟨.inl ⟨rfl, _, SqL.of eDF3⟩, ?_⟩
    refine ⟨_, rfl, st, 3, n + 21 * (8 - (j + 1)) + 18, rfl, x13.now, by decide, by decide, fun c F4 c0 c1 x4 => ?_⟩
    refine ⟨rfl, _, rfl, ?_⟩
    by_cases cc : decide (V.int c = V.int 0) = true
    · rw [cc]
      refine (if_pos rfl).mpr ⟨_, rfl, st, n + 21 * (8 - (j + 1)) + 1, rfl, x4.now, fun vd dd F6 x6 hvd l8 al fd => ?_⟩
      have x16 := (x13.trans x4).trans x6
      refine ⟨_, rfl, _, rfl, _, rfl, st, 2, n + 21 * (8 - (j + 1)), rfl, x16.now, by decide, by decide, fun c2 F7 c20 c21 x7 => ⟨rfl, (by show 4 ≤ sizeLine; omega), fun T hT => ?_⟩⟩
      have x17 := x16.trans x7
      have eDF7 := x17.keep nD eDF
      obtain ⟨p1, us2, ds2, p3, p4, p5, p6, p7⟩ := item F7 x17 vd dd b' (decide (V.int c2 = V.int 0)) (hvd.le (turn_tup x7 x16.now).tups) l8 al fd b0 b9 b1 T hT
      exact ⟨D, us, _, rfl, rfl, by rw [upd_ne (ne_of_none eDF7 hT)]; exact eDF7, by omega, p1, us2, ds2, p3, p4, p5, p6, p7, _, _, _, rfl⟩
    · rw [Bool.eq_false_iff.mpr cc]
      refine (if_neg Bool.false_ne_true).mpr ⟨by show 0 ≤ sizeLine; omega, fun T0 hT0 => ?_⟩
      have x45 := TurnB.new x4.now hT0 (.tup [])
      have eT0 : (upd F4 T0 (.tup [])) T0 = some (.tup []) := upd_same
      generalize upd F4 T0 (HO.tup []) = F6 at x45 eT0 ⊢
      have x16 := (x13.trans x4).trans x45
      refine ⟨_, rfl, _, rfl, _, rfl, st, 2, n + 21 * (8 - (j + 1)), rfl, x16.now.mono (by omega), by decide, by decide, fun c2 F7 c20 c21 x7 => ⟨rfl, (by show 4 ≤ sizeLine; omega), fun T hT => ?_⟩⟩
      have x17 := x16.trans x7
      have eDF7 := x17.keep nD eDF
      obtain ⟨p1, us2, ds2, p3, p4, p5, p6, p7⟩ := item F7 x17 (.ref T0) [] b' (decide (V.int c2 = V.int 0)) (tup_do (turn_tup x7 x16.now _ _ eT0) .nil) (by decide) rfl ⟨rfl, by simp [nodesAll], by simp [PyData.depthAll]⟩ b0 b9 b1 T hT
      exact ⟨D, us, _, rfl, rfl, by rw [upd_ne (ne_of_none eDF7 hT)]; exact eDF7, by omega, p1, us2, ds2, p3, p4, p5, p6, p7, _, _, _, rfl⟩
  · obtain ⟨tF, us, ds, eDF, lus, hds, hok, hfit, o3, o4, o5, rfl⟩ := pv
    refine ⟨_, rfl, D, us, rfl, .inl ⟨SqL.of eDF, fun T hT => ?_⟩⟩
    have ld := hds.len
    have s6 := same_new hT (.tup us)
    refine q (.ref T) ds _ ((tF.trans (TurnB.new tF.now hT _)).mono (by omega)) (tup_do upd_same (hds.le (same_tup s6).tups)) (by omega) (by omega) hok ⟨hfit.ok, Nat.le_trans hfit.few (by omega), hfit.deep⟩
end
end K18
/-! a datum is the same where one object stays as it is for a while -/
namespace Gr
open PySem PySem.Spec PyProof.Rows L2
section
variable {K : PySem.W.Frag} {H : Hp} {z : Addr} {u : HO} {od : Obj}
theorem frz_at (hz : H z = some u) {a : Addr} {o : HO} (e : H a = some o) : (upd H z (.frz od u)) a = some o ∨ (a = z ∧ o = u ∧ (upd H z (.frz od u)) a = some (.frz od u)) := by
  by_cases c : a = z
  · subst c
    rw [hz] at e
    cases e
    exact .inr ⟨rfl, rfl, upd_same⟩
  · exact .inl (by rw [upd_ne c]; exact e)
theorem rd_frz (hz : H z = some u) (mu : Mut (some u)) {a : Addr} {o : HO} (e : Rd H a o) : Rd (upd H z (.frz od u)) a o := by
  rcases e with e | ⟨o2, e⟩
  · rcases frz_at (od := od) hz e with h | ⟨_, rfl, h⟩
    · exact .inl h
    · exact .inr ⟨od, h⟩
  · rcases frz_at (od := od) hz e with h | ⟨_, rfl, h⟩
    · exact .inr ⟨o2, h⟩
    · exact absurd mu (by intro x; exact x)
theorem DicR.frz (hz : H z = some u) (mu : Mut (some u)) {a : Addr} {kvs : List (V × V)} (h : DicR H a kvs) : DicR (upd H z (.frz od u)) a kvs := by
  cases h with
  | k e =>
    rcases frz_at (od := od) hz e with h | ⟨_, rfl, h⟩
    · exact .k h
    · exact .fk h
  | fk e =>
    rcases frz_at (od := od) hz e with h | ⟨_, rfl, h⟩
    · exact .fk h
    · exact absurd mu (by intro x; exact x)
  | fo e =>
    rcases frz_at (od := od) hz e with h | ⟨_, rfl, h⟩
    · exact .fo h
    · exact absurd mu (by intro x; exact x)
  | o e =>
    rcases frz_at (od := od) hz e with h | ⟨_, rfl, h⟩
    · exact .o h
    · exact .fo h
theorem seqL_frz (hz : H z = some u) (mu : Mut (some u)) {a : Addr} {xs : List V} (h : SqL K H a xs) : SqL K (upd H z (.frz od u)) a xs := h.elim (fun e => .inl (rd_frz hz mu e)) .inr
theorem seqT_frz (hz : H z = some u) (mu : Mut (some u)) {a : Addr} {xs : List V} (h : SqT K H a xs) : SqT K (upd H z (.frz od u)) a xs := h.elim (fun e => .inl (rd_frz hz mu e)) .inr
mutual
theorem Dn.frz (hz : H z = some u) (mu : Mut (some u)) : ∀ (d : PyData) (v : V), Dn K H v d → Dn K (upd H z (.frz od u)) v d
  | .none, _, h => by cases h; exact .non
  | .bool b, _, h => by cases h; exact .bl b
  | .int i, _, h => by cases h; exact .int i
  | .str x, _, h => by cases h; exact .str x
  | .list ds, _, h => by
    cases h with
    | lst hs ha => exact .lst (seqL_frz hz mu hs) (DnAll.frz hz mu ds _ ha)
  | .tuple ds, _, h => by
    cases h with
    | tup hs ha => exact .tup (seqT_frz hz mu hs) (DnAll.frz hz mu ds _ ha)
  | .dict kvs, _, h => by
    cases h with
    | dic hd hk => exact .dic (hd.frz hz mu) (DnKv.frz hz mu kvs _ hk)
theorem DnAll.frz (hz : H z = some u) (mu : Mut (some u)) : ∀ (ds : List PyData) (vs : List V), DnAll K H vs ds → DnAll K (upd H z (.frz od u)) vs ds
  | [], _, h => by cases h; exact .nil
  | d :: ds, _, h => by
    cases h with
    | cons h1 h2 => exact .cons (Dn.frz hz mu d _ h1) (DnAll.frz hz mu ds _ h2)
theorem DnKv.frz (hz : H z = some u) (mu : Mut (some u)) : ∀ (ds : List (PyData × PyData)) (vs : List (V × V)), DnKv K H vs ds → DnKv K (upd H z (.frz od u)) vs ds
  | [], _, h => by cases h; exact .nil
  | (c, d) :: ds, _, h => by
    cases h with
    | cons h1 h2 h3 => exact .cons (Dn.frz hz mu c _ h1) (Dn.frz hz mu d _ h2) (DnKv.frz hz mu ds _ h3)
end
end
end Gr
namespace K18
open PySem PySem.Spec PyProof.Rows L2 Gr 
/-- what is handed in and may be bad (F: the heap without the box) -/
inductive Bd (F : Hp) : V → PyData → Prop
  | lst (a : Addr) (xs : List V) (ds : List PyData) : F a = some (.lst xs) → DoAll (tups F) xs ds → Bd F (.ref a) (.list ds)
  | dic (a : Addr) : F a = some (.dK []) → Bd F (.ref a) (.dict [])
  | oth (v : V) (d : PyData) : Do F v d → isT "list" d = false → Bd F v d
theorem Bd.le {F G : Hp} {v : V} {d : PyData} (h : Bd F v d) (s : Same F G) : Bd G v d := by
  cases h with
  | lst a xs ds e k => exact .lst a xs ds (s _ _ e) (k.le (same_tup s).tups)
  | dic a e => exact .dic a (s _ _ e)
  | oth v d k n => exact .oth v d (k.le s) n
theorem Bd.dn {K : PySem.W.Frag} {F : Hp} {v : V} {d : PyData} (h : Bd F v d) : Dn K F v d := by
  cases h with
  | lst a xs ds e k => exact .lst (SqL.of e) (DqAll.dn' _ _ (k.le tups_le).dq)
  | dic a e => exact .dic (.k e) .nil
  | oth v d k n => exact k.dq.dn
theorem Bd.turn {st : Addr} {n : Nat} {H G : Hp} {v : V} {d : PyData} (h : Bd (offB H st) v d) (t : TurnB st n H G) : Bd (offB G st) v d := h.le t.rest
/-- a list grows -/
theorem Bd.more {K : PySem.W.Frag} {F : Hp} {a : Addr} {ds : List PyData} (h : Bd F (.ref a) (.list ds)) (z : Str) : ∃ xs, F a = some (.lst xs) ∧ xs.length = ds.length ∧ Dn K (upd F a (.lst (xs ++ [.str z]))) (.ref a) (.list (ds ++ [.str z])) := by
  cases h with
  | lst a xs ds e k =>
    refine ⟨xs, e, k.len, .lst (SqL.of upd_same) ?_⟩
    have ts : TupSame F (upd F a (.lst (xs ++ [.str z]))) := TupSame.put fun _ e2 => by rw [e] at e2; cases e2
    exact DqAll.dn' _ _ ((k.app (.cons (.str z) .nil)).le (ts.tups.trans tups_le)).dq
  | oth v d k n => cases n
end K18
namespace K18
open PySem PySem.Spec PyProof.Rows L2 Gr 
def spOdd : Sp := fun vs H Q _ => ∃ (st : Addr) (n : Nat), vs = [.ref st] ∧ StB H st (n + 1) ∧ ∀ (v : V) (d : PyData) (G : Hp), TurnB st n H G → Bd (offB G st) v d → Fit 8 3 d → isDeeds d = false → isTests d = false → d ≠ .tuple [] → (isT "list" d = true → ∀ a, v = .ref a → H a = none) → Q v G
theorem scOdd : FnScope ["_law_box_here"] ["_law_box_here"] (defScope lOdd) := ⟨rfl, rfl, rfl, by decide +kernel, rfl, by decide +kernel, by decide +kernel⟩
section
variable {P : Program} {w : World} {K : PySem.W.Frag} {mg : Str → Option Value} {base : Heap} {f fT : Addr} {fd fdT : FuncData}
theorem ok_odd (F : Fun K "_law_odd" "_law_odd" lOdd f fd) (TA : Cal P w K mg base 1 "_law_take" ["_law_box_here", "_law_many"] spTake fT fdT) : FnOk P w K mg base CX0 2 f fd ["_law_box_here"] spOdd := by
  refine F.ok scOdd (fun vs H Q E h => ?_) (fun cdv A outer s0 H vs Q E hr h => ?_)
  · obtain ⟨st, n, rfl, _⟩ := h
    rfl
  obtain ⟨st, n, rfl, hS, q⟩ := h
  refine ⟨_, (pss_one (ps_ret (pe_ix ix_list (pe_lst (pa_cons pe_non (pa_cons pe_int (pa_cons pe_str (pa_cons (pe_lst pa_nil) (pa_cons (pe_tup (pa_cons pe_str (pa_cons pe_int pa_nil))) (pa_cons pe_bl (pa_cons pe_dnewK (pa_cons (pe_tup (pa_cons (pe_tup pa_nil) pa_nil)) (pa_cons (pe_tup (pa_cons (pe_tup (pa_cons pe_str pa_nil)) pa_nil)) (pa_cons (pe_tup (pa_cons pe_str pa_nil)) (pa_cons (pe_tup (pa_cons (pe_tup (pa_cons pe_non (pa_cons pe_int pa_nil))) pa_nil)) pa_nil)))))))))))) (pe_cal TA hr rfl (pa_cons (pv 0) (pa_cons pe_int pa_nil))) (fun _ _ => rfl)))), ?_⟩
  have zl := sizeLine_eq
  have big : ∀ k : Nat, k ≤ 20 → k ≤ sizeLine := fun k h => by omega
  refine ⟨big 0 (by decide), fun a1 h1 => ?_⟩
  have e1 : (upd H a1 (HO.lst [])) a1 = some (HO.lst []) := upd_same
  have s1 := same_new h1 (HO.lst [])
  generalize upd H a1 (HO.lst []) = H1 at e1 s1 ⊢
  refine ⟨big 2 (by decide), fun a2 h2 => ?_⟩
  have e2 : (upd H1 a2 (HO.tup [V.str "add", V.int 1])) a2 = some (HO.tup [V.str "add", V.int 1]) := upd_same
  have s2 := same_new h2 (HO.tup [V.str "add", V.int 1])
  generalize upd H1 a2 (HO.tup [V.str "add", V.int 1]) = H2 at e2 s2 ⊢
  refine fun a3 h3 => ?_
  have e3 : (upd H2 a3 (HO.dK [])) a3 = some (HO.dK []) := upd_same
  have s3 := same_new h3 (HO.dK [])
  generalize upd H2 a3 (HO.dK []) = H3 at e3 s3 ⊢
  refine ⟨big 0 (by decide), fun a4 h4 => ?_⟩
  have e4 : (upd H3 a4 (HO.tup [])) a4 = some (HO.tup []) := upd_same
  have s4 := same_new h4 (HO.tup [])
  generalize upd H3 a4 (HO.tup []) = H4 at e4 s4 ⊢
  refine ⟨big 1 (by decide), fun a5 h5 => ?_⟩
  have e5 : (upd H4 a5 (HO.tup [V.ref a4])) a5 = some (HO.tup [V.ref a4]) := upd_same
  have s5 := same_new h5 (HO.tup [V.ref a4])
  generalize upd H4 a5 (HO.tup [V.ref a4]) = H5 at e5 s5 ⊢
  refine ⟨big 1 (by decide), fun a6 h6 => ?_⟩
  have e6 : (upd H5 a6 (HO.tup [V.str "add"])) a6 = some (HO.tup [V.str "add"]) := upd_same
  have s6 := same_new h6 (HO.tup [V.str "add"])
  generalize upd H5 a6 (HO.tup [V.str "add"]) = H6 at e6 s6 ⊢
  refine ⟨big 1 (by decide), fun a7 h7 => ?_⟩
  have e7 : (upd H6 a7 (HO.tup [V.ref a6])) a7 = some (HO.tup [V.ref a6]) := upd_same
  have s7 := same_new h7 (HO.tup [V.ref a6])
  generalize upd H6 a7 (HO.tup [V.ref a6]) = H7 at e7 s7 ⊢
  refine ⟨big 1 (by decide), fun a8 h8 => ?_⟩
  have e8 : (upd H7 a8 (HO.tup [V.str "add 1"])) a8 = some (HO.tup [V.str "add 1"]) := upd_same
  have s8 := same_new h8 (HO.tup [V.str "add 1"])
  generalize upd H7 a8 (HO.tup [V.str "add 1"]) = H8 at e8 s8 ⊢
  refine ⟨big 2 (by decide), fun a9 h9 => ?_⟩
  have e9 : (upd H8 a9 (HO.tup [V.non, V.int 1])) a9 = some (HO.tup [V.non, V.int 1]) := upd_same
  have s9 := same_new h9 (HO.tup [V.non, V.int 1])
  generalize upd H8 a9 (HO.tup [V.non, V.int 1]) = H9 at e9 s9 ⊢
  refine ⟨big 1 (by decide), fun a10 h10 => ?_⟩
  have e10 : (upd H9 a10 (HO.tup [V.ref a9])) a10 = some (HO.tup [V.ref a9]) := upd_same
  have s10 := same_new h10 (HO.tup [V.ref a9])
  generalize upd H9 a10 (HO.tup [V.ref a9]) = H10 at e10 s10 ⊢
  refine ⟨big 11 (by decide), fun L hL => ?_⟩
  have sL := same_new hL (.lst [V.non, .int 7, .str "add", .ref a1, .ref a2, .bl true, .ref a3, .ref a5, .ref a7, .ref a8, .ref a10])
  have eL : (upd H10 L (.lst [V.non, .int 7, .str "add", .ref a1, .ref a2, .bl true, .ref a3, .ref a5, .ref a7, .ref a8, .ref a10])) L = some (.lst [V.non, .int 7, .str "add", .ref a1, .ref a2, .bl true, .ref a3, .ref a5, .ref a7, .ref a8, .ref a10]) := upd_same
  generalize upd H10 L (HO.lst [V.non, .int 7, .str "add", .ref a1, .ref a2, .bl true, .ref a3, .ref a5, .ref a7, .ref a8, .ref a10]) = HL at sL eL ⊢
  have c10 := sL
  have c9 := s10.trans c10
  have c8 := s9.trans c9
  have c7 := s8.trans c8
  have c6 := s7.trans c7
  have c5 := s6.trans c6
  have c4 := s5.trans c5
  have c3 := s4.trans c4
  have c2 := s3.trans c3
  have c1 := s2.trans c2
  have c0 := s1.trans c1
  have tL := TurnB.of_same hS c0
  have nst : ∀ {F : Hp} {b : Addr}, Same H F → F b = none → b ≠ st := fun {F b} s e z => (hS.same s).some (z ▸ e)
  have k0 : Same H H := Same.refl H
  have k1 : Same H H1 := k0.trans s1
  have k2 : Same H H2 := k1.trans s2
  have k3 : Same H H3 := k2.trans s3
  have k4 : Same H H4 := k3.trans s4
  have k5 : Same H H5 := k4.trans s5
  have k6 : Same H H6 := k5.trans s6
  have k7 : Same H H7 := k6.trans s7
  have k8 : Same H H8 := k7.trans s8
  have k9 : Same H H9 := k8.trans s9
  have k10 : Same H H10 := k9.trans s10
  have nL := nst k10 hL
  refine ⟨_, rfl, st, 11, n, rfl, tL.now, by decide, by decide, fun r G r0 r1 t => ?_⟩
  obtain ⟨v, hv, ea⟩ := at_any [V.non, .int 7, .str "add", .ref a1, .ref a2, .bl true, .ref a3, .ref a5, .ref a7, .ref a8, .ref a10] r r0 r1
  refine ⟨L, _, _, v, rfl, rfl, SqL.of (t.keep nL eL), ea, ?_⟩
  have look : ∀ {b : Addr} {o : HO}, b ≠ st → HL b = some o → (offB G st) b = some o := fun {b o} nb e => by rw [offB_ne nb]; exact t.keep nb e
  have w1 := look (nst k0 h1) (c1 _ _ e1)
  have w2 := look (nst k1 h2) (c2 _ _ e2)
  have w3 := look (nst k2 h3) (c3 _ _ e3)
  have w4 := look (nst k3 h4) (c4 _ _ e4)
  have w5 := look (nst k4 h5) (c5 _ _ e5)
  have w6 := look (nst k5 h6) (c6 _ _ e6)
  have w7 := look (nst k6 h7) (c7 _ _ e7)
  have w8 := look (nst k7 h8) (c8 _ _ e8)
  have w9 := look (nst k8 h9) (c9 _ _ e9)
  have w10 := look (nst k9 h10) (c10 _ _ e10)
  have fin : ∀ (d : PyData), Bd (offB G st) v d → Fit 8 3 d → isDeeds d = false → isTests d = false → d ≠ .tuple [] → (isT "list" d = true → ∀ a, v = .ref a → H a = none) → Q v G := fun d a b c e f g => q v d G (tL.trans t) a b c e f g
  have fit : ∀ d : PyData, (fine d && decide (nodes d ≤ 8) && decide (d.depth ≤ 3)) = true → Fit 8 3 d := fun d h => by
    simp only [Bool.and_eq_true, decide_eq_true_eq] at h
    exact ⟨h.1.1, h.1.2, h.2⟩
  simp only [List.mem_cons, List.not_mem_nil, or_false] at hv
  rcases hv with rfl | rfl | rfl | rfl | rfl | rfl | rfl | rfl | rfl | rfl | rfl
  · exact fin (.none) (.oth _ _ .non rfl) (fit _ (by decide +kernel)) (by decide +kernel) (by decide +kernel) (fun z => by cases z) (fun z => by simp [isT, isN, tyn] at z)
  · exact fin (.int 7) (.oth _ _ (.int 7) rfl) (fit _ (by decide +kernel)) (by decide +kernel) (by decide +kernel) (fun z => by cases z) (fun z => by simp [isT, isN, tyn] at z)
  · exact fin (.str "add") (.oth _ _ (.str _) rfl) (fit _ (by decide +kernel)) (by decide +kernel) (by decide +kernel) (fun z => by cases z) (fun z => by simp [isT, isN, tyn] at z)
  · exact fin (.list []) (.lst a1 [] [] w1 .nil) (fit _ (by decide +kernel)) (by decide +kernel) (by decide +kernel) (fun z => by cases z) (fun _ a e => by cases e; exact h1)
  · exact fin (.tuple [.str "add", .int 1]) (.oth _ _ (.tup w2 (.cons (.str _) (.cons (.int 1) .nil))) rfl) (fit _ (by decide +kernel)) (by decide +kernel) (by decide +kernel) (fun z => by cases z) (fun z => by simp [isT, isN, tyn] at z)
  · exact fin (.bool true) (.oth _ _ (.bl true) rfl) (fit _ (by decide +kernel)) (by decide +kernel) (by decide +kernel) (fun z => by cases z) (fun z => by simp [isT, isN, tyn] at z)
  · exact fin (.dict []) (.dic a3 w3) (fit _ (by decide +kernel)) (by decide +kernel) (by decide +kernel) (fun z => by cases z) (fun z => by simp [isT, isN, tyn] at z)
  · exact fin (.tuple [.tuple []]) (.oth _ _ (.tup w5 (.cons (.tup w4 .nil) .nil)) rfl) (fit _ (by decide +kernel)) (by decide +kernel) (by decide +kernel) (fun z => by cases z) (fun z => by simp [isT, isN, tyn] at z)
  · exact fin (.tuple [.tuple [.str "add"]]) (.oth _ _ (.tup w7 (.cons (.tup w6 (.cons (.str _) .nil)) .nil)) rfl) (fit _ (by decide +kernel)) (by decide +kernel) (by decide +kernel) (fun z => by cases z) (fun z => by simp [isT, isN, tyn] at z)
  · exact fin (.tuple [.str "add 1"]) (.oth _ _ (.tup w8 (.cons (.str _) .nil)) rfl) (fit _ (by decide +kernel)) (by decide +kernel) (by decide +kernel) (fun z => by cases z) (fun z => by simp [isT, isN, tyn] at z)
  · exact fin (.tuple [.tuple [.none, .int 1]]) (.oth _ _ (.tup w10 (.cons (.tup w9 (.cons .non (.cons (.int 1) .nil))) .nil)) rfl) (fit _ (by decide +kernel)) (by decide +kernel) (by decide +kernel) (fun z => by cases z) (fun z => by simp [isT, isN, tyn] at z)
end
end K18
/-! slices and sums of tuples, as lists of values -/
namespace Gr
open PySem PySem.Spec PyProof.Rows L2
theorem cutV_to (xs : List V) (i : Nat) : cutV xs none (some (i : Int)) = xs.take i := by
  unfold cutV
  rw [HT.sIx_none, HT.sIx_nat, Nat.sub_zero, List.drop_zero]
  by_cases h : i ≤ xs.length
  · rw [Nat.min_eq_left h]
  · rw [Nat.min_eq_right (by omega), List.take_of_length_le (Nat.le_refl _), List.take_of_length_le (by omega)]
theorem cutV_from (xs : List V) (i : Nat) : cutV xs (some (i : Int)) none = xs.drop i := by
  unfold cutV
  rw [HT.sIx_none, HT.sIx_nat]
  by_cases h : i ≤ xs.length
  · rw [Nat.min_eq_left h, List.take_of_length_le]
    rw [List.length_drop]
    omega
  · rw [Nat.min_eq_right (by omega), List.drop_of_length_le (Nat.le_refl _), List.drop_of_length_le (by omega)]
    simp
theorem slT_any {K : PySem.W.Frag} {H : Hp} {a : Addr} {xs : List V} {lo hi : Option Int} {Q : VK} (h : H a = some (.tup xs)) (k : ∀ b G, Same H G → G b = some (.tup (cutV xs lo hi)) → Q (.ref b) G) : rSlA K (.ref a) lo hi H Q := by
  refine ⟨a, xs, rfl, SqT.of h, fun w => k a H (Same.refl _) ?_, fun _ p hp => k p _ (same_new hp _) upd_same⟩
  have e : cutV xs lo hi = xs := by
    unfold cutV
    rw [w.1, w.2]
    simp
  rw [e]
  exact h
theorem slT_take {K : PySem.W.Frag} {H : Hp} {a : Addr} {xs : List V} {i : Nat} {Q : VK} (h : H a = some (.tup xs)) (k : ∀ b G, Same H G → G b = some (.tup (xs.take i)) → Q (.ref b) G) : rSlA K (.ref a) none (some (i : Int)) H Q := slT_any h fun b G s e => k b G s (by rw [cutV_to] at e; exact e)
theorem slT_drop {K : PySem.W.Frag} {H : Hp} {a : Addr} {xs : List V} {i : Nat} {Q : VK} (h : H a = some (.tup xs)) (k : ∀ b G, Same H G → G b = some (.tup (xs.drop i)) → Q (.ref b) G) : rSlA K (.ref a) (some (i : Int)) none H Q := slT_any h fun b G s e => k b G s (by rw [cutV_from] at e; exact e)
theorem catT_any {K : PySem.W.Frag} {H : Hp} {a b : Addr} {xs ys : List V} {Q : VK} (h : H a = some (.tup xs)) (h2 : H b = some (.tup ys)) (z : xs.length + ys.length ≤ sizeLine) (k : ∀ c G, Same H G → G c = some (.tup (xs ++ ys)) → Q (.ref c) G) : rCatA K (.ref a) (.ref b) H Q := by
  refine ⟨a, b, xs, ys, rfl, rfl, SqT.of h, SqT.of h2, z, fun e => k b H (Same.refl _) (by rw [e]; exact h2), fun _ e => k a H (Same.refl _) (by rw [e, List.append_nil]; exact h), fun _ _ p hp => k p _ (same_new hp _) upd_same⟩
end Gr
namespace K18
open PySem PySem.Spec PyProof.Rows L2 Gr 
def spBadD : Sp := fun vs H Q _ => ∃ (st : Addr) (n : Nat), vs = [.ref st] ∧ StB H st (n + 21) ∧ ∀ (v : V) (d : PyData) (G : Hp), TurnB st n H G → Bd (offB G st) v d → Fit 60 4 d → isDeeds d = false → d ≠ .tuple [] → (isT "list" d = true → ∀ a, v = .ref a → H a = none) → Q v G
theorem scBadD : FnScope ["_law_box_here", "_law_doings", "_law_at", "_law_odd_here", "_law_some"] ["_law_box_here"] (defScope lBadDeeds) := ⟨rfl, rfl, rfl, by decide +kernel, rfl, by decide +kernel, by decide +kernel⟩
theorem Fit.of {n p : Nat} {d : PyData} (h : (fine d && decide (nodes d ≤ n) && decide (d.depth ≤ p)) = true) : Fit n p d := by
  simp only [Bool.and_eq_true, decide_eq_true_eq] at h
  exact ⟨h.1.1, h.1.2, h.2⟩
theorem doAll_turn {st : Addr} {n : Nat} {H : Hp} {us : List V} {ds : List PyData} (h : DoAll (tups H) us ds) (s : StB H st n) : DoAll (offB H st) us ds := h.le fun b o e => by
  obtain ⟨e1, ws, rfl⟩ := tups_to e
  rw [offB_ne (tupB_ne s e1)]
  exact e1
theorem FitAll.mono {n p n' p' : Nat} {ds : List PyData} (h : FitAll n p ds) (hn : n ≤ n') (hp : p ≤ p') : FitAll n' p' ds := ⟨h.ok, Nat.le_trans h.few hn, Nat.le_trans h.deep hp⟩
/-- an odd one among the deeds -/
theorem odd_in {ds : List PyData} {d : PyData} (k : Nat) (h : isDeed d = false) : isDeeds (.tuple (ds.take k ++ [d] ++ ds.drop k)) = false := by
  simp [isDeeds, allDeed_app, allDeed, h]
theorem fitAll_take {n p : Nat} {ds : List PyData} (h : FitAll n p ds) {d : PyData} {m : Nat} (hd : Fit m p d) (k : Nat) : FitAll (n + m) p (ds.take k ++ [d] ++ ds.drop k) := by
  have e : ∀ xs ys : List PyData, fineAll (xs ++ ys) = (fineAll xs && fineAll ys) := fun xs ys => by
    induction xs with
    | nil => simp [fineAll]
    | cons x xs ih => simp [fineAll, ih, Bool.and_assoc]
  have e2 : ∀ xs ys : List PyData, nodesAll (xs ++ ys) = nodesAll xs + nodesAll ys := fun xs ys => by
    induction xs with
    | nil => simp [nodesAll]
    | cons x xs ih => simp [nodesAll, ih, Nat.add_assoc]
  have e3 : ∀ xs ys : List PyData, PyData.depthAll (xs ++ ys) = max (PyData.depthAll xs) (PyData.depthAll ys) := fun xs ys => by
    induction xs with
    | nil => simp [PyData.depthAll]
    | cons x xs ih => simp [PyData.depthAll, ih, Nat.max_assoc]
  obtain ⟨f1, f2, f3⟩ := h
  obtain ⟨g1, g2, g3⟩ := hd
  have s : ds = ds.take k ++ ds.drop k := (List.take_append_drop k ds).symm
  have f1' := f1
  have f2' := f2
  have f3' := f3
  rw [s, e] at f1'
  rw [s, e2] at f2'
  rw [s, e3] at f3'
  rw [Bool.and_eq_true] at f1'
  refine ⟨?_, ?_, ?_⟩
  · rw [e, e]; simp [fineAll, f1'.1, f1'.2, g1]
  · rw [e2, e2]; simp only [nodesAll]; omega
  · rw [e3, e3]; simp only [PyData.depthAll]; omega
section
variable {P : Program} {w : World} {K : PySem.W.Frag} {mg : Str → Option Value} {base : Heap} {f fT fD fO : Addr} {fd fdT fdD fdO : FuncData}
theorem ok_badD (F : Fun K "_law_bad_deeds" "_law_bad_deeds" lBadDeeds f fd) (TA : Cal P w K mg base 1 "_law_take" ["_law_box_here", "_law_many"] spTake fT fdT) (DE : Cal P w K mg base 2 "_law_deeds" ["_law_box_here"] spDe fD fdD) (OD : Cal P w K mg base 2 "_law_odd" ["_law_box_here"] spOdd fO fdO) (m_len : mg "len" = none) (m_list : mg "list" = none) : FnOk P w K mg base CX0 3 f fd ["_law_box_here"] spBadD := by
  refine F.ok scBadD (fun vs H Q E h => ?_) (fun cdv A outer s0 H vs Q E hr h => ?_)
  · obtain ⟨st, n, rfl, _⟩ := h
    rfl
  obtain ⟨st, n, rfl, hS, q⟩ := h
  refine ⟨_, (pss_cons (ps_set (i := 1) scBadD.nd rfl (Or.inl rfl) (pe_cal DE hr rfl (pa_cons (pv 0) pa_nil)))
 (pss_cons (ps_set (i := 2) scBadD.nd rfl (Or.inl rfl) (pe_cal TA hr rfl (pa_cons (pv 0) (pa_cons (pe_op op_add (pe_callB call_len_seq rfl m_len PySem.boot_len (pa_cons (pv 1) pa_nil)) pe_int) pa_nil))))
 (pss_cons (ps_set (i := 3) scBadD.nd rfl (Or.inl rfl) (pe_lst (pa_cons (pe_tup (pa_cons pe_str (pa_cons pe_bl pa_nil))) (pa_cons (pe_tup (pa_cons pe_str (pa_cons pe_str pa_nil))) (pa_cons (pe_tup (pa_cons pe_str (pa_cons pe_int pa_nil))) (pa_cons (pe_tup (pa_cons pe_str (pa_cons (pe_un un_neg pe_int) pa_nil))) (pa_cons (pe_tup (pa_cons pe_str (pa_cons pe_int pa_nil))) (pa_cons (pe_tup (pa_cons pe_str (pa_cons pe_int (pa_cons pe_int pa_nil)))) (pa_cons (pe_lst (pa_cons pe_str (pa_cons pe_int pa_nil))) pa_nil)))))))))
 (pss_cons (ps_set (i := 4) scBadD.nd rfl (Or.inl rfl) (pe_lst (pa_cons (pe_op op_catA (pe_op op_catA (pe_slice sl_tupA (pv 1) po_none (po_some (pv 2))) (pe_tup (pa_cons (pe_ix ix_list (pv 3) (pe_cal TA hr rfl (pa_cons (pv 0) (pa_cons pe_int pa_nil))) (fun _ _ => rfl)) pa_nil))) (pe_slice sl_tupA (pv 1) (po_some (pv 2)) po_none)) (pa_cons (pe_callTy call_list_of rfl m_list boot_list (pa_cons (pv 1) pa_nil)) (pa_cons (pe_op op_repT (pe_tup (pa_cons (pe_tup (pa_cons pe_str (pa_cons pe_int pa_nil))) pa_nil)) pe_int) (pa_cons (pe_cal OD hr rfl (pa_cons (pv 0) pa_nil)) pa_nil))))))
 (pss_one (ps_ret (pe_ix ix_list (pv 4) (pe_cal TA hr rfl (pa_cons (pv 0) (pa_cons pe_int pa_nil))) (fun _ _ => rfl)))))))), ?_⟩
  have zl := sizeLine_eq
  have big : ∀ k : Nat, k ≤ 20 → k ≤ sizeLine := fun k h => by omega
  refine ⟨_, rfl, st, n + 4, rfl, hS, fun vD ds G0 t0 hD l8 al ft => ?_⟩
  obtain ⟨T0, us, rfl, eT0, hus⟩ := tup_doto hD
  have lus := hus.len
  refine ⟨_, rfl, _, rfl, T0, us, rfl, .inr (SqT.of eT0), _, _, rfl, rfl, st, _, n + 3, rfl, t0.now, by omega, by omega, fun at_ G1 p0 p1 t1 => ?_⟩
  refine ⟨big 2 (by decide), fun a1 h1 => ?_⟩
  have e1 : (upd G1 a1 (HO.tup [V.str "add", V.bl true])) a1 = some (HO.tup [V.str "add", V.bl true]) := upd_same
  have s1 := same_new h1 (HO.tup [V.str "add", V.bl true])
  generalize upd G1 a1 (HO.tup [V.str "add", V.bl true]) = H1 at e1 s1 ⊢
  refine ⟨big 2 (by decide), fun a2 h2 => ?_⟩
  have e2 : (upd H1 a2 (HO.tup [V.str "add", V.str "1"])) a2 = some (HO.tup [V.str "add", V.str "1"]) := upd_same
  have s2 := same_new h2 (HO.tup [V.str "add", V.str "1"])
  generalize upd H1 a2 (HO.tup [V.str "add", V.str "1"]) = H2 at e2 s2 ⊢
  refine ⟨big 2 (by decide), fun a3 h3 => ?_⟩
  have e3 : (upd H2 a3 (HO.tup [V.str "rest", V.int 0])) a3 = some (HO.tup [V.str "rest", V.int 0]) := upd_same
  have s3 := same_new h3 (HO.tup [V.str "rest", V.int 0])
  generalize upd H2 a3 (HO.tup [V.str "rest", V.int 0]) = H3 at e3 s3 ⊢
  refine ⟨_, rfl, big 2 (by decide), fun a4 h4 => ?_⟩
  have e4 : (upd H3 a4 (HO.tup [V.str "rest", V.int (-2)])) a4 = some (HO.tup [V.str "rest", V.int (-2)]) := upd_same
  have s4 := same_new h4 (HO.tup [V.str "rest", V.int (-2)])
  generalize upd H3 a4 (HO.tup [V.str "rest", V.int (-2)]) = H4 at e4 s4 ⊢
  refine ⟨big 2 (by decide), fun a5 h5 => ?_⟩
  have e5 : (upd H4 a5 (HO.tup [V.str "less", V.int 1])) a5 = some (HO.tup [V.str "less", V.int 1]) := upd_same
  have s5 := same_new h5 (HO.tup [V.str "less", V.int 1])
  generalize upd H4 a5 (HO.tup [V.str "less", V.int 1]) = H5 at e5 s5 ⊢
  refine ⟨big 3 (by decide), fun a6 h6 => ?_⟩
  have e6 : (upd H5 a6 (HO.tup [V.str "add", V.int 1, V.int 2])) a6 = some (HO.tup [V.str "add", V.int 1, V.int 2]) := upd_same
  have s6 := same_new h6 (HO.tup [V.str "add", V.int 1, V.int 2])
  generalize upd H5 a6 (HO.tup [V.str "add", V.int 1, V.int 2]) = H6 at e6 s6 ⊢
  refine ⟨big 2 (by decide), fun a7 h7 => ?_⟩
  have e7 : (upd H6 a7 (HO.lst [V.str "add", V.int 1])) a7 = some (HO.lst [V.str "add", V.int 1]) := upd_same
  have s7 := same_new h7 (HO.lst [V.str "add", V.int 1])
  generalize upd H6 a7 (HO.lst [V.str "add", V.int 1]) = H7 at e7 s7 ⊢
  refine ⟨big 7 (by decide), fun L hL => ?_⟩
  have eL : (upd H7 L (.lst [V.ref a1, V.ref a2, V.ref a3, V.ref a4, V.ref a5, V.ref a6, V.ref a7])) L = some (.lst [V.ref a1, V.ref a2, V.ref a3, V.ref a4, V.ref a5, V.ref a6, V.ref a7]) := upd_same
  have sL := same_new hL (.lst [V.ref a1, V.ref a2, V.ref a3, V.ref a4, V.ref a5, V.ref a6, V.ref a7])
  generalize upd H7 L (HO.lst [V.ref a1, V.ref a2, V.ref a3, V.ref a4, V.ref a5, V.ref a6, V.ref a7]) = HL at sL eL ⊢
  have c7 := sL
  have c6 := s7.trans c7
  have c5 := s6.trans c6
  have c4 := s5.trans c5
  have c3 := s4.trans c4
  have c2 := s3.trans c3
  have c1 := s2.trans c2
  have c0 := s1.trans c1
  have k0 : Same G1 G1 := Same.refl G1
  have k1 : Same G1 H1 := k0.trans s1
  have k2 : Same G1 H2 := k1.trans s2
  have k3 : Same G1 H3 := k2.trans s3
  have k4 : Same G1 H4 := k3.trans s4
  have k5 : Same G1 H5 := k4.trans s5
  have k6 : Same G1 H6 := k5.trans s6
  have k7 : Same G1 H7 := k6.trans s7
  have nst : ∀ {F : Hp} {b : Addr}, Same G1 F → F b = none → b ≠ st := fun {F b} s e z => (t1.now.same s).some (z ▸ e)
  have nL := nst k7 hL
  have tL : TurnB st (n + 3) H HL := (t0.trans t1).trans (TurnB.of_same t1.now c0)
  obtain ⟨k, rfl⟩ : ∃ k : Nat, at_ = (k : Nat) := ⟨at_.toNat, by omega⟩
  have kl : k ≤ us.length := by omega
  have eT : HL T0 = some (.tup us) := c0 _ _ (t1.keep (tupB_ne t0.now eT0) eT0)
  have husL : DoAll (tups HL) us ds := hus.le ((turn_tup t1 t0.now).trans (same_tup c0)).tups
  have n1 := nst k0 h1
  have w1 := c1 _ _ e1
  have n2 := nst k1 h2
  have w2 := c2 _ _ e2
  have n3 := nst k2 h3
  have w3 := c3 _ _ e3
  have n4 := nst k3 h4
  have w4 := c4 _ _ e4
  have n5 := nst k4 h5
  have w5 := c5 _ _ e5
  have n6 := nst k5 h6
  have w6 := c6 _ _ e6
  have n7 := nst k6 h7
  have w7 := c7 _ _ e7
  -- the four
  refine ⟨_, rfl, _, rfl, _, rfl, slT_take eT fun b1 F1 z1 eb1 => ?_⟩
  refine ⟨_, rfl, _, rfl, st, 7, n + 2, rfl, (tL.now.same z1).mono (by omega), by decide, by decide, fun r F2 r0 r1 t2 => ?_⟩
  obtain ⟨vo, hvo, eo⟩ := at_any [V.ref a1, V.ref a2, V.ref a3, V.ref a4, V.ref a5, V.ref a6, V.ref a7] r r0 r1
  have tF1 : TurnB st (n + 3) HL F1 := TurnB.of_same tL.now z1
  have tL2 := tF1.trans t2
  refine ⟨L, _, _, vo, rfl, rfl, SqL.of (tL2.keep nL eL), eo, big 1 (by decide), fun b2 hb2 => ?_⟩
  have t3 := TurnB.new t2.now hb2 (.tup [vo])
  have eb2 : (upd F2 b2 (.tup [vo])) b2 = some (.tup [vo]) := upd_same
  generalize upd F2 b2 (HO.tup [vo]) = F3 at t3 eb2 ⊢
  have nb1 : b1 ≠ st := tupB_ne tF1.now eb1
  have eb13 := t3.keep nb1 (t2.keep nb1 eb1)
  refine catT_any eb13 eb2 (by rw [List.length_take]; show min k us.length + 1 ≤ sizeLine; omega) fun b3 F4 z4 eb3 => ?_
  have tL4 := (tL2.trans t3).trans (TurnB.of_same t3.now z4)
  have nT : T0 ≠ st := tupB_ne tL.now eT
  have eT4 := tL4.keep nT eT
  refine ⟨_, rfl, _, rfl, _, rfl, ?_⟩
  dsimp only [tNoPart]
  refine slT_drop eT4 fun b4 F5 z5 eb4 => ?_
  have t5 := TurnB.of_same tL4.now z5
  refine catT_any (z5 _ _ eb3) eb4 (by rw [List.length_append, List.length_take, List.length_drop]; show min k us.length + 1 + (us.length - k) ≤ sizeLine; omega) fun b5 F6 z6 eb5 => ?_
  have t6 := t5.trans (TurnB.of_same t5.now z6)
  have tL6 := tL4.trans t6
  refine ⟨_, rfl, T0, us, rfl, .inr (SqT.of (tL6.keep nT eT)), fun b6 hb6 => ?_⟩
  have t7 := TurnB.new tL6.now hb6 (.lst us)
  have eb6 : (upd F6 b6 (.lst us)) b6 = some (.lst us) := upd_same
  have nb6 := tL6.now.ne hb6
  generalize upd F6 b6 (HO.lst us) = F7 at t7 eb6 ⊢
  refine ⟨big 2 (by decide), fun b7 hb7 => ?_⟩
  have t8 := TurnB.new t7.now hb7 (.tup [.str "add", .int 1])
  have eb7 : (upd F7 b7 (.tup [.str "add", .int 1])) b7 = some (.tup [.str "add", .int 1]) := upd_same
  generalize upd F7 b7 (HO.tup [V.str "add", .int 1]) = F8 at t8 eb7 ⊢
  refine ⟨big 1 (by decide), fun b8 hb8 => ?_⟩
  have t9 := TurnB.new t8.now hb8 (.tup [.ref b7])
  have eb8 : (upd F8 b8 (.tup [.ref b7])) b8 = some (.tup [.ref b7]) := upd_same
  generalize upd F8 b8 (HO.tup [V.ref b7]) = F9 at t9 eb8 ⊢
  refine ⟨b8, 9, _, rfl, rfl, SqT.of eb8, (fun z => by cases z), by decide, by decide, (by show 1 ≤ 1000; decide), fun b9 hb9 => ?_⟩
  have t10 := TurnB.new t9.now hb9 (.tup (List.replicate 9 [V.ref b7]).flatten)
  have eb9 : (upd F9 b9 (.tup (List.replicate 9 [V.ref b7]).flatten)) b9 = some (.tup (List.replicate 9 [V.ref b7]).flatten) := upd_same
  have e9 : (9 : Int).toNat = 9 := rfl
  rw [e9]
  generalize upd F9 b9 (HO.tup (List.replicate 9 [V.ref b7]).flatten) = F10 at t10 eb9 ⊢
  have t8n : TurnB st (n + 2) F7 F10 := (t8.trans t9).trans t10
  refine ⟨_, rfl, st, n + 1, rfl, t10.now, fun vO dO F11 t11 bO fO i1 _ neO frO => ?_⟩
  refine ⟨big 4 (by decide), fun LL hLL => ?_⟩
  have t12 := TurnB.new t11.now hLL (.lst [.ref b5, .ref b6, .ref b9, vO])
  have eLL : (upd F11 LL (.lst [.ref b5, .ref b6, .ref b9, vO])) LL = some (.lst [.ref b5, .ref b6, .ref b9, vO]) := upd_same
  have nLL := t11.now.ne hLL
  generalize upd F11 LL (HO.lst [.ref b5, .ref b6, .ref b9, vO]) = F12 at t12 eLL ⊢
  refine ⟨_, rfl, _, rfl, st, 4, n, rfl, t12.now, by decide, by decide, fun r2 F13 r20 r21 t13 => ?_⟩
  obtain ⟨v, hv, ev⟩ := at_any [V.ref b5, .ref b6, .ref b9, vO] r2 r20 r21
  refine ⟨LL, _, _, v, rfl, rfl, SqL.of (t13.keep nLL eLL), ev, ?_⟩
  have t12_13 := t12.trans t13
  have t10_13 := t11.trans t12_13
  have t7_13 := t8n.trans t10_13
  have t6_13 := t7.trans t7_13
  have tAll := (tL.trans tL6).trans t6_13
  have fin : ∀ d : PyData, Bd (offB F13 st) v d → Fit 60 4 d → isDeeds d = false → d ≠ .tuple [] → (isT "list" d = true → ∀ a, v = .ref a → H a = none) → Q v F13 := fun d a b c e g => q v d F13 tAll a b c e g
  have tL13 := tL6.trans t6_13
  have look : ∀ {b : Addr} {o : HO}, b ≠ st → HL b = some o → (offB F13 st) b = some o := fun {b o} nb e => by rw [offB_ne nb]; exact tL13.keep nb e
  have hus13 : DoAll (offB F13 st) us ds := doAll_turn (husL.le (turn_tup tL13 tL.now).tups) tL13.now
  have husT : DoAll (tups (offB F13 st)) us ds := by
    refine (husL.le (turn_tup tL13 tL.now).tups).le fun b o e => ?_
    obtain ⟨e1, ws, rfl⟩ := tups_to e
    exact tups_of (by rw [offB_ne (tupB_ne tL13.now e1)]; exact e1)
  simp only [List.mem_cons, List.not_mem_nil, or_false] at hv
  rcases hv with rfl | rfl | rfl | rfl
  · -- an odd one within
    have nb5 := tupB_ne tL6.now eb5
    have e5 : (offB F13 st) b5 = some (.tup (us.take k ++ [vo] ++ us.drop k)) := by rw [offB_ne nb5]; exact t6_13.keep nb5 eb5
    have one : ∀ d : PyData, Do (offB F13 st) vo d → isDeed d = false → Fit 8 3 d → Q (.ref b5) F13 := fun d hd hi hf => by
      refine fin (.tuple (ds.take k ++ [d] ++ ds.drop k)) (.oth _ _ (.tup e5 (((hus13.take k).app (.cons hd .nil)).app (hus13.drop k))) rfl) ?_ (odd_in k hi) (fun z => by simp at z) (fun z => by simp [isT, isN, tyn] at z)
      exact ((fitAll_take (FitAll.mono (n' := 24) (p' := 3) ft (by decide) (by decide)) hf k).tuple).mono (by decide) (by decide)
    simp only [List.mem_cons, List.not_mem_nil, or_false] at hvo
    rcases hvo with rfl | rfl | rfl | rfl | rfl | rfl | rfl
    · exact one (.tuple [.str "add", .bool true]) (.tup (look n1 w1) (.cons (.str _) (.cons (.bl _) .nil))) (by decide +kernel) (Fit.of (by decide +kernel))
    · exact one (.tuple [.str "add", .str "1"]) (.tup (look n2 w2) (.cons (.str _) (.cons (.str _) .nil))) (by decide +kernel) (Fit.of (by decide +kernel))
    · exact one (.tuple [.str "rest", .int 0]) (.tup (look n3 w3) (.cons (.str _) (.cons (.int _) .nil))) (by decide +kernel) (Fit.of (by decide +kernel))
    · exact one (.tuple [.str "rest", .int (-2)]) (.tup (look n4 w4) (.cons (.str _) (.cons (.int _) .nil))) (by decide +kernel) (Fit.of (by decide +kernel))
    · exact one (.tuple [.str "less", .int 1]) (.tup (look n5 w5) (.cons (.str _) (.cons (.int _) .nil))) (by decide +kernel) (Fit.of (by decide +kernel))
    · exact one (.tuple [.str "add", .int 1, .int 2]) (.tup (look n6 w6) (.cons (.str _) (.cons (.int _) (.cons (.int _) .nil)))) (by decide +kernel) (Fit.of (by decide +kernel))
    · exact one (.list [.str "add", .int 1]) (.lst (look n7 w7) (.cons (.str _) (.cons (.int _) .nil))) (by decide +kernel) (Fit.of (by decide +kernel))
  · -- a list of them
    refine fin (.list ds) (.lst b6 us ds (by rw [offB_ne nb6]; exact t7_13.keep nb6 eb6) husT) ?_ rfl (fun z => by cases z) (fun _ a e => by cases e; exact (tL.trans tL6).grows hb6)
    exact (FitAll.list ft).mono (by decide) (by decide)
  · -- nine
    have nb9 := t9.now.ne hb9
    have nb7 := t7.now.ne hb7
    have e7 : (offB F13 st) b7 = some (.tup [.str "add", .int 1]) := by rw [offB_ne nb7]; exact ((t9.trans t10).trans t10_13).keep nb7 eb7
    have e9' : (offB F13 st) b9 = some (.tup (List.replicate 9 [V.ref b7]).flatten) := by rw [offB_ne nb9]; exact t10_13.keep nb9 eb9
    have d7 : Do (offB F13 st) (.ref b7) (.tuple [.str "add", .int 1]) := .tup e7 (.cons (.str _) (.cons (.int 1) .nil))
    exact fin (.tuple [.tuple [.str "add", .int 1], .tuple [.str "add", .int 1], .tuple [.str "add", .int 1], .tuple [.str "add", .int 1], .tuple [.str "add", .int 1], .tuple [.str "add", .int 1], .tuple [.str "add", .int 1], .tuple [.str "add", .int 1], .tuple [.str "add", .int 1]]) (.oth _ _ (.tup e9' (.cons d7 (.cons d7 (.cons d7 (.cons d7 (.cons d7 (.cons d7 (.cons d7 (.cons d7 (.cons d7 .nil)))))))))) rfl) (Fit.of (by decide +kernel)) (by decide +kernel) (fun z => by cases z) (fun z => by simp [isT, isN, tyn] at z)
  · exact fin dO (bO.turn t12_13) (fO.mono (by decide) (by decide)) i1 neO (fun z a e => ((tL.trans tL6).trans (t7.trans t8n)).grows (frO z a e))
end
end K18
namespace K18
open PySem PySem.Spec PyProof.Rows L2 Gr 
def spBadT : Sp := fun vs H Q _ => ∃ (st : Addr) (n : Nat), vs = [.ref st] ∧ StB H st (n + 174) ∧ ∀ (v : V) (d : PyData) (G : Hp), TurnB st n H G → Bd (offB G st) v d → Fit 400 6 d → isTests d = false → (isT "list" d = true → ∀ a, v = .ref a → H a = none) → Q v G
theorem scBadT : FnScope ["_law_box_here", "_law_probes", "_law_at", "_law_odd_here", "_law_some"] ["_law_box_here"] (defScope lBadTests) := ⟨rfl, rfl, rfl, by decide +kernel, rfl, by decide +kernel, by decide +kernel⟩
theorem odd_inT {ds : List PyData} {d : PyData} (k : Nat) (h : isTest d = false) : isTests (.tuple (ds.take k ++ [d] ++ ds.drop k)) = false := by
  simp [isTests, allTest_app, allTest, h]
section
variable {P : Program} {w : World} {K : PySem.W.Frag} {mg : Str → Option Value} {base : Heap} {f fT fD fO : Addr} {fd fdT fdD fdO : FuncData}
theorem ok_badT (F : Fun K "_law_bad_tests" "_law_bad_tests" lBadTests f fd) (TA : Cal P w K mg base 1 "_law_take" ["_law_box_here", "_law_many"] spTake fT fdT) (TE : Cal P w K mg base 3 "_law_tests" ["_law_box_here"] spTe fD fdD) (OD : Cal P w K mg base 2 "_law_odd" ["_law_box_here"] spOdd fO fdO) (m_len : mg "len" = none) (m_list : mg "list" = none) : FnOk P w K mg base CX0 4 f fd ["_law_box_here"] spBadT := by
  refine F.ok scBadT (fun vs H Q E h => ?_) (fun cdv A outer s0 H vs Q E hr h => ?_)
  · obtain ⟨st, n, rfl, _⟩ := h
    rfl
  obtain ⟨st, n, rfl, hS, q⟩ := h
  refine ⟨_, (pss_cons (ps_set (i := 1) scBadT.nd rfl (Or.inl rfl) (pe_cal TE hr rfl (pa_cons (pv 0) pa_nil)))
 (pss_cons (ps_set (i := 2) scBadT.nd rfl (Or.inl rfl) (pe_cal TA hr rfl (pa_cons (pv 0) (pa_cons (pe_op op_add (pe_callB call_len_seq rfl m_len PySem.boot_len (pa_cons (pv 1) pa_nil)) pe_int) pa_nil))))
 (pss_cons (ps_set (i := 3) scBadT.nd rfl (Or.inl rfl) (pe_lst (pa_cons (pe_tup (pa_cons (pe_tup pa_nil) (pa_cons pe_str (pa_cons pe_int pa_nil)))) (pa_cons (pe_tup (pa_cons (pe_tup pa_nil) (pa_cons pe_str (pa_cons pe_int (pa_cons pe_bl pa_nil))))) (pa_cons (pe_tup (pa_cons (pe_tup pa_nil) (pa_cons pe_str (pa_cons pe_int (pa_cons pe_bl pa_nil))))) (pa_cons (pe_tup (pa_cons (pe_tup pa_nil) (pa_cons pe_str (pa_cons pe_bl (pa_cons pe_bl pa_nil))))) pa_nil))))))
 (pss_cons (ps_set (i := 3) scBadT.nd rfl (Or.inl rfl) (pe_op op_cat (pv 3) (pe_lst (pa_cons (pe_tup (pa_cons (pe_lst pa_nil) (pa_cons pe_str (pa_cons pe_int (pa_cons pe_bl pa_nil))))) (pa_cons (pe_tup (pa_cons (pe_tup pa_nil) (pa_cons pe_str (pa_cons pe_int (pa_cons pe_int pa_nil))))) (pa_cons (pe_tup (pa_cons (pe_tup pa_nil) (pa_cons pe_str (pa_cons pe_int (pa_cons pe_non pa_nil))))) pa_nil))))))
 (pss_cons (ps_set (i := 3) scBadT.nd rfl (Or.inl rfl) (pe_op op_cat (pv 3) (pe_lst (pa_cons (pe_tup (pa_cons (pe_tup (pa_cons (pe_tup (pa_cons pe_str (pa_cons pe_int pa_nil))) pa_nil)) (pa_cons pe_str (pa_cons pe_int (pa_cons pe_bl pa_nil))))) (pa_cons (pe_lst (pa_cons (pe_tup pa_nil) (pa_cons pe_str (pa_cons pe_int (pa_cons pe_bl pa_nil))))) pa_nil)))))
 (pss_cons (ps_set (i := 4) scBadT.nd rfl (Or.inl rfl) (pe_lst (pa_cons (pe_op op_catA (pe_op op_catA (pe_slice sl_tupA (pv 1) po_none (po_some (pv 2))) (pe_tup (pa_cons (pe_ix ix_list (pv 3) (pe_cal TA hr rfl (pa_cons (pv 0) (pa_cons pe_int pa_nil))) (fun _ _ => rfl)) pa_nil))) (pe_slice sl_tupA (pv 1) (po_some (pv 2)) po_none)) (pa_cons (pe_callTy call_list_of rfl m_list boot_list (pa_cons (pv 1) pa_nil)) (pa_cons (pe_op op_repT (pe_tup (pa_cons (pe_tup (pa_cons (pe_tup pa_nil) (pa_cons pe_str (pa_cons pe_int (pa_cons pe_bl pa_nil))))) pa_nil)) pe_int) pa_nil)))))
 (pss_one (ps_ret (pe_ix ix_list (pe_op op_cat (pv 4) (pe_lst (pa_cons (pe_tup pa_nil) (pa_cons (pe_cal OD hr rfl (pa_cons (pv 0) pa_nil)) pa_nil)))) (pe_cal TA hr rfl (pa_cons (pv 0) (pa_cons pe_int pa_nil))) (fun _ _ => rfl)))))))))), ?_⟩
  have zl := sizeLine_eq
  have big : ∀ k : Nat, k ≤ 20 → k ≤ sizeLine := fun k h => by omega
  refine ⟨_, rfl, st, n + 4, rfl, hS, fun vD ds G0 t0 hD l1 l8 al ft => ?_⟩
  obtain ⟨T0, us, rfl, eT0, hus⟩ := tup_doto hD
  have lus := hus.len
  refine ⟨_, rfl, _, rfl, T0, us, rfl, .inr (SqT.of eT0), _, _, rfl, rfl, st, _, n + 3, rfl, t0.now, by omega, by omega, fun at_ G1 p0 p1 t1 => ?_⟩
  refine ⟨big 0 (by decide), fun a1 h1 => ?_⟩
  have e1 : (upd G1 a1 (HO.tup [])) a1 = some (HO.tup []) := upd_same
  have s1 := same_new h1 (HO.tup [])
  generalize upd G1 a1 (HO.tup []) = H1 at e1 s1 ⊢
  refine ⟨big 3 (by decide), fun a2 h2 => ?_⟩
  have e2 : (upd H1 a2 (HO.tup [V.ref a1, V.str "below", V.int 1])) a2 = some (HO.tup [V.ref a1, V.str "below", V.int 1]) := upd_same
  have s2 := same_new h2 (HO.tup [V.ref a1, V.str "below", V.int 1])
  generalize upd H1 a2 (HO.tup [V.ref a1, V.str "below", V.int 1]) = H2 at e2 s2 ⊢
  refine ⟨big 0 (by decide), fun a3 h3 => ?_⟩
  have e3 : (upd H2 a3 (HO.tup [])) a3 = some (HO.tup []) := upd_same
  have s3 := same_new h3 (HO.tup [])
  generalize upd H2 a3 (HO.tup []) = H3 at e3 s3 ⊢
  refine ⟨big 4 (by decide), fun a4 h4 => ?_⟩
  have e4 : (upd H3 a4 (HO.tup [V.ref a3, V.str "parts", V.int 0, V.bl true])) a4 = some (HO.tup [V.ref a3, V.str "parts", V.int 0, V.bl true]) := upd_same
  have s4 := same_new h4 (HO.tup [V.ref a3, V.str "parts", V.int 0, V.bl true])
  generalize upd H3 a4 (HO.tup [V.ref a3, V.str "parts", V.int 0, V.bl true]) = H4 at e4 s4 ⊢
  refine ⟨big 0 (by decide), fun a5 h5 => ?_⟩
  have e5 : (upd H4 a5 (HO.tup [])) a5 = some (HO.tup []) := upd_same
  have s5 := same_new h5 (HO.tup [])
  generalize upd H4 a5 (HO.tup []) = H5 at e5 s5 ⊢
  refine ⟨big 4 (by decide), fun a6 h6 => ?_⟩
  have e6 : (upd H5 a6 (HO.tup [V.ref a5, V.str "above", V.int 1, V.bl true])) a6 = some (HO.tup [V.ref a5, V.str "above", V.int 1, V.bl true]) := upd_same
  have s6 := same_new h6 (HO.tup [V.ref a5, V.str "above", V.int 1, V.bl true])
  generalize upd H5 a6 (HO.tup [V.ref a5, V.str "above", V.int 1, V.bl true]) = H6 at e6 s6 ⊢
  refine ⟨big 0 (by decide), fun a7 h7 => ?_⟩
  have e7 : (upd H6 a7 (HO.tup [])) a7 = some (HO.tup []) := upd_same
  have s7 := same_new h7 (HO.tup [])
  generalize upd H6 a7 (HO.tup []) = H7 at e7 s7 ⊢
  refine ⟨big 4 (by decide), fun a8 h8 => ?_⟩
  have e8 : (upd H7 a8 (HO.tup [V.ref a7, V.str "is", V.bl true, V.bl true])) a8 = some (HO.tup [V.ref a7, V.str "is", V.bl true, V.bl true]) := upd_same
  have s8 := same_new h8 (HO.tup [V.ref a7, V.str "is", V.bl true, V.bl true])
  generalize upd H7 a8 (HO.tup [V.ref a7, V.str "is", V.bl true, V.bl true]) = H8 at e8 s8 ⊢
  refine ⟨big 4 (by decide), fun a9 h9 => ?_⟩
  have e9 : (upd H8 a9 (HO.lst [V.ref a2, V.ref a4, V.ref a6, V.ref a8])) a9 = some (HO.lst [V.ref a2, V.ref a4, V.ref a6, V.ref a8]) := upd_same
  have s9 := same_new h9 (HO.lst [V.ref a2, V.ref a4, V.ref a6, V.ref a8])
  generalize upd H8 a9 (HO.lst [V.ref a2, V.ref a4, V.ref a6, V.ref a8]) = H9 at e9 s9 ⊢
  refine ⟨_, rfl, big 0 (by decide), fun a10 h10 => ?_⟩
  have e10 : (upd H9 a10 (HO.lst [])) a10 = some (HO.lst []) := upd_same
  have s10 := same_new h10 (HO.lst [])
  generalize upd H9 a10 (HO.lst []) = H10 at e10 s10 ⊢
  refine ⟨big 4 (by decide), fun a11 h11 => ?_⟩
  have e11 : (upd H10 a11 (HO.tup [V.ref a10, V.str "is", V.int 1, V.bl true])) a11 = some (HO.tup [V.ref a10, V.str "is", V.int 1, V.bl true]) := upd_same
  have s11 := same_new h11 (HO.tup [V.ref a10, V.str "is", V.int 1, V.bl true])
  generalize upd H10 a11 (HO.tup [V.ref a10, V.str "is", V.int 1, V.bl true]) = H11 at e11 s11 ⊢
  refine ⟨big 0 (by decide), fun a12 h12 => ?_⟩
  have e12 : (upd H11 a12 (HO.tup [])) a12 = some (HO.tup []) := upd_same
  have s12 := same_new h12 (HO.tup [])
  generalize upd H11 a12 (HO.tup []) = H12 at e12 s12 ⊢
  refine ⟨big 4 (by decide), fun a13 h13 => ?_⟩
  have e13 : (upd H12 a13 (HO.tup [V.ref a12, V.str "is", V.int 1, V.int 1])) a13 = some (HO.tup [V.ref a12, V.str "is", V.int 1, V.int 1]) := upd_same
  have s13 := same_new h13 (HO.tup [V.ref a12, V.str "is", V.int 1, V.int 1])
  generalize upd H12 a13 (HO.tup [V.ref a12, V.str "is", V.int 1, V.int 1]) = H13 at e13 s13 ⊢
  refine ⟨big 0 (by decide), fun a14 h14 => ?_⟩
  have e14 : (upd H13 a14 (HO.tup [])) a14 = some (HO.tup []) := upd_same
  have s14 := same_new h14 (HO.tup [])
  generalize upd H13 a14 (HO.tup []) = H14 at e14 s14 ⊢
  refine ⟨big 4 (by decide), fun a15 h15 => ?_⟩
  have e15 : (upd H14 a15 (HO.tup [V.ref a14, V.str "is", V.int 1, V.non])) a15 = some (HO.tup [V.ref a14, V.str "is", V.int 1, V.non]) := upd_same
  have s15 := same_new h15 (HO.tup [V.ref a14, V.str "is", V.int 1, V.non])
  generalize upd H14 a15 (HO.tup [V.ref a14, V.str "is", V.int 1, V.non]) = H15 at e15 s15 ⊢
  refine ⟨big 3 (by decide), fun a16 h16 => ?_⟩
  have e16 : (upd H15 a16 (HO.lst [V.ref a11, V.ref a13, V.ref a15])) a16 = some (HO.lst [V.ref a11, V.ref a13, V.ref a15]) := upd_same
  have s16 := same_new h16 (HO.lst [V.ref a11, V.ref a13, V.ref a15])
  generalize upd H15 a16 (HO.lst [V.ref a11, V.ref a13, V.ref a15]) = H16 at e16 s16 ⊢
  refine ⟨a9, a16, _, _, rfl, rfl, (((((((s10.trans s11).trans s12).trans s13).trans s14).trans s15).trans s16) _ _ e9), e16, big 7 (by decide), fun a17 h17 => ?_⟩
  have e17 : (upd H16 a17 (HO.lst [V.ref a2, V.ref a4, V.ref a6, V.ref a8, V.ref a11, V.ref a13, V.ref a15])) a17 = some (HO.lst [V.ref a2, V.ref a4, V.ref a6, V.ref a8, V.ref a11, V.ref a13, V.ref a15]) := upd_same
  have s17 := same_new h17 (HO.lst [V.ref a2, V.ref a4, V.ref a6, V.ref a8, V.ref a11, V.ref a13, V.ref a15])
  refine (show ∀ Z : Hp → Prop, Z (upd H16 a17 (HO.lst [V.ref a2, V.ref a4, V.ref a6, V.ref a8, V.ref a11, V.ref a13, V.ref a15])) → Z (upd H16 a17 (HO.lst [V.ref a2, V.ref a4, V.ref a6, V.ref a8, V.ref a11, V.ref a13, V.ref a15])) from fun _ z => z) _ ?_
  generalize upd H16 a17 (HO.lst [V.ref a2, V.ref a4, V.ref a6, V.ref a8, V.ref a11, V.ref a13, V.ref a15]) = H17 at e17 s17 ⊢
  refine ⟨_, rfl, big 2 (by decide), fun a18 h18 => ?_⟩
  have e18 : (upd H17 a18 (HO.tup [V.str "rest", V.int 0])) a18 = some (HO.tup [V.str "rest", V.int 0]) := upd_same
  have s18 := same_new h18 (HO.tup [V.str "rest", V.int 0])
  generalize upd H17 a18 (HO.tup [V.str "rest", V.int 0]) = H18 at e18 s18 ⊢
  refine ⟨big 1 (by decide), fun a19 h19 => ?_⟩
  have e19 : (upd H18 a19 (HO.tup [V.ref a18])) a19 = some (HO.tup [V.ref a18]) := upd_same
  have s19 := same_new h19 (HO.tup [V.ref a18])
  generalize upd H18 a19 (HO.tup [V.ref a18]) = H19 at e19 s19 ⊢
  refine ⟨big 4 (by decide), fun a20 h20 => ?_⟩
  have e20 : (upd H19 a20 (HO.tup [V.ref a19, V.str "is", V.int 1, V.bl true])) a20 = some (HO.tup [V.ref a19, V.str "is", V.int 1, V.bl true]) := upd_same
  have s20 := same_new h20 (HO.tup [V.ref a19, V.str "is", V.int 1, V.bl true])
  generalize upd H19 a20 (HO.tup [V.ref a19, V.str "is", V.int 1, V.bl true]) = H20 at e20 s20 ⊢
  refine ⟨big 0 (by decide), fun a21 h21 => ?_⟩
  have e21 : (upd H20 a21 (HO.tup [])) a21 = some (HO.tup []) := upd_same
  have s21 := same_new h21 (HO.tup [])
  generalize upd H20 a21 (HO.tup []) = H21 at e21 s21 ⊢
  refine ⟨big 4 (by decide), fun a22 h22 => ?_⟩
  have e22 : (upd H21 a22 (HO.lst [V.ref a21, V.str "is", V.int 1, V.bl true])) a22 = some (HO.lst [V.ref a21, V.str "is", V.int 1, V.bl true]) := upd_same
  have s22 := same_new h22 (HO.lst [V.ref a21, V.str "is", V.int 1, V.bl true])
  generalize upd H21 a22 (HO.lst [V.ref a21, V.str "is", V.int 1, V.bl true]) = H22 at e22 s22 ⊢
  refine ⟨big 2 (by decide), fun a23 h23 => ?_⟩
  have e23 : (upd H22 a23 (HO.lst [V.ref a20, V.ref a22])) a23 = some (HO.lst [V.ref a20, V.ref a22]) := upd_same
  have s23 := same_new h23 (HO.lst [V.ref a20, V.ref a22])
  generalize upd H22 a23 (HO.lst [V.ref a20, V.ref a22]) = H23 at e23 s23 ⊢
  refine ⟨a17, a23, _, _, rfl, rfl, ((((((s18.trans s19).trans s20).trans s21).trans s22).trans s23) _ _ e17), e23, big 9 (by decide), fun a24 h24 => ?_⟩
  have e24 : (upd H23 a24 (HO.lst [V.ref a2, V.ref a4, V.ref a6, V.ref a8, V.ref a11, V.ref a13, V.ref a15, V.ref a20, V.ref a22])) a24 = some (HO.lst [V.ref a2, V.ref a4, V.ref a6, V.ref a8, V.ref a11, V.ref a13, V.ref a15, V.ref a20, V.ref a22]) := upd_same
  have s24 := same_new h24 (HO.lst [V.ref a2, V.ref a4, V.ref a6, V.ref a8, V.ref a11, V.ref a13, V.ref a15, V.ref a20, V.ref a22])
  refine (show ∀ Z : Hp → Prop, Z (upd H23 a24 (HO.lst [V.ref a2, V.ref a4, V.ref a6, V.ref a8, V.ref a11, V.ref a13, V.ref a15, V.ref a20, V.ref a22])) → Z (upd H23 a24 (HO.lst [V.ref a2, V.ref a4, V.ref a6, V.ref a8, V.ref a11, V.ref a13, V.ref a15, V.ref a20, V.ref a22])) from fun _ z => z) _ ?_
  generalize upd H23 a24 (HO.lst [V.ref a2, V.ref a4, V.ref a6, V.ref a8, V.ref a11, V.ref a13, V.ref a15, V.ref a20, V.ref a22]) = H24 at e24 s24 ⊢
  have c24 : Same H24 H24 := Same.refl _
  have c23 := s24.trans c24
  have c22 := s23.trans c23
  have c21 := s22.trans c22
  have c20 := s21.trans c21
  have c19 := s20.trans c20
  have c18 := s19.trans c19
  have c17 := s18.trans c18
  have c16 := s17.trans c17
  have c15 := s16.trans c16
  have c14 := s15.trans c15
  have c13 := s14.trans c14
  have c12 := s13.trans c13
  have c11 := s12.trans c12
  have c10 := s11.trans c11
  have c9 := s10.trans c10
  have c8 := s9.trans c9
  have c7 := s8.trans c8
  have c6 := s7.trans c7
  have c5 := s6.trans c6
  have c4 := s5.trans c5
  have c3 := s4.trans c4
  have c2 := s3.trans c3
  have c1 := s2.trans c2
  have c0 := s1.trans c1
  have k0 : Same G1 G1 := Same.refl G1
  have k1 : Same G1 H1 := k0.trans s1
  have k2 : Same G1 H2 := k1.trans s2
  have k3 : Same G1 H3 := k2.trans s3
  have k4 : Same G1 H4 := k3.trans s4
  have k5 : Same G1 H5 := k4.trans s5
  have k6 : Same G1 H6 := k5.trans s6
  have k7 : Same G1 H7 := k6.trans s7
  have k8 : Same G1 H8 := k7.trans s8
  have k9 : Same G1 H9 := k8.trans s9
  have k10 : Same G1 H10 := k9.trans s10
  have k11 : Same G1 H11 := k10.trans s11
  have k12 : Same G1 H12 := k11.trans s12
  have k13 : Same G1 H13 := k12.trans s13
  have k14 : Same G1 H14 := k13.trans s14
  have k15 : Same G1 H15 := k14.trans s15
  have k16 : Same G1 H16 := k15.trans s16
  have k17 : Same G1 H17 := k16.trans s17
  have k18 : Same G1 H18 := k17.trans s18
  have k19 : Same G1 H19 := k18.trans s19
  have k20 : Same G1 H20 := k19.trans s20
  have k21 : Same G1 H21 := k20.trans s21
  have k22 : Same G1 H22 := k21.trans s22
  have k23 : Same G1 H23 := k22.trans s23
  have k24 : Same G1 H24 := k23.trans s24
  have nst : ∀ {F : Hp} {b : Addr}, Same G1 F → F b = none → b ≠ st := fun {F b} s e z => (t1.now.same s).some (z ▸ e)
  have tL : TurnB st (n + 3) H H24 := (t0.trans t1).trans (TurnB.of_same t1.now c0)
  obtain ⟨k, rfl⟩ : ∃ k : Nat, at_ = (k : Nat) := ⟨at_.toNat, by omega⟩
  have kl : k ≤ us.length := by omega
  have eT : H24 T0 = some (.tup us) := c0 _ _ (t1.keep (tupB_ne t0.now eT0) eT0)
  have husL : DoAll (tups H24) us ds := hus.le ((turn_tup t1 t0.now).trans (same_tup c0)).tups
  have n1 := nst k0 h1
  have w1 := c1 _ _ e1
  have n2 := nst k1 h2
  have w2 := c2 _ _ e2
  have n3 := nst k2 h3
  have w3 := c3 _ _ e3
  have n4 := nst k3 h4
  have w4 := c4 _ _ e4
  have n5 := nst k4 h5
  have w5 := c5 _ _ e5
  have n6 := nst k5 h6
  have w6 := c6 _ _ e6
  have n7 := nst k6 h7
  have w7 := c7 _ _ e7
  have n8 := nst k7 h8
  have w8 := c8 _ _ e8
  have n9 := nst k8 h9
  have w9 := c9 _ _ e9
  have n10 := nst k9 h10
  have w10 := c10 _ _ e10
  have n11 := nst k10 h11
  have w11 := c11 _ _ e11
  have n12 := nst k11 h12
  have w12 := c12 _ _ e12
  have n13 := nst k12 h13
  have w13 := c13 _ _ e13
  have n14 := nst k13 h14
  have w14 := c14 _ _ e14
  have n15 := nst k14 h15
  have w15 := c15 _ _ e15
  have n16 := nst k15 h16
  have w16 := c16 _ _ e16
  have n17 := nst k16 h17
  have w17 := c17 _ _ e17
  have n18 := nst k17 h18
  have w18 := c18 _ _ e18
  have n19 := nst k18 h19
  have w19 := c19 _ _ e19
  have n20 := nst k19 h20
  have w20 := c20 _ _ e20
  have n21 := nst k20 h21
  have w21 := c21 _ _ e21
  have n22 := nst k21 h22
  have w22 := c22 _ _ e22
  have n23 := nst k22 h23
  have w23 := c23 _ _ e23
  have n24 := nst k23 h24
  have w24 := c24 _ _ e24
  -- the four
  refine ⟨_, rfl, _, rfl, _, rfl, slT_take eT fun b1 F1 z1 eb1 => ?_⟩
  refine ⟨_, rfl, _, rfl, st, 9, n + 2, rfl, (tL.now.same z1).mono (by omega), by decide, by decide, fun r F2 r0 r1 t2 => ?_⟩
  obtain ⟨vo, hvo, eo⟩ := at_any [V.ref a2, V.ref a4, V.ref a6, V.ref a8, V.ref a11, V.ref a13, V.ref a15, V.ref a20, V.ref a22] r r0 r1
  have tF1 : TurnB st (n + 3) H24 F1 := TurnB.of_same tL.now z1
  have tL2 := tF1.trans t2
  refine ⟨a24, _, _, vo, rfl, rfl, SqL.of (tL2.keep n24 w24), eo, big 1 (by decide), fun b2 hb2 => ?_⟩
  have t3 := TurnB.new t2.now hb2 (.tup [vo])
  have eb2 : (upd F2 b2 (.tup [vo])) b2 = some (.tup [vo]) := upd_same
  generalize upd F2 b2 (HO.tup [vo]) = F3 at t3 eb2 ⊢
  have nb1 : b1 ≠ st := tupB_ne tF1.now eb1
  have eb13 := t3.keep nb1 (t2.keep nb1 eb1)
  refine catT_any eb13 eb2 (by rw [List.length_take]; show min k us.length + 1 ≤ sizeLine; omega) fun b3 F4 z4 eb3 => ?_
  have tL4 := (tL2.trans t3).trans (TurnB.of_same t3.now z4)
  have nT : T0 ≠ st := tupB_ne tL.now eT
  have eT4 := tL4.keep nT eT
  refine ⟨_, rfl, _, rfl, _, rfl, ?_⟩
  dsimp only [tNoPart]
  refine slT_drop eT4 fun b4 F5 z5 eb4 => ?_
  have t5 := TurnB.of_same tL4.now z5
  refine catT_any (z5 _ _ eb3) eb4 (by rw [List.length_append, List.length_take, List.length_drop]; show min k us.length + 1 + (us.length - k) ≤ sizeLine; omega) fun b5 F6 z6 eb5 => ?_
  have t6 := t5.trans (TurnB.of_same t5.now z6)
  have tL6 := tL4.trans t6
  refine ⟨_, rfl, T0, us, rfl, .inr (SqT.of (tL6.keep nT eT)), fun b6 hb6 => ?_⟩
  have t7 := TurnB.new tL6.now hb6 (.lst us)
  have eb6 : (upd F6 b6 (.lst us)) b6 = some (.lst us) := upd_same
  have nb6 := tL6.now.ne hb6
  generalize upd F6 b6 (HO.lst us) = F7 at t7 eb6 ⊢
  refine ⟨big 0 (by decide), fun b7 hb7 => ?_⟩
  have t8 := TurnB.new t7.now hb7 (.tup [])
  have eb7 : (upd F7 b7 (.tup [])) b7 = some (.tup []) := upd_same
  generalize upd F7 b7 (HO.tup []) = F8 at t8 eb7 ⊢
  refine ⟨big 4 (by decide), fun b7' hb7' => ?_⟩
  have t8' := TurnB.new t8.now hb7' (.tup [.ref b7, .str "is", .int 1, .bl true])
  have eb7' : (upd F8 b7' (.tup [.ref b7, .str "is", .int 1, .bl true])) b7' = some (.tup [.ref b7, .str "is", .int 1, .bl true]) := upd_same
  generalize upd F8 b7' (HO.tup [V.ref b7, .str "is", .int 1, .bl true]) = F8' at t8' eb7' ⊢
  refine ⟨big 1 (by decide), fun b8 hb8 => ?_⟩
  have t9 := TurnB.new t8'.now hb8 (.tup [.ref b7'])
  have eb8 : (upd F8' b8 (.tup [.ref b7'])) b8 = some (.tup [.ref b7']) := upd_same
  generalize upd F8' b8 (HO.tup [V.ref b7']) = F9 at t9 eb8 ⊢
  refine ⟨b8, 9, _, rfl, rfl, SqT.of eb8, (fun z => by cases z), by decide, by decide, (by show 1 ≤ 1000; decide), fun b9 hb9 => ?_⟩
  have t10 := TurnB.new t9.now hb9 (.tup (List.replicate 9 [V.ref b7']).flatten)
  have eb9 : (upd F9 b9 (.tup (List.replicate 9 [V.ref b7']).flatten)) b9 = some (.tup (List.replicate 9 [V.ref b7']).flatten) := upd_same
  have e9x : (9 : Int).toNat = 9 := rfl
  rw [e9x]
  generalize upd F9 b9 (HO.tup (List.replicate 9 [V.ref b7']).flatten) = F10 at t10 eb9 ⊢
  have t8n : TurnB st (n + 2) F7 F10 := ((t8.trans t8').trans t9).trans t10
  refine ⟨big 3 (by decide), fun L1 hL1 => ?_⟩
  have t11 := TurnB.new t10.now hL1 (.lst [.ref b5, .ref b6, .ref b9])
  have eL1 : (upd F10 L1 (.lst [.ref b5, .ref b6, .ref b9])) L1 = some (.lst [.ref b5, .ref b6, .ref b9]) := upd_same
  have nL1 := t10.now.ne hL1
  generalize upd F10 L1 (HO.lst [.ref b5, .ref b6, .ref b9]) = F11 at t11 eL1 ⊢
  refine ⟨_, rfl, big 0 (by decide), fun b10 hb10 => ?_⟩
  have t12 := TurnB.new t11.now hb10 (.tup [])
  have eb10 : (upd F11 b10 (.tup [])) b10 = some (.tup []) := upd_same
  generalize upd F11 b10 (HO.tup []) = F12 at t12 eb10 ⊢
  refine ⟨_, rfl, st, n + 1, rfl, t12.now, fun vO dO F13 t13 bO fO _ i1 neO frO => ?_⟩
  refine ⟨big 2 (by decide), fun L2 hL2 => ?_⟩
  have t14 := TurnB.new t13.now hL2 (.lst [.ref b10, vO])
  have eL2 : (upd F13 L2 (.lst [.ref b10, vO])) L2 = some (.lst [.ref b10, vO]) := upd_same
  have nL2 := t13.now.ne hL2
  generalize upd F13 L2 (HO.lst [.ref b10, vO]) = F14 at t14 eL2 ⊢
  have t11_14 := (t12.trans t13).trans t14
  refine ⟨L1, L2, _, _, rfl, rfl, t11_14.keep nL1 eL1, eL2, big 5 (by decide), fun LL hLL => ?_⟩
  have t15 := TurnB.new t14.now hLL (.lst [.ref b5, .ref b6, .ref b9, .ref b10, vO])
  have eLL : (upd F14 LL (.lst [.ref b5, .ref b6, .ref b9, .ref b10, vO])) LL = some (.lst [.ref b5, .ref b6, .ref b9, .ref b10, vO]) := upd_same
  have nLL := t14.now.ne hLL
  refine (show ∀ Z : Hp → Prop, Z (upd F14 LL (HO.lst [V.ref b5, .ref b6, .ref b9, .ref b10, vO])) → Z (upd F14 LL (HO.lst [V.ref b5, .ref b6, .ref b9, .ref b10, vO])) from fun _ z => z) _ ?_
  generalize upd F14 LL (HO.lst [V.ref b5, .ref b6, .ref b9, .ref b10, vO]) = F15 at t15 eLL ⊢
  refine ⟨_, rfl, st, 5, n, rfl, t15.now, by decide, by decide, fun r2 F16 r20 r21 t16 => ?_⟩
  obtain ⟨v, hv, ev⟩ := at_any [V.ref b5, .ref b6, .ref b9, .ref b10, vO] r2 r20 r21
  refine ⟨LL, _, _, v, rfl, rfl, SqL.of (t16.keep nLL eLL), ev, ?_⟩
  have t14_16 := (t14.trans t15).trans t16
  have t11_16 := (t11_14.trans t15).trans t16
  have t7_16 := (t8n.trans t11).trans t11_16
  have t6_16 := t7.trans t7_16
  have tL16 := tL6.trans t6_16
  have fin : ∀ d : PyData, Bd (offB F16 st) v d → Fit 400 6 d → isTests d = false → (isT "list" d = true → ∀ a, v = .ref a → H a = none) → Q v F16 := fun d a b c g => q v d F16 (tL.trans tL16) a b c g
  have look : ∀ {b : Addr} {o : HO}, b ≠ st → H24 b = some o → (offB F16 st) b = some o := fun {b o} nb e => by rw [offB_ne nb]; exact tL16.keep nb e
  have hus16 : DoAll (offB F16 st) us ds := doAll_turn (husL.le (turn_tup tL16 tL.now).tups) tL16.now
  have husT : DoAll (tups (offB F16 st)) us ds := by
    refine (husL.le (turn_tup tL16 tL.now).tups).le fun b o e => ?_
    obtain ⟨e1, ws, rfl⟩ := tups_to e
    exact tups_of (by rw [offB_ne (tupB_ne tL16.now e1)]; exact e1)
  simp only [List.mem_cons, List.not_mem_nil, or_false] at hv
  rcases hv with rfl | rfl | rfl | rfl | rfl
  · -- an odd one within
    have nb5 := tupB_ne tL6.now eb5
    have e5 : (offB F16 st) b5 = some (.tup (us.take k ++ [vo] ++ us.drop k)) := by rw [offB_ne nb5]; exact t6_16.keep nb5 eb5
    have one : ∀ d : PyData, Do (offB F16 st) vo d → isTest d = false → Fit 12 5 d → Q (.ref b5) F16 := fun d hd hi hf => by
      refine fin (.tuple (ds.take k ++ [d] ++ ds.drop k)) (.oth _ _ (.tup e5 (((hus16.take k).app (.cons hd .nil)).app (hus16.drop k))) rfl) ?_ (odd_inT k hi) (fun z => by simp [isT, isN, tyn] at z)
      exact ((fitAll_take (FitAll.mono (n' := 240) (p' := 5) ft (by decide) (by decide)) hf k).tuple).mono (by decide) (by decide)
    simp only [List.mem_cons, List.not_mem_nil, or_false] at hvo
    rcases hvo with rfl | rfl | rfl | rfl | rfl | rfl | rfl | rfl | rfl
    · exact one (.tuple [.tuple [], .str "below", .int 1]) (.tup (look n2 w2) (.cons (.tup (look n1 w1) .nil) (.cons (.str _) (.cons (.int _) .nil)))) (by decide +kernel) (Fit.of (by decide +kernel))
    · exact one (.tuple [.tuple [], .str "parts", .int 0, .bool true]) (.tup (look n4 w4) (.cons (.tup (look n3 w3) .nil) (.cons (.str _) (.cons (.int _) (.cons (.bl _) .nil))))) (by decide +kernel) (Fit.of (by decide +kernel))
    · exact one (.tuple [.tuple [], .str "above", .int 1, .bool true]) (.tup (look n6 w6) (.cons (.tup (look n5 w5) .nil) (.cons (.str _) (.cons (.int _) (.cons (.bl _) .nil))))) (by decide +kernel) (Fit.of (by decide +kernel))
    · exact one (.tuple [.tuple [], .str "is", .bool true, .bool true]) (.tup (look n8 w8) (.cons (.tup (look n7 w7) .nil) (.cons (.str _) (.cons (.bl _) (.cons (.bl _) .nil))))) (by decide +kernel) (Fit.of (by decide +kernel))
    · exact one (.tuple [.list [], .str "is", .int 1, .bool true]) (.tup (look n11 w11) (.cons (.lst (look n10 w10) .nil) (.cons (.str _) (.cons (.int _) (.cons (.bl _) .nil))))) (by decide +kernel) (Fit.of (by decide +kernel))
    · exact one (.tuple [.tuple [], .str "is", .int 1, .int 1]) (.tup (look n13 w13) (.cons (.tup (look n12 w12) .nil) (.cons (.str _) (.cons (.int _) (.cons (.int _) .nil))))) (by decide +kernel) (Fit.of (by decide +kernel))
    · exact one (.tuple [.tuple [], .str "is", .int 1, .none]) (.tup (look n15 w15) (.cons (.tup (look n14 w14) .nil) (.cons (.str _) (.cons (.int _) (.cons .non .nil))))) (by decide +kernel) (Fit.of (by decide +kernel))
    · exact one (.tuple [.tuple [.tuple [.str "rest", .int 0]], .str "is", .int 1, .bool true]) (.tup (look n20 w20) (.cons (.tup (look n19 w19) (.cons (.tup (look n18 w18) (.cons (.str _) (.cons (.int _) .nil))) .nil)) (.cons (.str _) (.cons (.int _) (.cons (.bl _) .nil))))) (by decide +kernel) (Fit.of (by decide +kernel))
    · exact one (.list [.tuple [], .str "is", .int 1, .bool true]) (.lst (look n22 w22) (.cons (.tup (look n21 w21) .nil) (.cons (.str _) (.cons (.int _) (.cons (.bl _) .nil))))) (by decide +kernel) (Fit.of (by decide +kernel))
  · -- a list of them
    refine fin (.list ds) (.lst b6 us ds (by rw [offB_ne nb6]; exact t7_16.keep nb6 eb6) husT) ?_ rfl (fun _ a e => by cases e; exact (tL.trans tL6).grows hb6)
    exact (FitAll.list ft).mono (by decide) (by decide)
  · -- nine
    have nb9 := t9.now.ne hb9
    have nb7 := t7.now.ne hb7
    have nb7' := t8.now.ne hb7'
    have t10_16 := t11.trans t11_16
    have e7 : (offB F16 st) b7 = some (.tup []) := by rw [offB_ne nb7]; exact (((t8'.trans t9).trans t10).trans t10_16).keep nb7 eb7
    have e7' : (offB F16 st) b7' = some (.tup [.ref b7, .str "is", .int 1, .bl true]) := by rw [offB_ne nb7']; exact ((t9.trans t10).trans t10_16).keep nb7' eb7'
    have e9' : (offB F16 st) b9 = some (.tup (List.replicate 9 [V.ref b7']).flatten) := by rw [offB_ne nb9]; exact t10_16.keep nb9 eb9
    have d7 : Do (offB F16 st) (.ref b7') (.tuple [.tuple [], .str "is", .int 1, .bool true]) := .tup e7' (.cons (.tup e7 .nil) (.cons (.str _) (.cons (.int 1) (.cons (.bl true) .nil))))
    exact fin (.tuple [.tuple [.tuple [], .str "is", .int 1, .bool true], .tuple [.tuple [], .str "is", .int 1, .bool true], .tuple [.tuple [], .str "is", .int 1, .bool true], .tuple [.tuple [], .str "is", .int 1, .bool true], .tuple [.tuple [], .str "is", .int 1, .bool true], .tuple [.tuple [], .str "is", .int 1, .bool true], .tuple [.tuple [], .str "is", .int 1, .bool true], .tuple [.tuple [], .str "is", .int 1, .bool true], .tuple [.tuple [], .str "is", .int 1, .bool true]]) (.oth _ _ (.tup e9' (.cons d7 (.cons d7 (.cons d7 (.cons d7 (.cons d7 (.cons d7 (.cons d7 (.cons d7 (.cons d7 .nil)))))))))) rfl) (Fit.of (by decide +kernel)) (by decide +kernel) (fun z => by simp [isT, isN, tyn] at z)
  · have nb10 := t11.now.ne hb10
    exact fin (.tuple []) (.oth _ _ (.tup (by rw [offB_ne nb10]; exact ((t13.trans t14).trans (t15.trans t16)).keep nb10 eb10) .nil) rfl) (Fit.of (by decide +kernel)) (by decide +kernel) (fun z => by simp [isT, isN, tyn] at z)
  · exact fin dO (bO.turn t14_16) (fO.mono (by decide) (by decide)) i1 (fun z a e => ((((tL.trans tL6).trans (t7.trans t8n)).trans t11).trans t12).grows (frO z a e))
end
end K18
namespace K18
open PySem PySem.Spec PyProof.Rows L2 Gr 
def spBadN : Sp := fun vs H Q _ => ∃ (st : Addr) (n : Nat) (lo hi : Int), vs = [.ref st, .int lo, .int hi] ∧ 0 ≤ lo ∧ lo ≤ 1 ∧ 8 ≤ hi ∧ hi ≤ 60 ∧ StB H st (n + 1) ∧ ∀ (v : V) (d : PyData) (G : Hp), TurnB st n H G → Bd (offB G st) v d → Fit 8 3 d → isWh (some lo) (some hi) d = false → d ≠ .tuple [] → (isT "list" d = true → ∀ a, v = .ref a → H a = none) → Q v G
theorem scBadN : FnScope ["_law_box_here", "_law_low", "_law_high"] ["_law_box_here", "_law_low", "_law_high"] (defScope lBadNumber) := ⟨rfl, rfl, rfl, by decide +kernel, rfl, by decide +kernel, by decide +kernel⟩
section
variable {P : Program} {w : World} {K : PySem.W.Frag} {mg : Str → Option Value} {base : Heap} {f fT : Addr} {fd fdT : FuncData}
theorem ok_badN (F : Fun K "_law_bad_number" "_law_bad_number" lBadNumber f fd) (TA : Cal P w K mg base 1 "_law_take" ["_law_box_here", "_law_many"] spTake fT fdT) : FnOk P w K mg base CX0 2 f fd ["_law_box_here", "_law_low", "_law_high"] spBadN := by
  refine F.ok scBadN (fun vs H Q E h => ?_) (fun cdv A outer s0 H vs Q E hr h => ?_)
  · obtain ⟨st, n, lo, hi, rfl, _⟩ := h
    rfl
  obtain ⟨st, n, lo, hi, rfl, l0, l1, h8, h60, hS, q⟩ := h
  refine ⟨_, (pss_one (ps_ret (pe_ix ix_list (pe_lst (pa_cons pe_non (pa_cons pe_bl (pa_cons pe_str (pa_cons (pe_op op_sub (pv 1) pe_int) (pa_cons (pe_op op_add (pv 2) pe_int) (pa_cons (pe_op op_pow pe_int pe_int) (pa_cons (pe_un un_neg pe_int) (pa_cons (pe_lst (pa_cons pe_int pa_nil)) (pa_cons (pe_tup (pa_cons pe_int pa_nil)) (pa_cons pe_dnewK pa_nil))))))))))) (pe_cal TA hr rfl (pa_cons (pv 0) (pa_cons pe_int pa_nil))) (fun _ _ => rfl)))), ?_⟩
  have zl := sizeLine_eq
  have big : ∀ k : Nat, k ≤ 20 → k ≤ sizeLine := fun k h => by omega
  refine ⟨_, rfl, _, _, rfl, rfl, _, rfl, _, _, rfl, rfl, _, _, rfl, rfl, ⟨by decide, by decide, by decide⟩, _, rfl, big 1 (by decide), fun a1 hz1 => ?_⟩
  have e1 : (upd H a1 (.lst [.int 1])) a1 = some (.lst [.int 1]) := upd_same
  have s1 := same_new hz1 (.lst [.int 1])
  generalize upd H a1 (HO.lst [V.int 1]) = H1 at e1 s1 ⊢
  refine ⟨big 1 (by decide), fun a2 hz2 => ?_⟩
  have e2 : (upd H1 a2 (.tup [.int 1])) a2 = some (.tup [.int 1]) := upd_same
  have s2 := same_new hz2 (.tup [.int 1])
  generalize upd H1 a2 (HO.tup [V.int 1]) = H2 at e2 s2 ⊢
  refine fun a3 hz3 => ?_
  have e3 : (upd H2 a3 (.dK [])) a3 = some (.dK []) := upd_same
  have s3 := same_new hz3 (.dK [])
  generalize upd H2 a3 (HO.dK []) = H3 at e3 s3 ⊢
  refine ⟨big 10 (by decide), fun L hL => ?_⟩
  have sL := same_new hL (.lst [.non, .bl true, .str "1", .int (lo - 1), .int (hi + 1), .int 100000000000000000000000000000, .int (-1), .ref a1, .ref a2, .ref a3])
  have eL : (upd H3 L (.lst [.non, .bl true, .str "1", .int (lo - 1), .int (hi + 1), .int 100000000000000000000000000000, .int (-1), .ref a1, .ref a2, .ref a3])) L = some (.lst [.non, .bl true, .str "1", .int (lo - 1), .int (hi + 1), .int 100000000000000000000000000000, .int (-1), .ref a1, .ref a2, .ref a3]) := upd_same
  refine (show ∀ Z : Hp → Prop, Z (upd H3 L (HO.lst [V.non, .bl true, .str "1", .int (lo - 1), .int (hi + 1), .int 100000000000000000000000000000, .int (-1), .ref a1, .ref a2, .ref a3])) → Z (upd H3 L (HO.lst [V.non, .bl true, .str "1", .int (lo - 1), .int (hi + 1), .int 100000000000000000000000000000, .int (-1), .ref a1, .ref a2, .ref a3])) from fun _ z => z) _ ?_
  generalize upd H3 L (HO.lst [V.non, .bl true, .str "1", .int (lo - 1), .int (hi + 1), .int 100000000000000000000000000000, .int (-1), .ref a1, .ref a2, .ref a3]) = HL at sL eL ⊢
  have c3 := sL
  have c2 := s3.trans c3
  have c1 := s2.trans c2
  have c0 := s1.trans c1
  have tL := TurnB.of_same hS c0
  have nst : ∀ {F : Hp} {b : Addr}, Same H F → F b = none → b ≠ st := fun {F b} s e z => (hS.same s).some (z ▸ e)
  have nL := nst ((s1.trans s2).trans s3) hL
  refine ⟨_, rfl, st, 10, n, rfl, tL.now, by decide, by decide, fun r G r0 r1 t => ?_⟩
  obtain ⟨v, hv, ea⟩ := at_any [V.non, .bl true, .str "1", .int (lo - 1), .int (hi + 1), .int 100000000000000000000000000000, .int (-1), .ref a1, .ref a2, .ref a3] r r0 r1
  refine ⟨L, _, _, v, rfl, rfl, SqL.of (t.keep nL eL), ea, ?_⟩
  have look : ∀ {b : Addr} {o : HO}, b ≠ st → HL b = some o → (offB G st) b = some o := fun {b o} nb e => by rw [offB_ne nb]; exact t.keep nb e
  have w1 := look (nst (Same.refl H) hz1) (c1 _ _ e1)
  have w2 := look (nst s1 hz2) (c2 _ _ e2)
  have w3 := look (nst (s1.trans s2) hz3) (c3 _ _ e3)
  have fin : ∀ (d : PyData), Bd (offB G st) v d → Fit 8 3 d → isWh (some lo) (some hi) d = false → d ≠ .tuple [] → (isT "list" d = true → ∀ a, v = .ref a → H a = none) → Q v G := fun d a b c e g => q v d G (tL.trans t) a b c e g
  have fint : ∀ i : Int, v = .int i → (i < lo ∨ hi < i) → i.natAbs ≤ 10 ^ 30 → Q v G := fun i e h1 h2 => by
    refine fin (.int i) (.oth _ _ (e ▸ .int i) rfl) ⟨?_, by simp [nodes], by simp [PyData.depth]⟩ ?_ (fun z => by cases z) (fun z => by simp [isT, isN, tyn] at z)
    · have q2 := Nat.lt_of_le_of_lt h2 (show 10 ^ 30 < 10 ^ 40 by decide)
      simp [fine, q2]
    · show (decide (lo ≤ i) && decide (i ≤ hi)) = false
      rw [Bool.and_eq_false_iff]
      rcases h1 with h | h
      · exact .inl (decide_eq_false (by omega))
      · exact .inr (decide_eq_false (by omega))
  simp only [List.mem_cons, List.not_mem_nil, or_false] at hv
  rcases hv with rfl | rfl | rfl | rfl | rfl | rfl | rfl | rfl | rfl | rfl
  · exact fin .none (.oth _ _ .non rfl) (Fit.of (by decide +kernel)) rfl (fun z => by cases z) (fun z => by simp [isT, isN, tyn] at z)
  · exact fin (.bool true) (.oth _ _ (.bl true) rfl) (Fit.of (by decide +kernel)) rfl (fun z => by cases z) (fun z => by simp [isT, isN, tyn] at z)
  · exact fin (.str "1") (.oth _ _ (.str _) rfl) (Fit.of (by decide +kernel)) rfl (fun z => by cases z) (fun z => by simp [isT, isN, tyn] at z)
  · exact fint _ rfl (.inl (by omega)) (by omega)
  · exact fint _ rfl (.inr (by omega)) (by omega)
  · exact fint _ rfl (.inr (by omega)) (by decide)
  · exact fint _ rfl (.inl (by omega)) (by decide)
  · exact fin (.list [.int 1]) (.lst a1 _ _ w1 (.cons (.int 1) .nil)) (Fit.of (by decide +kernel)) rfl (fun z => by cases z) (fun _ a e => by cases e; exact hz1)
  · exact fin (.tuple [.int 1]) (.oth _ _ (.tup w2 (.cons (.int 1) .nil)) rfl) (Fit.of (by decide +kernel)) rfl (fun z => by cases z) (fun z => by simp [isT, isN, tyn] at z)
  · exact fin (.dict []) (.dic a3 w3) (Fit.of (by decide +kernel)) rfl (fun z => by cases z) (fun z => by simp [isT, isN, tyn] at z)
end
end K18
namespace K18
open PySem PySem.Spec PyProof.Rows L2 Gr 
def spInitT (K : PySem.W.Frag) : Sp := fun vs H Q _ => ∃ (a C : Addr) (x : V), vs = [.ref a, x] ∧ H a = some (exo a C none) ∧ OexC K C ∧ PySem.W.findIn K (.ref C) "found" = some none ∧
  ∀ dx, H dx = none → dx ≠ a → Q .non (upd (upd H dx (exd dx [("found", x)])) a (exo a C (some dx)))
theorem none_of_same {H G : Hp} (e : Same H G) {b : Addr} (h : G b = none) : H b = none := none_of_grows (Grows.of_same e) h
structure ErrX (P : Program) (w : World) (K : PySem.W.Frag) (mg : Str → Option Value) (base : Heap) (x : Str) (C fI : Addr) (fdI : FuncData) : Prop where
  gC : mg x = some (.ref C)
  ox : OexC K C
  iC : PySem.W.findIn K (.ref C) "__init__" = some (some (.ref fI))
  tI : PySem.W.typeIn K (.ref fI) = some (.type "function")
  no : PySem.W.findIn K (.ref C) "found" = some none
  ok : FnOk P w K mg base CX0 1 fI fdI ["self", "found"] (spInitT K)
  bI : Binds K fdI ["self", "found"] []
structure CalE (P : Program) (w : World) (K : PySem.W.Frag) (mg : Str → Option Value) (base : Heap) (k : Nat) (x : Str) (ps : List Str) (sp : Sp) (f : Addr) (fd : FuncData) : Prop where
  ok : FnOk P w K mg base (L2N.CX P w) k f fd ps sp
  bd : Binds K fd ps []
  kp : PySem.W.keepIn K (.ref f) = true
  at_ : mg x = some (.ref f)
section
variable {P : Program} {w : World} {K : PySem.W.Frag} {mg : Str → Option Value} {base : Heap} {f fT fI C : Addr} {fd fdT : FuncData}
theorem scINoNumber : FnScope ["self", "found"] ["self", "found"] (defScope sNoNumberInit) := ⟨rfl, rfl, rfl, by decide +kernel, rfl, by decide +kernel, by decide +kernel⟩
theorem ok_iNoNumber (F : Fun K "__init__" "NoNumber.__init__" sNoNumberInit f fd) : FnOk P w K mg base CX0 1 f fd ["self", "found"] (spInitT K) := by
  refine F.ok scINoNumber (fun vs H Q E h => ?_) (fun cdv A outer s H vs Q E hr h => ?_)
  · obtain ⟨a, C, x, rfl, _⟩ := h
    rfl
  obtain ⟨a, C, x, rfl, ha, T, no, q⟩ := h
  refine ⟨_, pss_one (ps_ost (pv 0) (pv 1)), ?_⟩
  exact ⟨_, rfl, _, rfl, a, C, rfl, T, no, .inl ⟨ha, fun dx h1 h2 => q dx h1 h2⟩⟩
theorem scINoDeeds : FnScope ["self", "found"] ["self", "found"] (defScope sNoDeedsInit) := ⟨rfl, rfl, rfl, by decide +kernel, rfl, by decide +kernel, by decide +kernel⟩
theorem ok_iNoDeeds (F : Fun K "__init__" "NoDeeds.__init__" sNoDeedsInit f fd) : FnOk P w K mg base CX0 1 f fd ["self", "found"] (spInitT K) := by
  refine F.ok scINoDeeds (fun vs H Q E h => ?_) (fun cdv A outer s H vs Q E hr h => ?_)
  · obtain ⟨a, C, x, rfl, _⟩ := h
    rfl
  obtain ⟨a, C, x, rfl, ha, T, no, q⟩ := h
  refine ⟨_, pss_one (ps_ost (pv 0) (pv 1)), ?_⟩
  exact ⟨_, rfl, _, rfl, a, C, rfl, T, no, .inl ⟨ha, fun dx h1 h2 => q dx h1 h2⟩⟩
theorem scINoTests : FnScope ["self", "found"] ["self", "found"] (defScope sNoTestsInit) := ⟨rfl, rfl, rfl, by decide +kernel, rfl, by decide +kernel, by decide +kernel⟩
theorem ok_iNoTests (F : Fun K "__init__" "NoTests.__init__" sNoTestsInit f fd) : FnOk P w K mg base CX0 1 f fd ["self", "found"] (spInitT K) := by
  refine F.ok scINoTests (fun vs H Q E h => ?_) (fun cdv A outer s H vs Q E hr h => ?_)
  · obtain ⟨a, C, x, rfl, _⟩ := h
    rfl
  obtain ⟨a, C, x, rfl, ha, T, no, q⟩ := h
  refine ⟨_, pss_one (ps_ost (pv 0) (pv 1)), ?_⟩
  exact ⟨_, rfl, _, rfl, a, C, rfl, T, no, .inl ⟨ha, fun dx h1 h2 => q dx h1 h2⟩⟩
theorem made_one {C : Addr} {v : V} {H G : Hp} {Q : XK} (ox : OexC K C) (no : PySem.W.findIn K (.ref C) "found" = some none) (s : Same H G) (q : ∀ F dd, Same H F → H dd = none → F dd = some (.xd [("found", v)]) → Q (.ref C) (some dd) F) :
    ∀ a, G a = none → spInitT K [.ref a, v] (upd G a (exo a C none)) (fun x H2 => x = .non ∧ ∃ (d : Addr) (fs : List (Str × V)), H2 a = some (exo a C (some d)) ∧ H2 d = some (exd d fs) ∧ G d = none ∧ Q (.ref C) (some d) (upd (del H2 a) d (.xd fs))) (fun _ _ _ => False) := by
  intro a ha
  refine ⟨a, C, v, rfl, upd_same, ox, no, fun dx h3 h4 => ⟨rfl, dx, _, upd_same, by rw [upd_ne h4]; exact upd_same, ?_, ?_⟩⟩
  · rw [upd_ne h4] at h3
    exact h3
  · have hdx : G dx = none := by rw [upd_ne h4] at h3; exact h3
    refine q _ dx (fun b o e => ?_) (none_of_same s hdx) upd_same
    have b1 : b ≠ dx := ne_of_none (s b o e) hdx
    have b2 : b ≠ a := ne_of_none (s b o e) ha
    rw [upd_ne b1, del_ne b2, upd_ne b2, upd_ne b1, upd_ne b2]
    exact s b o e
end
end K18
namespace K18
open PySem PySem.Spec PyProof.Rows L2 Gr 
/-- a check: it raises, or nothing happens -/
def spCk (K : PySem.W.Frag) (CE : Addr) (good : PyData → Bool) : Sp := fun vs H Q E => ∃ (v : V) (d : PyData), vs = [v] ∧ Dn K H v d ∧ (good d = true → ∀ G, Same H G → Q .non G) ∧ (good d = false → ∀ F dd, Same H F → H dd = none → F dd = some (.xd [("found", v)]) → E (.ref CE) (some dd) F)
def spCkN (K : PySem.W.Frag) (CE : Addr) : Sp := fun vs H Q E => ∃ (v : V) (d : PyData) (lo hi : Int), vs = [v, .int lo, .int hi] ∧ Dn K H v d ∧ (isWh (some lo) (some hi) d = true → ∀ G, Same H G → Q .non G) ∧ (isWh (some lo) (some hi) d = false → ∀ F dd, Same H F → H dd = none → F dd = some (.xd [("found", v)]) → E (.ref CE) (some dd) F)
theorem scCkD : FnScope ["thing"] ["thing"] (defScope sCheckDeeds) := ⟨rfl, rfl, rfl, by decide +kernel, rfl, by decide +kernel, by decide +kernel⟩
theorem scCkT : FnScope ["thing"] ["thing"] (defScope sCheckTests) := ⟨rfl, rfl, rfl, by decide +kernel, rfl, by decide +kernel, by decide +kernel⟩
theorem scCkN : FnScope ["thing", "low", "high"] ["thing", "low", "high"] (defScope sCheckNumber) := ⟨rfl, rfl, rfl, by decide +kernel, rfl, by decide +kernel, by decide +kernel⟩
section
variable {P : Program} {w : World} {K : PySem.W.Frag} {mg : Str → Option Value} {base : Heap} {f fW CE fJ : Addr} {fd fdW fdJ : FuncData}
theorem ok_ckD (F : Fun K "_check_deeds" "_check_deeds" sCheckDeeds f fd) (DE : Cal P w K mg base 3 "is_deeds" ["thing"] (spDeeds K) fW fdW) (EX : ErrX P w K mg base "NoDeeds" CE fJ fdJ) : FnOk P w K mg base (L2N.CX P w) 4 f fd ["thing"] (spCk K CE isDeeds) := by
  obtain ⟨oc, od, kW, doc, pm, an, cdv, ct, osl, rfl, lk, hcd⟩ := F.ex
  refine fn_of lk hcd scCkD (fun vs H Q E h => ?_) fun A outer s H vs Q E hr h => ?_
  · obtain ⟨v, d, rfl, _⟩ := h
    rfl
  obtain ⟨v, d, rfl, hd, q, qE⟩ := h
  refine ⟨_, (pss_one (ps_if (pt_not (pt_val (pe_cal DE hr rfl (pa_cons (pv 0) pa_nil))))
 (pss_one (L2N.ps_raise (W := fun cls d _ H => E cls d H) rfl (L2N.takes_of rfl rfl rfl rfl) (L2N.gr_mk EX.ox EX.iC EX.tI EX.ok (hr.mono (by omega)) EX.bI pass0 rfl EX.gC (pa_cons (pv 0) pa_nil))))
 pss_nil)), ?_⟩
  refine ⟨_, rfl, v, d, rfl, hd, fun G s1 => ⟨_, rfl, ?_⟩⟩
  cases hg : isDeeds d with
  | false =>
    refine iteT ⟨_, rfl, (by show 1 ≤ 1000; decide), ?_⟩
    exact made_one EX.ox EX.no s1 (fun F dd s n e => qE hg F dd s n e)
  | true => exact iteF (q hg G s1)
theorem ok_ckT (F : Fun K "_check_tests" "_check_tests" sCheckTests f fd) (TE : Cal P w K mg base 5 "is_tests" ["thing"] (spTests K) fW fdW) (EX : ErrX P w K mg base "NoTests" CE fJ fdJ) : FnOk P w K mg base (L2N.CX P w) 6 f fd ["thing"] (spCk K CE isTests) := by
  obtain ⟨oc, od, kW, doc, pm, an, cdv, ct, osl, rfl, lk, hcd⟩ := F.ex
  refine fn_of lk hcd scCkT (fun vs H Q E h => ?_) fun A outer s H vs Q E hr h => ?_
  · obtain ⟨v, d, rfl, _⟩ := h
    rfl
  obtain ⟨v, d, rfl, hd, q, qE⟩ := h
  refine ⟨_, (pss_one (ps_if (pt_not (pt_val (pe_cal TE hr rfl (pa_cons (pv 0) pa_nil))))
 (pss_one (L2N.ps_raise (W := fun cls d _ H => E cls d H) rfl (L2N.takes_of rfl rfl rfl rfl) (L2N.gr_mk EX.ox EX.iC EX.tI EX.ok (hr.mono (by omega)) EX.bI pass0 rfl EX.gC (pa_cons (pv 0) pa_nil))))
 pss_nil)), ?_⟩
  refine ⟨_, rfl, v, d, rfl, hd, fun G s1 => ⟨_, rfl, ?_⟩⟩
  cases hg : isTests d with
  | false =>
    refine iteT ⟨_, rfl, (by show 1 ≤ 1000; decide), ?_⟩
    exact made_one EX.ox EX.no s1 (fun F dd s n e => qE hg F dd s n e)
  | true => exact iteF (q hg G s1)
theorem ok_ckN (F : Fun K "_check_number" "_check_number" sCheckNumber f fd) (WH : Cal P w K mg base 1 "is_whole" ["thing", "low", "high"] (spWhole K) fW fdW) (EX : ErrX P w K mg base "NoNumber" CE fJ fdJ) : FnOk P w K mg base (L2N.CX P w) 3 f fd ["thing", "low", "high"] (spCkN K CE) := by
  obtain ⟨oc, od, kW, doc, pm, an, cdv, ct, osl, rfl, lk, hcd⟩ := F.ex
  refine fn_of lk hcd scCkN (fun vs H Q E h => ?_) fun A outer s H vs Q E hr h => ?_
  · obtain ⟨v, d, lo, hi, rfl, _⟩ := h
    rfl
  obtain ⟨v, d, lo, hi, rfl, hd, q, qE⟩ := h
  refine ⟨_, (pss_one (ps_if (pt_not (pt_val (pe_cal WH hr rfl (pa_cons (pv 0) (pa_cons (pv 1) (pa_cons (pv 2) pa_nil))))))
 (pss_one (L2N.ps_raise (W := fun cls d _ H => E cls d H) rfl (L2N.takes_of rfl rfl rfl rfl) (L2N.gr_mk EX.ox EX.iC EX.tI EX.ok (hr.mono (by omega)) EX.bI pass0 rfl EX.gC (pa_cons (pv 0) pa_nil))))
 pss_nil)), ?_⟩
  refine ⟨_, rfl, _, rfl, _, rfl, v, d, some lo, some hi, rfl, hd, _, rfl, ?_⟩
  cases hg : isWh (some lo) (some hi) d with
  | false =>
    refine iteT ⟨_, rfl, (by show 1 ≤ 1000; decide), ?_⟩
    exact made_one EX.ox EX.no (Same.refl H) (fun F dd s n e => qE hg F dd s n e)
  | true => exact iteF (q hg H (Same.refl H))
end
end K18
namespace K18
open PySem PySem.Spec PyProof.Rows L2 Gr 
/-- a machine's fields -/
def mF (L : Addr) (b : Bool) : List (Str × V) := [("lying", .ref L), ("is_done", .bl b), ("is_cut", .bl b)]
/-- a class of machines: what it tells -/
structure McC (K : PySem.W.Frag) (C : Addr) (fs : List Str) : Prop where
  cls : Cls K C
  n1 : NoAttr K C "lying"
  n2 : NoAttr K C "is_done"
  n3 : NoAttr K C "is_cut"
  nf : ∀ f ∈ fs, NoAttr K C f
def spM0 (K : PySem.W.Frag) : Sp := fun vs H Q _ => ∃ (x C dx : Addr) (fs : List Str), vs = [.ref x] ∧ H x = some (.ins C dx []) ∧ McC K C fs ∧ ∀ L G, H L = none → L ≠ x → (∀ b o, b ≠ x → H b = some o → G b = some o) → G L = some (.lst []) → G x = some (.ins C dx (mF L false)) → Q .non G
/-- stop -/
def spStop (K : PySem.W.Frag) : Sp := fun vs H Q _ => ∃ (x C dx L : Addr) (fs : List Str) (ex : List (Str × V)), vs = [.ref x] ∧ H x = some (.ins C dx (mF L false ++ ex)) ∧ ex.length < 900 ∧ McC K C fs ∧ Q .non (upd H x (.ins C dx (mF L true ++ ex)))
theorem scM0 : FnScope ["self"] ["self"] (defScope sMachineInit) := ⟨rfl, rfl, rfl, by decide +kernel, rfl, by decide +kernel, by decide +kernel⟩
theorem scStop : FnScope ["self"] ["self"] (defScope sMachineStop) := ⟨rfl, rfl, rfl, by decide +kernel, rfl, by decide +kernel, by decide +kernel⟩
section
variable {P : Program} {w : World} {K : PySem.W.Frag} {mg : Str → Option Value} {base : Heap} {f fW CE fJ : Addr} {fd fdW fdJ : FuncData}
theorem ok_m0 (F : Fun K "__init__" "Machine.__init__" sMachineInit f fd) : FnOk P w K mg base CX0 1 f fd ["self"] (spM0 K) := by
  refine F.ok scM0 (fun vs H Q E h => ?_) (fun cdv A outer s H vs Q E hr h => ?_)
  · obtain ⟨x, C, dx, fs, rfl, _⟩ := h
    rfl
  obtain ⟨x, C, dx, fs, rfl, hx, mc, q⟩ := h
  refine ⟨_, (pss_cons (ps_fld (pv 0) (pe_lst pa_nil) rfl)
 (pss_cons (ps_fld (pv 0) pe_bl rfl)
 (pss_one (ps_fld (pv 0) pe_bl rfl)))), ?_⟩
  have zl := sizeLine_eq
  refine ⟨by show 0 ≤ sizeLine; omega, fun L hL => ?_⟩
  have nL : L ≠ x := fun z => by rw [z, hx] at hL; cases hL
  refine ⟨_, rfl, x, C, dx, [], rfl, by rw [upd_ne (Ne.symm nL)]; exact hx, mc.cls, mc.n1, by decide, ?_⟩
  refine ⟨_, rfl, x, C, dx, _, rfl, upd_same, mc.cls, mc.n2, by show 1 < 1000; decide, ?_⟩
  rw [upd_upd]
  refine ⟨_, rfl, x, C, dx, _, rfl, upd_same, mc.cls, mc.n3, by show 2 < 1000; decide, ?_⟩
  rw [upd_upd]
  refine q L _ hL nL (fun b o nb e => ?_) ?_ upd_same
  · rw [upd_ne nb, upd_ne (fun z => by rw [z, hL] at e; cases e)]
    exact e
  · rw [upd_ne nL, upd_same]
theorem ok_stop (F : Fun K "stop" "Machine.stop" sMachineStop f fd) : FnOk P w K mg base CX0 1 f fd ["self"] (spStop K) := by
  refine F.ok scStop (fun vs H Q E h => ?_) (fun cdv A outer s H vs Q E hr h => ?_)
  · obtain ⟨x, C, dx, L, fs, ex, rfl, _⟩ := h
    rfl
  obtain ⟨x, C, dx, L, fs, ex, rfl, hx, le, mc, q⟩ := h
  refine ⟨_, (pss_cons (ps_fld (pv 0) pe_bl rfl)
 (pss_one (ps_fld (pv 0) pe_bl rfl))), ?_⟩
  refine ⟨_, rfl, x, C, dx, _, rfl, hx, mc.cls, mc.n2, by show ex.length + 3 < 1000; omega, ?_⟩
  refine ⟨_, rfl, x, C, dx, _, rfl, upd_same, mc.cls, mc.n3, by show ex.length + 3 < 1000; omega, ?_⟩
  rw [upd_upd]
  exact q
end
/-- what a new machine is: the fields of its own behind the three -/
def spMk (K : PySem.W.Frag) (CE : Addr) (good : PyData → Bool) (cut : PyData → Bool) (ex : Addr → V → List (Str × V)) (kept : Bool) (nf : List Str) (Y : Addr → Prop) : Sp := fun vs H Q E => ∃ (x C dx : Addr) (v : V) (d : PyData), vs = [.ref x, v] ∧ H x = some (.ins C dx []) ∧ Y C ∧ McC K C nf ∧ Dn K H v d ∧
  (good d = false → ∀ F dd, Same H F → H dd = none → F dd = some (.xd [("found", v)]) → E (.ref CE) (some dd) F) ∧
  (good d = true → ∀ L M G, (∀ b o, b ≠ x → H b = some o → G b = some o) → H L = none → L ≠ x → G L = some (.lst []) → (kept = true → H M = none ∧ M ≠ L ∧ M ≠ x ∧ G M = some (.lst [])) → G x = some (.ins C dx (mF L (cut d) ++ ex M v)) → Q .non G)
def no : PyData → Bool := fun _ => false
theorem scTurned : NdefX.NScope ["self", "deeds", "__class__"] ["self", "deeds"] ["__class__"] (defScope sTurnedInit) := NdefX.nscope_by (by decide +kernel)
theorem scChosen : NdefX.NScope ["self", "tests", "__class__"] ["self", "tests"] ["__class__"] (defScope sChosenInit) := NdefX.nscope_by (by decide +kernel)
theorem scWhile : NdefX.NScope ["self", "tests", "__class__"] ["self", "tests"] ["__class__"] (defScope sWhileInit) := NdefX.nscope_by (by decide +kernel)
theorem scUntil : NdefX.NScope ["self", "tests", "__class__"] ["self", "tests"] ["__class__"] (defScope sUntilInit) := NdefX.nscope_by (by decide +kernel)
theorem scGroups : NdefX.NScope ["self", "deeds", "__class__"] ["self", "deeds"] ["__class__"] (defScope sGroupsInit) := NdefX.nscope_by (by decide +kernel)
theorem scSkip : NdefX.NScope ["self", "many", "__class__"] ["self", "many"] ["__class__"] (defScope sSkipInit) := NdefX.nscope_by (by decide +kernel)
theorem scFirst : NdefX.NScope ["self", "many", "__class__"] ["self", "many"] ["__class__"] (defScope sFirstInit) := NdefX.nscope_by (by decide +kernel)
theorem scWindows : NdefX.NScope ["self", "many", "__class__"] ["self", "many"] ["__class__"] (defScope sWindowsInit) := NdefX.nscope_by (by decide +kernel)
def zeroD : PyData → Bool
  | .int i => decide (i = 0)
  | _ => false
section
variable {P : Program} {w : World} {K : PySem.W.Frag} {mg : Str → Option Value} {base : Heap} {f f2 fC CE cc cda D fS : Addr} {fd fd2 fdC fdS : FuncData}
theorem ok_turned (F : FunS K "__init__" "Turned.__init__" (defArgs sTurnedInit) (defBody sTurnedInit) (defScope sTurnedInit) f cc cda fd) (U : L2N.Sup P K cc cda D D f2) (M0 : FnOk P w K mg base CX0 1 f2 fd2 ["self"] (spM0 K)) (b0 : Binds K fd2 ["self"] []) (m_super : mg "super" = none)
    (CK : CalE P w K mg base 4 "_check_deeds" ["thing"] (spCk K CE isDeeds) fC fdC) : FnOk P w K mg base (L2N.CX P w) 5 f fd ["self", "deeds"] (spMk K CE isDeeds no (fun M v => [("_deeds", v)]) false ["_deeds"] (· = D)) := by
  obtain ⟨oc, od, kV, doc, pm, an, ct, osl, rfl, lk, hcd⟩ := F.ex
  obtain ⟨cl, cld, csl, kc⟩ := U.cell
  refine L2N.fn_ofS (k := 4) lk hcd ⟨cl, cld, _, csl, kc⟩ scTurned (fun vs H Q E h => ?_) fun A outer s H vs Q E hr h => ?_
  · obtain ⟨x, C, dx, v, d, rfl, _⟩ := h
    rfl
  obtain ⟨x, C, dx, v, d, rfl, hx, rfl, mc, hd, qE, q⟩ := h
  refine ⟨_, L2N.psa_cons (ps_expr (L2.pe_call (E := fun cls d H => E cls d H) CK.ok (hr.mono (by omega)) rfl CK.at_ CK.kp CK.bd .nil (L2N.passes_call (W := fun cls d _ H => E cls d H) (L2N.takes_of rfl rfl rfl rfl) (fun _ _ _ _ h => h)) (pa_cons (pv 1) pa_nil)))
    (L2N.psa_super (i := 0) U M0 b0 (hr.mono (by omega)) pass0 lk rfl rfl rfl rfl rfl rfl rfl rfl m_super
    (L2N.psa_of (pss_one (ps_fld (pv 0) (pv 1) rfl)))), ?_⟩
  have zl := sizeLine_eq
  refine ⟨_, rfl, v, d, rfl, hd, fun hg G s1 => ?_, fun hb F dd s n e => qE hb F dd s n e⟩
  have hxG := s1 _ _ hx
  refine ⟨x, dx, [], rfl, hxG, x, C, dx, _, rfl, hxG, mc, fun L G2 hL nL kp eL eX => ?_⟩
  have k2 : ∀ b o, b ≠ x → H b = some o → G2 b = some o := fun b o nb e => kp b o nb (s1 _ _ e)
  have hLH := none_of_same s1 hL
  refine ⟨_, rfl, _, rfl, x, C, dx, _, rfl, eX, mc.cls, mc.nf "_deeds" (by simp), by show 3 < 1000; decide, ?_⟩
  refine q hg L L _ (fun b o nb e => by rw [upd_ne nb]; exact k2 b o nb e) hLH nL (by rw [upd_ne nL]; exact eL) (fun z => nomatch z) upd_same
theorem ok_chosen (F : FunS K "__init__" "Chosen.__init__" (defArgs sChosenInit) (defBody sChosenInit) (defScope sChosenInit) f cc cda fd) (U : L2N.Sup P K cc cda D D f2) (M0 : FnOk P w K mg base CX0 1 f2 fd2 ["self"] (spM0 K)) (b0 : Binds K fd2 ["self"] []) (m_super : mg "super" = none)
    (CK : CalE P w K mg base 6 "_check_tests" ["thing"] (spCk K CE isTests) fC fdC) : FnOk P w K mg base (L2N.CX P w) 7 f fd ["self", "tests"] (spMk K CE isTests no (fun M v => [("_tests", v)]) false ["_tests"] (· = D)) := by
  obtain ⟨oc, od, kV, doc, pm, an, ct, osl, rfl, lk, hcd⟩ := F.ex
  obtain ⟨cl, cld, csl, kc⟩ := U.cell
  refine L2N.fn_ofS (k := 6) lk hcd ⟨cl, cld, _, csl, kc⟩ scChosen (fun vs H Q E h => ?_) fun A outer s H vs Q E hr h => ?_
  · obtain ⟨x, C, dx, v, d, rfl, _⟩ := h
    rfl
  obtain ⟨x, C, dx, v, d, rfl, hx, rfl, mc, hd, qE, q⟩ := h
  refine ⟨_, L2N.psa_cons (ps_expr (L2.pe_call (E := fun cls d H => E cls d H) CK.ok (hr.mono (by omega)) rfl CK.at_ CK.kp CK.bd .nil (L2N.passes_call (W := fun cls d _ H => E cls d H) (L2N.takes_of rfl rfl rfl rfl) (fun _ _ _ _ h => h)) (pa_cons (pv 1) pa_nil)))
    (L2N.psa_super (i := 0) U M0 b0 (hr.mono (by omega)) pass0 lk rfl rfl rfl rfl rfl rfl rfl rfl m_super
    (L2N.psa_of (pss_one (ps_fld (pv 0) (pv 1) rfl)))), ?_⟩
  have zl := sizeLine_eq
  refine ⟨_, rfl, v, d, rfl, hd, fun hg G s1 => ?_, fun hb F dd s n e => qE hb F dd s n e⟩
  have hxG := s1 _ _ hx
  refine ⟨x, dx, [], rfl, hxG, x, C, dx, _, rfl, hxG, mc, fun L G2 hL nL kp eL eX => ?_⟩
  have k2 : ∀ b o, b ≠ x → H b = some o → G2 b = some o := fun b o nb e => kp b o nb (s1 _ _ e)
  have hLH := none_of_same s1 hL
  refine ⟨_, rfl, _, rfl, x, C, dx, _, rfl, eX, mc.cls, mc.nf "_tests" (by simp), by show 3 < 1000; decide, ?_⟩
  refine q hg L L _ (fun b o nb e => by rw [upd_ne nb]; exact k2 b o nb e) hLH nL (by rw [upd_ne nL]; exact eL) (fun z => nomatch z) upd_same
theorem ok_while (F : FunS K "__init__" "While.__init__" (defArgs sWhileInit) (defBody sWhileInit) (defScope sWhileInit) f cc cda fd) (U : L2N.Sup P K cc cda D D f2) (M0 : FnOk P w K mg base CX0 1 f2 fd2 ["self"] (spM0 K)) (b0 : Binds K fd2 ["self"] []) (m_super : mg "super" = none)
    (CK : CalE P w K mg base 6 "_check_tests" ["thing"] (spCk K CE isTests) fC fdC) : FnOk P w K mg base (L2N.CX P w) 7 f fd ["self", "tests"] (spMk K CE isTests no (fun M v => [("_tests", v)]) false ["_tests"] (· = D)) := by
  obtain ⟨oc, od, kV, doc, pm, an, ct, osl, rfl, lk, hcd⟩ := F.ex
  obtain ⟨cl, cld, csl, kc⟩ := U.cell
  refine L2N.fn_ofS (k := 6) lk hcd ⟨cl, cld, _, csl, kc⟩ scWhile (fun vs H Q E h => ?_) fun A outer s H vs Q E hr h => ?_
  · obtain ⟨x, C, dx, v, d, rfl, _⟩ := h
    rfl
  obtain ⟨x, C, dx, v, d, rfl, hx, rfl, mc, hd, qE, q⟩ := h
  refine ⟨_, L2N.psa_cons (ps_expr (L2.pe_call (E := fun cls d H => E cls d H) CK.ok (hr.mono (by omega)) rfl CK.at_ CK.kp CK.bd .nil (L2N.passes_call (W := fun cls d _ H => E cls d H) (L2N.takes_of rfl rfl rfl rfl) (fun _ _ _ _ h => h)) (pa_cons (pv 1) pa_nil)))
    (L2N.psa_super (i := 0) U M0 b0 (hr.mono (by omega)) pass0 lk rfl rfl rfl rfl rfl rfl rfl rfl m_super
    (L2N.psa_of (pss_one (ps_fld (pv 0) (pv 1) rfl)))), ?_⟩
  have zl := sizeLine_eq
  refine ⟨_, rfl, v, d, rfl, hd, fun hg G s1 => ?_, fun hb F dd s n e => qE hb F dd s n e⟩
  have hxG := s1 _ _ hx
  refine ⟨x, dx, [], rfl, hxG, x, C, dx, _, rfl, hxG, mc, fun L G2 hL nL kp eL eX => ?_⟩
  have k2 : ∀ b o, b ≠ x → H b = some o → G2 b = some o := fun b o nb e => kp b o nb (s1 _ _ e)
  have hLH := none_of_same s1 hL
  refine ⟨_, rfl, _, rfl, x, C, dx, _, rfl, eX, mc.cls, mc.nf "_tests" (by simp), by show 3 < 1000; decide, ?_⟩
  refine q hg L L _ (fun b o nb e => by rw [upd_ne nb]; exact k2 b o nb e) hLH nL (by rw [upd_ne nL]; exact eL) (fun z => nomatch z) upd_same
theorem ok_until (F : FunS K "__init__" "Until.__init__" (defArgs sUntilInit) (defBody sUntilInit) (defScope sUntilInit) f cc cda fd) (U : L2N.Sup P K cc cda D D f2) (M0 : FnOk P w K mg base CX0 1 f2 fd2 ["self"] (spM0 K)) (b0 : Binds K fd2 ["self"] []) (m_super : mg "super" = none)
    (CK : CalE P w K mg base 6 "_check_tests" ["thing"] (spCk K CE isTests) fC fdC) : FnOk P w K mg base (L2N.CX P w) 7 f fd ["self", "tests"] (spMk K CE isTests no (fun M v => [("_tests", v)]) false ["_tests"] (· = D)) := by
  obtain ⟨oc, od, kV, doc, pm, an, ct, osl, rfl, lk, hcd⟩ := F.ex
  obtain ⟨cl, cld, csl, kc⟩ := U.cell
  refine L2N.fn_ofS (k := 6) lk hcd ⟨cl, cld, _, csl, kc⟩ scUntil (fun vs H Q E h => ?_) fun A outer s H vs Q E hr h => ?_
  · obtain ⟨x, C, dx, v, d, rfl, _⟩ := h
    rfl
  obtain ⟨x, C, dx, v, d, rfl, hx, rfl, mc, hd, qE, q⟩ := h
  refine ⟨_, L2N.psa_cons (ps_expr (L2.pe_call (E := fun cls d H => E cls d H) CK.ok (hr.mono (by omega)) rfl CK.at_ CK.kp CK.bd .nil (L2N.passes_call (W := fun cls d _ H => E cls d H) (L2N.takes_of rfl rfl rfl rfl) (fun _ _ _ _ h => h)) (pa_cons (pv 1) pa_nil)))
    (L2N.psa_super (i := 0) U M0 b0 (hr.mono (by omega)) pass0 lk rfl rfl rfl rfl rfl rfl rfl rfl m_super
    (L2N.psa_of (pss_one (ps_fld (pv 0) (pv 1) rfl)))), ?_⟩
  have zl := sizeLine_eq
  refine ⟨_, rfl, v, d, rfl, hd, fun hg G s1 => ?_, fun hb F dd s n e => qE hb F dd s n e⟩
  have hxG := s1 _ _ hx
  refine ⟨x, dx, [], rfl, hxG, x, C, dx, _, rfl, hxG, mc, fun L G2 hL nL kp eL eX => ?_⟩
  have k2 : ∀ b o, b ≠ x → H b = some o → G2 b = some o := fun b o nb e => kp b o nb (s1 _ _ e)
  have hLH := none_of_same s1 hL
  refine ⟨_, rfl, _, rfl, x, C, dx, _, rfl, eX, mc.cls, mc.nf "_tests" (by simp), by show 3 < 1000; decide, ?_⟩
  refine q hg L L _ (fun b o nb e => by rw [upd_ne nb]; exact k2 b o nb e) hLH nL (by rw [upd_ne nL]; exact eL) (fun z => nomatch z) upd_same
theorem ok_groups (F : FunS K "__init__" "Groups.__init__" (defArgs sGroupsInit) (defBody sGroupsInit) (defScope sGroupsInit) f cc cda fd) (U : L2N.Sup P K cc cda D D f2) (M0 : FnOk P w K mg base CX0 1 f2 fd2 ["self"] (spM0 K)) (b0 : Binds K fd2 ["self"] []) (m_super : mg "super" = none)
    (CK : CalE P w K mg base 4 "_check_deeds" ["thing"] (spCk K CE isDeeds) fC fdC) : FnOk P w K mg base (L2N.CX P w) 5 f fd ["self", "deeds"] (spMk K CE isDeeds no (fun M v => [("_deeds", v), ("_kept", .ref M)]) true ["_deeds", "_kept"] (· = D)) := by
  obtain ⟨oc, od, kV, doc, pm, an, ct, osl, rfl, lk, hcd⟩ := F.ex
  obtain ⟨cl, cld, csl, kc⟩ := U.cell
  refine L2N.fn_ofS (k := 4) lk hcd ⟨cl, cld, _, csl, kc⟩ scGroups (fun vs H Q E h => ?_) fun A outer s H vs Q E hr h => ?_
  · obtain ⟨x, C, dx, v, d, rfl, _⟩ := h
    rfl
  obtain ⟨x, C, dx, v, d, rfl, hx, rfl, mc, hd, qE, q⟩ := h
  refine ⟨_, L2N.psa_cons (ps_expr (L2.pe_call (E := fun cls d H => E cls d H) CK.ok (hr.mono (by omega)) rfl CK.at_ CK.kp CK.bd .nil (L2N.passes_call (W := fun cls d _ H => E cls d H) (L2N.takes_of rfl rfl rfl rfl) (fun _ _ _ _ h => h)) (pa_cons (pv 1) pa_nil)))
    (L2N.psa_super (i := 0) U M0 b0 (hr.mono (by omega)) pass0 lk rfl rfl rfl rfl rfl rfl rfl rfl m_super
    (L2N.psa_of (pss_cons (ps_fld (pv 0) (pv 1) rfl)
 (pss_one (ps_fld (pv 0) (pe_lst pa_nil) rfl))))), ?_⟩
  have zl := sizeLine_eq
  refine ⟨_, rfl, v, d, rfl, hd, fun hg G s1 => ?_, fun hb F dd s n e => qE hb F dd s n e⟩
  have hxG := s1 _ _ hx
  refine ⟨x, dx, [], rfl, hxG, x, C, dx, _, rfl, hxG, mc, fun L G2 hL nL kp eL eX => ?_⟩
  have k2 : ∀ b o, b ≠ x → H b = some o → G2 b = some o := fun b o nb e => kp b o nb (s1 _ _ e)
  have hLH := none_of_same s1 hL
  refine ⟨_, rfl, _, rfl, x, C, dx, _, rfl, eX, mc.cls, mc.nf "_deeds" (by simp), by show 3 < 1000; decide, ?_⟩
  have e3 : (upd G2 x (.ins C dx (putF "_deeds" v (mF L false)))) x = some (.ins C dx (putF "_deeds" v (mF L false))) := upd_same
  refine ⟨by show 0 ≤ sizeLine; omega, fun M hM => ?_⟩
  have nMx : M ≠ x := fun z => by rw [z, e3] at hM; cases hM
  have hM2 : G2 M = none := by rw [upd_ne nMx] at hM; exact hM
  have nML : M ≠ L := fun z => by rw [z, eL] at hM2; cases hM2
  refine ⟨_, rfl, x, C, dx, _, rfl, by rw [upd_ne (Ne.symm nMx)]; exact e3, mc.cls, mc.nf "_kept" (by simp), by show 4 < 1000; decide, ?_⟩
  refine q hg L M _ (fun b o nb e => ?_) hLH nL ?_ (fun _ => ⟨?_, nML, nMx, ?_⟩) upd_same
  · have e2 := k2 b o nb e
    rw [upd_ne nb, upd_ne (fun z => by rw [z, hM2] at e2; cases e2), upd_ne nb]
    exact e2
  · rw [upd_ne nL, upd_ne (Ne.symm nML), upd_ne nL]
    exact eL
  · cases e : H M with
    | none => rfl
    | some o => rw [k2 M o nMx e] at hM2; cases hM2
  · rw [upd_ne nMx, upd_same]
theorem ok_skip (F : FunS K "__init__" "Skip.__init__" (defArgs sSkipInit) (defBody sSkipInit) (defScope sSkipInit) f cc cda fd) (U : L2N.Sup P K cc cda D D f2) (M0 : FnOk P w K mg base CX0 1 f2 fd2 ["self"] (spM0 K)) (b0 : Binds K fd2 ["self"] []) (m_super : mg "super" = none)
    (CK : CalE P w K mg base 3 "_check_number" ["thing", "low", "high"] (spCkN K CE) fC fdC) : FnOk P w K mg base (L2N.CX P w) 5 f fd ["self", "many"] (spMk K CE (isWh (some 0) (some 60)) no (fun M v => [("_many", v), ("_left", v)]) false ["_many", "_left"] (· = D)) := by
  obtain ⟨oc, od, kV, doc, pm, an, ct, osl, rfl, lk, hcd⟩ := F.ex
  obtain ⟨cl, cld, csl, kc⟩ := U.cell
  refine L2N.fn_ofS (k := 4) lk hcd ⟨cl, cld, _, csl, kc⟩ scSkip (fun vs H Q E h => ?_) fun A outer s H vs Q E hr h => ?_
  · obtain ⟨x, C, dx, v, d, rfl, _⟩ := h
    rfl
  obtain ⟨x, C, dx, v, d, rfl, hx, rfl, mc, hd, qE, q⟩ := h
  refine ⟨_, L2N.psa_cons (ps_expr (L2.pe_call (E := fun cls d H => E cls d H) CK.ok (hr.mono (by omega)) rfl CK.at_ CK.kp CK.bd .nil (L2N.passes_call (W := fun cls d _ H => E cls d H) (L2N.takes_of rfl rfl rfl rfl) (fun _ _ _ _ h => h)) (pa_cons (pv 1) (pa_cons pe_int (pa_cons pe_int pa_nil)))))
    (L2N.psa_super (i := 0) U M0 b0 (hr.mono (by omega)) pass0 lk rfl rfl rfl rfl rfl rfl rfl rfl m_super
    (L2N.psa_of (pss_cons (ps_fld (pv 0) (pv 1) rfl)
 (pss_one (ps_fld (pv 0) (pv 1) rfl))))), ?_⟩
  have zl := sizeLine_eq
  refine ⟨_, rfl, v, d, 0, 60, rfl, hd, fun hg G s1 => ?_, fun hb F dd s n e => qE hb F dd s n e⟩
  have hxG := s1 _ _ hx
  refine ⟨x, dx, [], rfl, hxG, x, C, dx, _, rfl, hxG, mc, fun L G2 hL nL kp eL eX => ?_⟩
  have k2 : ∀ b o, b ≠ x → H b = some o → G2 b = some o := fun b o nb e => kp b o nb (s1 _ _ e)
  have hLH := none_of_same s1 hL
  refine ⟨_, rfl, _, rfl, x, C, dx, _, rfl, eX, mc.cls, mc.nf "_many" (by simp), by show 3 < 1000; decide, ?_⟩
  refine ⟨_, rfl, _, rfl, x, C, dx, _, rfl, upd_same, mc.cls, mc.nf "_left" (by simp), by show 4 < 1000; decide, ?_⟩
  rw [upd_upd]
  exact q hg L L _ (fun b o nb e => by rw [upd_ne nb]; exact k2 b o nb e) hLH nL (by rw [upd_ne nL]; exact eL) (fun z => nomatch z) upd_same
theorem ok_first (F : FunS K "__init__" "First.__init__" (defArgs sFirstInit) (defBody sFirstInit) (defScope sFirstInit) f cc cda fd) (U : L2N.Sup P K cc cda D D f2) (M0 : FnOk P w K mg base CX0 1 f2 fd2 ["self"] (spM0 K)) (b0 : Binds K fd2 ["self"] []) (m_super : mg "super" = none)
    (CK : CalE P w K mg base 3 "_check_number" ["thing", "low", "high"] (spCkN K CE) fC fdC) (ST : FnOk P w K mg base CX0 1 fS fdS ["self"] (spStop K)) (bS : Binds K fdS ["self"] []) (mS : Meth K D "stop" fS) : FnOk P w K mg base (L2N.CX P w) 5 f fd ["self", "many"] (spMk K CE (isWh (some 0) (some 60)) zeroD (fun M v => [("_many", v), ("_left", v)]) false ["_many", "_left"] (· = D)) := by
  obtain ⟨oc, od, kV, doc, pm, an, ct, osl, rfl, lk, hcd⟩ := F.ex
  obtain ⟨cl, cld, csl, kc⟩ := U.cell
  refine L2N.fn_ofS (k := 4) lk hcd ⟨cl, cld, _, csl, kc⟩ scFirst (fun vs H Q E h => ?_) fun A outer s H vs Q E hr h => ?_
  · obtain ⟨x, C, dx, v, d, rfl, _⟩ := h
    rfl
  obtain ⟨x, C, dx, v, d, rfl, hx, rfl, mc, hd, qE, q⟩ := h
  refine ⟨_, L2N.psa_cons (ps_expr (L2.pe_call (E := fun cls d H => E cls d H) CK.ok (hr.mono (by omega)) rfl CK.at_ CK.kp CK.bd .nil (L2N.passes_call (W := fun cls d _ H => E cls d H) (L2N.takes_of rfl rfl rfl rfl) (fun _ _ _ _ h => h)) (pa_cons (pv 1) (pa_cons pe_int (pa_cons pe_int pa_nil)))))
    (L2N.psa_super (i := 0) U M0 b0 (hr.mono (by omega)) pass0 lk rfl rfl rfl rfl rfl rfl rfl rfl m_super
    (L2N.psa_of (pss_cons (ps_fld (pv 0) (pv 1) rfl)
 (pss_cons (ps_fld (pv 0) (pv 1) rfl)
 (pss_one (ps_if (pt_cmpR op_eq (pv 1) pe_int (nomark _)) (pss_one (ps_expr (pe_meth0 (pv 0) mc.cls mS ST (hr.mono (by omega)) bS .nil pass0))) pss_nil)))))), ?_⟩
  have zl := sizeLine_eq
  refine ⟨_, rfl, v, d, 0, 60, rfl, hd, fun hg G s1 => ?_, fun hb F dd s n e => qE hb F dd s n e⟩
  have hxG := s1 _ _ hx
  refine ⟨x, dx, [], rfl, hxG, x, C, dx, _, rfl, hxG, mc, fun L G2 hL nL kp eL eX => ?_⟩
  have k2 : ∀ b o, b ≠ x → H b = some o → G2 b = some o := fun b o nb e => kp b o nb (s1 _ _ e)
  have hLH := none_of_same s1 hL
  refine ⟨_, rfl, _, rfl, x, C, dx, _, rfl, eX, mc.cls, mc.nf "_many" (by simp), by show 3 < 1000; decide, ?_⟩
  refine ⟨_, rfl, _, rfl, x, C, dx, _, rfl, upd_same, mc.cls, mc.nf "_left" (by simp), by show 4 < 1000; decide, ?_⟩
  rw [upd_upd]
  obtain ⟨i, rfl⟩ : ∃ i, d = .int i := by
    cases d with
    | int i => exact ⟨i, rfl⟩
    | _ => cases hg
  cases hd
  refine ⟨_, rfl, rfl, _, rfl, ?_⟩
  by_cases c : i = 0
  · have cz : zeroD (.int i) = true := decide_eq_true c
    rw [cz] at q
    rw [c]
    refine iteT ⟨_, rfl, x, dx, _, rfl, upd_same, rfl, x, C, dx, L, _, _, rfl, upd_same, (by show 2 < 900; decide), mc, ?_⟩
    rw [upd_upd]
    refine q hg L L _ (fun b o nb e => by rw [upd_ne nb]; exact k2 b o nb e) hLH nL (by rw [upd_ne nL]; exact eL) (fun z => nomatch z) ?_
    rw [c]
    exact upd_same
  · have cz : zeroD (.int i) = false := decide_eq_false c
    rw [cz] at q
    have ci : decide (V.int i = V.int 0) = false := decide_eq_false fun z => c (V.int.inj z)
    rw [ci]
    refine iteF ?_
    exact q hg L L _ (fun b o nb e => by rw [upd_ne nb]; exact k2 b o nb e) hLH nL (by rw [upd_ne nL]; exact eL) (fun z => nomatch z) upd_same
theorem ok_windows (F : FunS K "__init__" "Windows.__init__" (defArgs sWindowsInit) (defBody sWindowsInit) (defScope sWindowsInit) f cc cda fd) (U : L2N.Sup P K cc cda D D f2) (M0 : FnOk P w K mg base CX0 1 f2 fd2 ["self"] (spM0 K)) (b0 : Binds K fd2 ["self"] []) (m_super : mg "super" = none)
    (CK : CalE P w K mg base 3 "_check_number" ["thing", "low", "high"] (spCkN K CE) fC fdC) : FnOk P w K mg base (L2N.CX P w) 5 f fd ["self", "many"] (spMk K CE (isWh (some 1) (some 8)) no (fun M v => [("_many", v), ("_kept", .ref M)]) true ["_many", "_kept"] (· = D)) := by
  obtain ⟨oc, od, kV, doc, pm, an, ct, osl, rfl, lk, hcd⟩ := F.ex
  obtain ⟨cl, cld, csl, kc⟩ := U.cell
  refine L2N.fn_ofS (k := 4) lk hcd ⟨cl, cld, _, csl, kc⟩ scWindows (fun vs H Q E h => ?_) fun A outer s H vs Q E hr h => ?_
  · obtain ⟨x, C, dx, v, d, rfl, _⟩ := h
    rfl
  obtain ⟨x, C, dx, v, d, rfl, hx, rfl, mc, hd, qE, q⟩ := h
  refine ⟨_, L2N.psa_cons (ps_expr (L2.pe_call (E := fun cls d H => E cls d H) CK.ok (hr.mono (by omega)) rfl CK.at_ CK.kp CK.bd .nil (L2N.passes_call (W := fun cls d _ H => E cls d H) (L2N.takes_of rfl rfl rfl rfl) (fun _ _ _ _ h => h)) (pa_cons (pv 1) (pa_cons pe_int (pa_cons pe_int pa_nil)))))
    (L2N.psa_super (i := 0) U M0 b0 (hr.mono (by omega)) pass0 lk rfl rfl rfl rfl rfl rfl rfl rfl m_super
    (L2N.psa_of (pss_cons (ps_fld (pv 0) (pv 1) rfl)
 (pss_one (ps_fld (pv 0) (pe_lst pa_nil) rfl))))), ?_⟩
  have zl := sizeLine_eq
  refine ⟨_, rfl, v, d, 1, 8, rfl, hd, fun hg G s1 => ?_, fun hb F dd s n e => qE hb F dd s n e⟩
  have hxG := s1 _ _ hx
  refine ⟨x, dx, [], rfl, hxG, x, C, dx, _, rfl, hxG, mc, fun L G2 hL nL kp eL eX => ?_⟩
  have k2 : ∀ b o, b ≠ x → H b = some o → G2 b = some o := fun b o nb e => kp b o nb (s1 _ _ e)
  have hLH := none_of_same s1 hL
  refine ⟨_, rfl, _, rfl, x, C, dx, _, rfl, eX, mc.cls, mc.nf "_many" (by simp), by show 3 < 1000; decide, ?_⟩
  have e3 : (upd G2 x (.ins C dx (putF "_many" v (mF L false)))) x = some (.ins C dx (putF "_many" v (mF L false))) := upd_same
  refine ⟨by show 0 ≤ sizeLine; omega, fun M hM => ?_⟩
  have nMx : M ≠ x := fun z => by rw [z, e3] at hM; cases hM
  have hM2 : G2 M = none := by rw [upd_ne nMx] at hM; exact hM
  have nML : M ≠ L := fun z => by rw [z, eL] at hM2; cases hM2
  refine ⟨_, rfl, x, C, dx, _, rfl, by rw [upd_ne (Ne.symm nMx)]; exact e3, mc.cls, mc.nf "_kept" (by simp), by show 4 < 1000; decide, ?_⟩
  refine q hg L M _ (fun b o nb e => ?_) hLH nL ?_ (fun _ => ⟨?_, nML, nMx, ?_⟩) upd_same
  · have e2 := k2 b o nb e
    rw [upd_ne nb, upd_ne (fun z => by rw [z, hM2] at e2; cases e2), upd_ne nb]
    exact e2
  · rw [upd_ne nL, upd_ne (Ne.symm nML), upd_ne nL]
    exact eL
  · cases e : H M with
    | none => rfl
    | some o => rw [k2 M o nMx e] at hM2; cases hM2
  · rw [upd_ne nMx, upd_same]
end
end K18
/-! raise X(), X an own exception class without own __init__ -/
namespace Gr
open PySem PySem.Spec PyProof.Rows L2
section
variable {X : Cx} {C : Addr} {bmB : List Value} {B newId initId : String}
theorem pmk_own0 {x : Str} {p pos : Pos} (F : ExcBaseFacts B newId initId bmB) (q : PySem.W.excIn X.K C bmB newId = true) (gC : X.mg x = some (.ref C)) (kC : PySem.W.keepIn X.K (.ref C) = true) (r : Raises X (.ref C)) (hg : Gl X x)
    (hdb : (x == ("__debug__" : Str)) = false := by decide) : PMk X (.Call (.Name x p) [] [] pos) (fun _ H Q => Q (.ref C) none H) := by
  intro pins s σ H Q I h
  refine wpAny_Call_Name_kw (ld_glob I hg gC ?_ hdb)
  refine PySem.W.callWith_K0 I.kIn kC ?_
  show wpAny _ _ (call (.ref C) []) _ _ _
  obtain ⟨bm, N, nm, qn, bs, hdct, sn, sub, ab, col, dd, k0, k1, k2, k3, k5, mN, hC, hN, hni, T⟩ := exc_obj I.kIn q
  refine wpAny_call_exc_subT F T hC hN hni (fun h' e hm => ?_) (by show 0 ≤ sizeLine; exact Nat.zero_le _)
  exact mk_of I hm r h (I.hok.gone hm.new)
open L2N in
theorem pmk_own0N {x : Str} {p pos : Pos} (F : ExcBaseFacts B newId initId bmB) (q : PySem.W.excIn X.K C bmB newId = true) (gC : X.mg x = some (.ref C)) (kC : PySem.W.keepIn X.K (.ref C) = true) (r : Raises X (.ref C)) (hg : Gl X x)
    (hdb : (x == ("__debug__" : Str)) = false := by decide) : L2N.PMk X (.Call (.Name x p) [] [] pos) (fun _ H Q => Q (.ref C) none H) := by
  intro pins s σ H Q I h
  refine wpAny_Call_Name_kw (ld_glob I hg gC ?_ hdb)
  refine PySem.W.callWith_K0 I.kIn kC ?_
  show wpAny _ _ (call (.ref C) []) _ _ _
  obtain ⟨bm, N, nm, qn, bs, hdct, sn, sub, ab, col, dd, k0, k1, k2, k3, k5, mN, hC, hN, hni, T⟩ := exc_obj I.kIn q
  refine wpAny_call_exc_subT F T hC hN hni (fun h' e hm => ?_) (by show 0 ≤ sizeLine; exact Nat.zero_le _)
  exact L2N.mk_of I hm r h (I.hok.gone hm.new)
/-- what is told of such a class, named x -/
structure Own0 (K : PySem.W.Frag) (mg : Str → Option Value) (x : Str) (bmB : List Value) (newId : String) (C : Addr) : Prop where
  ex : PySem.W.excIn K C bmB newId = true
  at_ : mg x = some (.ref C)
  kp : PySem.W.keepIn K (.ref C) = true
  sub : PySem.W.subIn K (.ref C) (.type "BaseException") = some true
  ty : PySem.W.typeIn K (.ref C) = some (.type "type")
  self : PySem.W.exmOne K (.ref C) (.ref C) = some true
theorem Own0.r {K : PySem.W.Frag} {mg : Str → Option Value} {x : Str} {newId : String} {C : Addr} (o : Own0 K mg x bmB newId C) (hK : X.K = K) : Raises X (.ref C) := raises_own (by rw [hK]; exact o.sub) (by rw [hK]; exact o.ty)
end
section
variable {P : Program} {w : World} {K : PySem.W.Frag} {mg : Str → Option Value} {base : Heap}
/-- as Fun.okX, where exceptions tell that their context is None -/
theorem fun_okN {x qual : Str} {st : Stmt} {f : Addr} {fd : FuncData} {N ps : List Str} {k : Nat} {sp : Sp} (F : Fun K x qual st f fd) (S : FnScope N ps (defScope st)) (len : ∀ vs H Q E, sp vs H Q E → vs.length = ps.length)
    (hbody : ∀ (cdv : Value) (A : Around) (outer : List Env) (s : Shared) (H : Hp) (vs : List V) (Q : VK) (E : XK), Room k (A.deeper (envOfC qual (defScope st) s.heap.objs.size f cdv)) → sp vs H Q E →
      ∃ t, PSs (cxOf (L2N.CX P w) P w K mg base N qual (defScope st) f cdv A outer s H E) (defBody st) t ∧ t { nx := fun _ H' => Q .non H', rt := Q } (start N vs) H) : FnOk P w K mg base (L2N.CX P w) (k + 1) f fd ps sp := by
  obtain ⟨oc, od, kV, doc, pm, an, cdv, ct, osl, rfl, lk, hcd⟩ := F.ex
  exact fn_of lk hcd S len fun A outer s H vs Q E hr hsp => hbody cdv A outer s H vs Q E hr hsp
end
/-- a method called where what it raises is wished for at the slots as they stand -/
def tMethW (C : Addr) (m : Str) (sp : Sp) (Ew : L2.St → XK) (to : TE) (ta : TA) : TE := fun σ H Q => to σ H fun z G => ∃ b dx fs, z = .ref b ∧ G b = some (.ins C dx fs) ∧ fs.lookup m = none ∧ ta σ G fun vs G2 => sp (z :: vs) G2 Q (Ew σ)
section
variable {X : Cx} {cx : CXT} {n : Nat} {g C : Addr} {gd : FuncData} {ps : List Str} {sp : Sp} {Ew : L2.St → XK} {m : Str} {pos apos : Pos} {e o : Expr} {es : List Expr} {to : TE} {ta : TA} {pl : Sem Bool}
theorem pe_methW (ho : PE X o to) (cl : Cls X.K C) (mt : Meth X.K C m g) (G : FnOk X.prog X.w X.K X.mg X.base cx n g gd ps sp) (room : Room n X.A) (bd : Binds X.K gd ps []) (px : ∀ σ, PassesAt cx X σ (Ew σ)) (has : PA X (e :: es) ta)
    (h1 : starEach (e :: es) X.env = (false, eval e X.env) :: starEach es X.env := by rfl) (h2 : (backTo pos (starEach es X.env)).any (·.1) = false := by rfl)
    (h3 : eval (.Call (.Attribute o m apos) (e :: es) [] pos) X.env = (do let v ← eval o X.env; standAt apos.atName; let (k, first) ← holding [v] (getMethod v m pl); callWith pos k first (backTo pos (starEach (e :: es) X.env)) (backToKw pos (keywordEach [] X.env))) := by rfl) :
    PE X (.Call (.Attribute o m apos) (e :: es) [] pos) (tMethW C m sp Ew to ta) := by
  refine ⟨fun pins s σ H Q I h => PySem.W.methodCall_KW (pl := pl) (thn (ho.run pins s σ H _ I h) fun u s1 ⟨z, G1, I1, rz, b, dx, fs, ez, eb, no, q⟩ => ?_) h3⟩
  subst ez
  obtain rfl : u = Value.ref b := rz
  refine getmeth_ok I1 eb cl mt no (PySem.W.callWith_K (first := [.ref b]) (h₀ := X.base) I.ok.mod.kin mt.kp (thn (has.run pos pins s1 σ G1 _ I1 q) fun us s2 ⟨vs, G2, I2, r, q2⟩ => ⟨I2.kIn, ?_⟩) h1 h2)
  exact run_fnSD (us := .ref b :: us) (vs := .ref b :: vs) (ds := []) (dvs := []) (G) room bd .nil (px σ) I2 (.cons rfl r) (by rw [List.append_nil]; exact q2)
end
end Gr
namespace K18
open PySem PySem.Spec PyProof.Rows L2 Gr 
abbrev OverC (K : PySem.W.Frag) (mg : Str → Option Value) (CO : Addr) : Prop := Own0 K mg "Over" leBase "LookupError.__new__" CO
def spSums (K : PySem.W.Frag) (Y : Addr → Prop) : Sp := fun vs H Q _ => ∃ (x C dx : Addr), vs = [.ref x] ∧ H x = some (.ins C dx []) ∧ Y C ∧ McC K C ["_total"] ∧
  (∀ L G, (∀ b o, b ≠ x → H b = some o → G b = some o) → H L = none → L ≠ x → G L = some (.lst []) → G x = some (.ins C dx (mF L false ++ [(("_total" : Str), V.int 0)])) → Q .non G)
theorem scSums : NdefX.NScope ["self", "__class__"] ["self"] ["__class__"] (defScope sSumsInit) := NdefX.nscope_by (by decide +kernel)
/-- gives -/
def spGives (K : PySem.W.Frag) (CO : Addr) : Sp := fun vs H Q E => ∃ (x C dx L : Addr) (fs : List Str) (ex : List (Str × V)) (xs : List V), vs = [.ref x] ∧ H x = some (.ins C dx (("lying", .ref L) :: ex)) ∧ McC K C fs ∧ H L = some (.lst xs) ∧
  (xs = [] → ∀ G, Same H G → E (.ref CO) none G) ∧ (∀ y ys, xs = y :: ys → Q y (upd H L (.lst ys)))
theorem scGives : FnScope ["self"] ["self"] (defScope sMachineGives) := ⟨rfl, rfl, rfl, by decide +kernel, rfl, by decide +kernel, by decide +kernel⟩
section
variable {P : Program} {w : World} {K : PySem.W.Frag} {mg : Str → Option Value} {base : Heap} {f f2 CO cc cda D : Addr} {fd fd2 : FuncData}
theorem ok_sums (F : FunS K "__init__" "Sums.__init__" (defArgs sSumsInit) (defBody sSumsInit) (defScope sSumsInit) f cc cda fd) (U : L2N.Sup P K cc cda D D f2) (M0 : FnOk P w K mg base CX0 1 f2 fd2 ["self"] (spM0 K)) (b0 : Binds K fd2 ["self"] []) (m_super : mg "super" = none) : FnOk P w K mg base CX0 2 f fd ["self"] (spSums K (· = D)) := by
  obtain ⟨oc, od, kV, doc, pm, an, ct, osl, rfl, lk, hcd⟩ := F.ex
  obtain ⟨cl, cld, csl, kc⟩ := U.cell
  refine L2N.fn_ofS (k := 1) lk hcd ⟨cl, cld, _, csl, kc⟩ scSums (fun vs H Q E h => ?_) fun A outer s H vs Q E hr h => ?_
  · obtain ⟨x, C, dx, rfl, _⟩ := h
    rfl
  obtain ⟨x, C, dx, rfl, hx, rfl, mc, q⟩ := h
  refine ⟨_, (L2N.psa_super (i := 0) U M0 b0 (hr.mono (by omega)) pass0 lk rfl rfl rfl rfl rfl rfl rfl rfl m_super
    (L2N.psa_of (pss_one (ps_fld (pv 0) pe_int rfl)))), ?_⟩
  have zl := sizeLine_eq
  refine ⟨x, dx, [], rfl, hx, x, C, dx, _, rfl, hx, mc, fun L G2 hL nL kp eL eX => ?_⟩
  refine ⟨_, rfl, x, C, dx, _, rfl, eX, mc.cls, mc.nf "_total" (by simp), by show 3 < 1000; decide, ?_⟩
  exact q L _ (fun b o nb e => by rw [upd_ne nb]; exact kp b o nb e) hL nL (by rw [upd_ne nL]; exact eL) upd_same
theorem ok_gives (F : Fun K "gives" "Machine.gives" sMachineGives f fd) (OV : OverC K mg CO) : FnOk P w K mg base (L2N.CX P w) 1 f fd ["self"] (spGives K CO) := by
  refine fun_okN F scGives (fun vs H Q E h => ?_) (fun cdv A outer s H vs Q E hr h => ?_)
  · obtain ⟨x, C, dx, L, fs, ex, xs, rfl, _⟩ := h
    rfl
  obtain ⟨x, C, dx, L, fs, ex, xs, rfl, hx, mc, hL, qE, q⟩ := h
  refine ⟨_, (pss_cons (ps_if (pt_not (pt_truth (pe_fld (pv 0) rfl) (by intro _; rfl)))
 (pss_one (L2N.ps_raise (W := fun cls d _ H => E cls d H) rfl (L2N.takes_of rfl rfl rfl rfl) (pmk_own0N PySem.F.excBase_LookupError OV.ex OV.at_ OV.kp (OV.r rfl) (by exact rfl))))
 pss_nil)
 (pss_one (ps_ret (pe_bm PySem.F.plainAttrs_list PySem.F.slot_list_pop PySem.F.type_list_pop mt_popAt (pe_fld (pv 0) rfl) (pa_cons pe_int pa_nil))))), ?_⟩
  refine ⟨_, rfl, x, C, dx, _, _, rfl, hx, mc.cls, mc.n1, rfl, !xs.isEmpty, .inl ⟨xs, SqL.of hL, by cases xs <;> rfl⟩, ?_⟩
  cases xs with
  | nil => exact iteT (qE rfl H (Same.refl H))
  | cons y ys =>
    refine iteF ⟨_, rfl, x, C, dx, _, _, rfl, hx, mc.cls, mc.n1, rfl, ?_⟩
    refine ⟨.inl ⟨rfl, _, SqL.of hL⟩, ?_⟩
    dsimp only [tNil]
    refine ⟨L, _, 0, 0, y, rfl, rfl, hL, by decide, by decide, ?_, rfl, ?_⟩
    · simp [seqIndex?]
    · exact q y ys rfl
end
end K18
/-! C(e, .., k = v, ..) of a class whose __init__ may raise, within a try. -/
namespace Gr
open PySem PySem.Spec PyProof.Rows L2
def tMakeKS (C : Addr) (n m : Nat) (sp : Sp) (gV : List V → List V → List V) (E : L2.St → XK) (t tk : TA) : TE := fun σ H Q => t σ H fun vs H1 => tk σ H1 fun zs H2 => vs.length = n ∧ zs.length = m ∧ ∀ x dx, H2 x = none → H2 dx = none → dx ≠ x →
  sp (gV (.ref x :: vs) zs) (upd (upd H2 dx (.own x)) x (.ins C dx [])) (fun v H3 => v = .non ∧ Q (.ref x) H3) (E σ)
section
variable {X : Cx} {CX : CXT} {k n : Nat} {f C : Addr} {fd : FuncData} {ps ks : List Str} {sp : Sp} {E : L2.St → XK} {x : Str} {p pos : Pos} {e : Expr} {es : List Expr} {kws : List Keyword} {t tk : TA} {g : List Value → List Value → List Value} {gV : List V → List V → List V}
theorem run_makeKS {pins : List (Addr × Obj)} {σ : L2.St} {H : Hp} {s : Shared} {Q : VK} {us ws : List Value} {vs zs : List V} (M : Mk X.K C f) (F : FnOk X.prog X.w X.K X.mg X.base CX k f fd ps sp) (hr : Room (k + 1) X.A) (hb : KBn X.K fd ps (n + 1) ks g gV) (hx : ∀ σ, PassesAt CX X σ (E σ))
    (I : Inv X pins σ H s) (r : Vals vs us) (rz : Vals zs ws) (l1 : vs.length = n) (l2 : zs.length = ks.length)
    (h : ∀ x dx, H x = none → H dx = none → dx ≠ x → sp (gV (.ref x :: vs) zs) (upd (upd H dx (.own x)) x (.ins C dx [])) (fun v H2 => v = .non ∧ Q (.ref x) H2) (E σ)) :
    wpAny (model X.prog X.w) X.A (call (.ref C) us (ks.zip ws)) (EP X pins σ Q) X.xe s := by
  have hq := h (s.heap.objs.size + 1) s.heap.objs.size (I.hok.fresh (Nat.le_succ _)) (I.hok.fresh (Nat.le_refl _)) (Nat.ne_of_lt (Nat.lt_succ_self _))
  have I2 := Inv.made (C := C) I
  have r1 : Vals (V.ref (s.heap.objs.size + 1) :: vs) (Value.ref (s.heap.objs.size + 1) :: us) := .cons rfl r
  have r2 := hb.rel r1 rz
  have n1 : (Value.ref (s.heap.objs.size + 1) :: us).length = n + 1 := by
    rw [List.length_cons, ← r.length, l1]
  refine wpAny_call (make_map (f := f) I.kIn M.makes M.init (beq_iff_eq.mp M.fn) (codeAny_mono (F.run _ X.stack _ _ ⟨Value.ref (s.heap.objs.size + 1) :: us, ks.zip ws⟩ (g (Value.ref (s.heap.objs.size + 1) :: us) ws) _ _ (E σ) (hr.make C us (ks.zip ws))
    (I2.env0.make C us (ks.zip ws)) (hb.to _ (Value.ref (s.heap.objs.size + 1) :: us) ws I2.kIn n1 (rz.length.symm.trans l2)) r2 hq) fun r s' hq' => ?_))
  cases r with
  | error e => exact hx σ pins _ _ e s' I2 hq'
  | ok fl =>
    cases fl with
    | ret u =>
      obtain ⟨v, H', I3, rv, ev, q3⟩ := I2.after hq'
      subst ev
      exact ⟨rv, ⟨V.ref (s.heap.objs.size + 1), H', I3, rfl, q3⟩⟩
    | next => exact False.elim hq'
    | brk => exact False.elim hq'
    | cont => exact False.elim hq'
theorem pe_makeKS (M : Mk X.K C f) (F : FnOk X.prog X.w X.K X.mg X.base CX k f fd ps sp) (hr : Room (k + 1) X.A) (hg : Gl X x) (hm : X.mg x = some (.ref C)) (hb : KBn X.K fd ps (n + 1) ks g gV) (hx : ∀ σ, PassesAt CX X σ (E σ)) (ha : PA X (e :: es) t) (hkw : PK X kws tk)
    (hall : (backToKw pos (keywordEach kws X.env)).all (·.1.isSome) = true := by rfl) (hks : (backToKw pos (keywordEach kws X.env)).filterMap (·.1) = ks := by rfl) (hdb : (x == ("__debug__" : Str)) = false := by decide)
    (he : starEach (e :: es) X.env = (false, eval e X.env) :: starEach es X.env := by rfl) (hpl : ((backTo pos (starEach (e :: es) X.env)).any (·.1) || (backToKw pos (keywordEach kws X.env)).any (·.1.isNone)) = false := by rfl) :
    PE X (.Call (.Name x p) (e :: es) kws pos) (tMakeKS C n ks.length sp gV E t tk) := by
  refine ⟨fun pins s σ H Q I h => ?_⟩
  refine wpAny_Call_Name_kw (ld_glob I hg hm ?_ hdb)
  refine PySem.W.callWith_KW (h₀ := X.base) I.ok.mod.kin M.kp hall (thn (ha.run pos pins s σ H _ I h) fun us s1 ⟨vs, H1, I1, r, q⟩ => ?_) hpl he
  refine thn (hkw.run pos pins s1 σ H1 _ I1 q) fun ws s2 ⟨zs, H2, I2, rz, l1, l2, q2⟩ => ⟨I2.kIn, ?_⟩
  rw [hks]
  exact run_makeKS M F hr hb hx I2 r rz l1 l2 q2
end
end Gr
/-! C(e, ..), C(k = v, ..) of a class whose __init__ may raise, within a try; a method of an instance whose class is told by the promise. -/
namespace Gr
open PySem PySem.Spec PyProof.Rows L2
def tMakeW (C : Addr) (sp : Sp) (E : L2.St → XK) (t : TA) : TE := fun σ H Q => t σ H fun vs H2 => ∀ x dx, H2 x = none → H2 dx = none → dx ≠ x →
  sp (.ref x :: vs) (upd (upd H2 dx (.own x)) x (.ins C dx [])) (fun v H3 => v = .non ∧ Q (.ref x) H3) (E σ)
section
variable {X : Cx} {CX : CXT} {k n : Nat} {f C : Addr} {fd : FuncData} {ps ks : List Str} {sp : Sp} {E : L2.St → XK} {x : Str} {p pos : Pos} {e : Expr} {es : List Expr} {kws : List Keyword} {t tk : TA} {g : List Value → List Value → List Value} {gV : List V → List V → List V}
theorem run_makeW {pins : List (Addr × Obj)} {σ : L2.St} {H : Hp} {s : Shared} {Q : VK} {us : List Value} {vs : List V} (M : Mk X.K C f) (F : FnOk X.prog X.w X.K X.mg X.base CX k f fd ps sp) (hr : Room (k + 1) X.A) (hb : Binds X.K fd ps []) (hx : ∀ σ, PassesAt CX X σ (E σ))
    (I : Inv X pins σ H s) (r : Vals vs us)
    (h : ∀ x dx, H x = none → H dx = none → dx ≠ x → sp (.ref x :: vs) (upd (upd H dx (.own x)) x (.ins C dx [])) (fun v H2 => v = .non ∧ Q (.ref x) H2) (E σ)) :
    wpAny (model X.prog X.w) X.A (call (.ref C) us) (EP X pins σ Q) X.xe s := by
  have hq := h (s.heap.objs.size + 1) s.heap.objs.size (I.hok.fresh (Nat.le_succ _)) (I.hok.fresh (Nat.le_refl _)) (Nat.ne_of_lt (Nat.lt_succ_self _))
  have I2 := Inv.made (C := C) I
  have r2 : Vals (V.ref (s.heap.objs.size + 1) :: vs) (Value.ref (s.heap.objs.size + 1) :: us) := .cons rfl r
  have hl : (Value.ref (s.heap.objs.size + 1) :: us ++ []).length = ps.length := by
    have e := r2.length
    rw [F.len _ _ _ _ hq] at e
    rw [List.append_nil]
    exact e.symm
  refine wpAny_call (make_map (f := f) I.kIn M.makes M.init (beq_iff_eq.mp M.fn) (codeAny_mono (F.run _ X.stack _ _ ⟨Value.ref (s.heap.objs.size + 1) :: us, []⟩ ((Value.ref (s.heap.objs.size + 1) :: us) ++ []) _ _ (E σ) (hr.make C us [])
    (I2.env0.make C us []) (hb _ (Value.ref (s.heap.objs.size + 1) :: us) I2.kIn hl) (by rw [List.append_nil]; exact r2) hq) fun r s' hq' => ?_))
  cases r with
  | error e => exact hx σ pins _ _ e s' I2 hq'
  | ok fl =>
    cases fl with
    | ret u =>
      obtain ⟨v, H', I3, rv, ev, q3⟩ := I2.after hq'
      subst ev
      exact ⟨rv, ⟨V.ref (s.heap.objs.size + 1), H', I3, rfl, q3⟩⟩
    | next => exact False.elim hq'
    | brk => exact False.elim hq'
    | cont => exact False.elim hq'
/-- C(e, ..) -/
theorem pe_makeW (M : Mk X.K C f) (F : FnOk X.prog X.w X.K X.mg X.base CX k f fd ps sp) (hr : Room (k + 1) X.A) (hg : Gl X x) (hm : X.mg x = some (.ref C)) (hb : Binds X.K fd ps []) (hx : ∀ σ, PassesAt CX X σ (E σ))
    (ha : PA X (e :: es) t) (hdb : (x == ("__debug__" : Str)) = false := by decide) (he : starEach (e :: es) X.env = (false, eval e X.env) :: starEach es X.env := by rfl) (hpl : (backTo pos (starEach es X.env)).any (·.1) = false := by rfl) :
    PE X (.Call (.Name x p) (e :: es) [] pos) (tMakeW C sp E t) := by
  refine ⟨fun pins s σ H Q I h => ?_⟩
  refine wpAny_Call_Name_kw (ld_glob I hg hm ?_ hdb)
  refine PySem.W.callWith_K (h₀ := X.base) I.ok.mod.kin M.kp (thn (ha.run pos pins s σ H _ I h) fun us s1 ⟨vs, H1, I1, r, q⟩ => ⟨I1.kIn, ?_⟩) he hpl
  exact run_makeW M F hr hb hx I1 r q
/-- C(k = v, ..) -/
theorem pe_makeK0S (M : Mk X.K C f) (F : FnOk X.prog X.w X.K X.mg X.base CX k f fd ps sp) (hr : Room (k + 1) X.A) (hg : Gl X x) (hm : X.mg x = some (.ref C)) (hb : KBn X.K fd ps 1 ks g gV) (hx : ∀ σ, PassesAt CX X σ (E σ)) (hkw : PK X kws tk)
    (hall : (backToKw pos (keywordEach kws X.env)).all (·.1.isSome) = true := by rfl) (hks : (backToKw pos (keywordEach kws X.env)).filterMap (·.1) = ks := by rfl) (hdb : (x == ("__debug__" : Str)) = false := by decide)
    (hpl : ((backTo pos (starEach [] X.env)).any (·.1) || (backToKw pos (keywordEach kws X.env)).any (·.1.isNone)) = false := by rfl) :
    PE X (.Call (.Name x p) [] kws pos) (tMakeKS C 0 ks.length sp gV E tNil tk) := by
  refine ⟨fun pins s σ H Q I h => ?_⟩
  refine wpAny_Call_Name_kw (ld_glob I hg hm ?_ hdb)
  refine PySem.W.callWith_KW0 (h₀ := X.base) I.ok.mod.kin M.kp hall ?_ hpl
  refine thn (hkw.run pos pins s σ H _ I h) fun ws s2 ⟨zs, H2, I2, rz, l1, l2, q2⟩ => ⟨I2.kIn, ?_⟩
  rw [hks]
  exact run_makeKS (us := []) (vs := []) M F hr hb hx I2 .nil rz rfl l2 q2
end
/-- a method m of class C: what calls it may ask -/
structure MOk (P : Program) (w : World) (K : PySem.W.Frag) (mg : Str → Option Value) (base : Heap) (CX : CXT) (n : Nat) (C : Addr) (m : Str) (sp : Sp) : Prop where
  cls : Cls K C
  ex : ∃ g gd ps, Meth K C m g ∧ Binds K gd ps [] ∧ FnOk P w K mg base CX n g gd ps sp
/-- e.m(..), the class told by the promise -/
def tMethV (P : Program) (w : World) (K : PySem.W.Frag) (mg : Str → Option Value) (base : Heap) (CX : CXT) (n : Nat) (m : Str) (Ew : L2.St → XK) (to : TE) (ta : TA) : TE := fun σ H Q => to σ H fun z G => ∃ b C dx fs sp, z = .ref b ∧ G b = some (.ins C dx fs) ∧ fs.lookup m = none ∧ MOk P w K mg base CX n C m sp ∧ ta σ G fun vs G2 => sp (z :: vs) G2 Q (Ew σ)
section
variable {X : Cx} {cx : CXT} {n : Nat} {Ew : L2.St → XK} {m : Str} {pos apos : Pos} {e o : Expr} {es : List Expr} {to : TE} {ta : TA} {pl : Sem Bool}
theorem pe_methV (ho : PE X o to) (room : Room n X.A) (px : ∀ σ, PassesAt cx X σ (Ew σ)) (has : PA X (e :: es) ta)
    (h1 : starEach (e :: es) X.env = (false, eval e X.env) :: starEach es X.env := by rfl) (h2 : (backTo pos (starEach es X.env)).any (·.1) = false := by rfl)
    (h3 : eval (.Call (.Attribute o m apos) (e :: es) [] pos) X.env = (do let v ← eval o X.env; standAt apos.atName; let (k, first) ← holding [v] (getMethod v m pl); callWith pos k first (backTo pos (starEach (e :: es) X.env)) (backToKw pos (keywordEach [] X.env))) := by rfl) :
    PE X (.Call (.Attribute o m apos) (e :: es) [] pos) (tMethV X.prog X.w X.K X.mg X.base cx n m Ew to ta) := by
  refine ⟨fun pins s σ H Q I h => PySem.W.methodCall_KW (pl := pl) (thn (ho.run pins s σ H _ I h) fun u s1 ⟨z, G1, I1, rz, b, C, dx, fs, sp, ez, eb, no, M, q⟩ => ?_) h3⟩
  subst ez
  obtain rfl : u = Value.ref b := rz
  obtain ⟨g, gd, ps, mt, bd, F⟩ := M.ex
  refine getmeth_ok I1 eb M.cls mt no (PySem.W.callWith_K (first := [.ref b]) (h₀ := X.base) I1.ok.mod.kin mt.kp (thn (has.run pos pins s1 σ G1 _ I1 q) fun us s2 ⟨vs, G2, I2, r, q2⟩ => ⟨I2.kIn, ?_⟩) h1 h2)
  exact run_fnSD (us := .ref b :: us) (vs := .ref b :: vs) (ds := []) (dvs := []) F room bd .nil (px σ) I2 (.cons rfl r) (by rw [List.append_nil]; exact q2)
theorem pe_methV0 (ho : PE X o to) (room : Room n X.A) (px : ∀ σ, PassesAt cx X σ (Ew σ))
    (h3 : eval (.Call (.Attribute o m apos) [] [] pos) X.env = (do let v ← eval o X.env; standAt apos.atName; let (k, first) ← holding [v] (getMethod v m pl); callWith pos k first (backTo pos (starEach [] X.env)) []) := by rfl) :
    PE X (.Call (.Attribute o m apos) [] [] pos) (tMethV X.prog X.w X.K X.mg X.base cx n m Ew to tNil) := by
  refine ⟨fun pins s σ H Q I h => PySem.W.methodCall_KW (pl := pl) (thn (ho.run pins s σ H _ I h) fun u s1 ⟨z, G1, I1, rz, b, C, dx, fs, sp, ez, eb, no, M, q⟩ => ?_) h3⟩
  subst ez
  obtain rfl : u = Value.ref b := rz
  obtain ⟨g, gd, ps, mt, bd, F⟩ := M.ex
  refine getmeth_ok I1 eb M.cls mt no ?_
  exact PySem.W.callWith_K0 (first := [.ref b]) I1.kIn mt.kp (run_fnSD (us := [.ref b]) (vs := [.ref b]) (ds := []) (dvs := []) F room bd .nil (px σ) I1 (.cons rfl .nil) (by rw [List.append_nil]; exact q))
end
end Gr
namespace K18
open PySem PySem.Spec PyProof.Rows L2 Gr 
/-- a class of machines that is made of one thing -/
structure MC (P : Program) (w : World) (K : PySem.W.Frag) (mg : Str → Option Value) (base : Heap) (k : Nat) (x : Str) (ps : List Str) (C f : Addr) (fd : FuncData) (CE : Addr) (good cut : PyData → Bool) (ex : Addr → V → List (Str × V)) (kept : Bool) (nf : List Str) : Prop where
  mkC : Mk K C f
  at_ : mg x = some (.ref C)
  ok : FnOk P w K mg base (L2N.CX P w) k f fd ps (spMk K CE good cut ex kept nf (· = C))
  bd : Binds K fd ps []
  mc : McC K C nf
theorem new_mk {K : PySem.W.Frag} {H : Hp} {v : V} {d : PyData} {Q : VK} {E : XK} {C CE : Addr} {good cut : PyData → Bool} {ex : Addr → V → List (Str × V)} {kept : Bool} {nf : List Str} (mc : McC K C nf) (hd : Dn K H v d)
    (bad : good d = false → ∀ F dd, Same H F → H dd = none → F dd = some (.xd [("found", v)]) → E (.ref CE) (some dd) F)
    (ok : good d = true → ∀ x dx L M G, H x = none → Same H G → H L = none → L ≠ x → G L = some (.lst []) → (kept = true → H M = none ∧ M ≠ L ∧ M ≠ x ∧ G M = some (.lst [])) → G x = some (.ins C dx (mF L (cut d) ++ ex M v)) → Q (.ref x) G) {x dx : Addr} (hx : H x = none) (hdx : H dx = none) (ne : dx ≠ x) :
    spMk K CE good cut ex kept nf (· = C) [.ref x, v] (upd (upd H dx (.own x)) x (.ins C dx [])) (fun r H3 => r = .non ∧ Q (.ref x) H3) E := by
  have s1 : Same H (upd (upd H dx (.own x)) x (.ins C dx [])) := (same_new hdx _).trans (same_new (by rw [upd_ne (Ne.symm ne)]; exact hx) _)
  refine ⟨x, C, dx, v, d, rfl, upd_same, rfl, mc, hd.le s1, fun hb F dd s n e => bad hb F dd (s1.trans s) (none_of_same s1 n) e, fun hg L M G kG hL nL eL hM eX => ⟨rfl, ?_⟩⟩
  exact ok hg x dx L M G hx (fun b o e => kG b o (fun z => by rw [z, hx] at e; cases e) (s1 _ _ e)) (none_of_same s1 hL) nL eL (fun k => ⟨none_of_same s1 (hM k).1, (hM k).2⟩) eX
def goodW (way : Int) : PyData → Bool := if way < 4 then isDeeds else if way < 8 then isTests else if way < 10 then isWh (some 0) (some 60) else isWh (some 1) (some 8)
def ceW (CD CT CN : Addr) (way : Int) : Addr := if way < 4 then CD else if way < 8 then CT else CN
def spPlace (K : PySem.W.Frag) (CD CT CN : Addr) : Sp := fun vs H Q E => ∃ (way : Int) (v : V) (d : PyData), vs = [.int way, v] ∧ 0 ≤ way ∧ way < 11 ∧ way ≠ 3 ∧ way ≠ 7 ∧ Dn K H v d ∧ (goodW way d = true → ∀ G, Same H G → Q .non G) ∧ (goodW way d = false → ∀ F dd, Same H F → H dd = none → F dd = some (.xd [("found", v)]) → E (.ref (ceW CD CT CN way)) (some dd) F)
theorem scPlace : FnScope ["_law_way", "_law_thing_here"] ["_law_way", "_law_thing_here"] (defScope lByPlace) := ⟨rfl, rfl, rfl, by decide +kernel, rfl, by decide +kernel, by decide +kernel⟩
abbrev exD : Addr → V → List (Str × V) := fun _ v => [("_deeds", v)]
abbrev exT : Addr → V → List (Str × V) := fun _ v => [("_tests", v)]
abbrev exG : Addr → V → List (Str × V) := fun M v => [("_deeds", v), ("_kept", .ref M)]
abbrev exL : Addr → V → List (Str × V) := fun _ v => [("_many", v), ("_left", v)]
abbrev exW : Addr → V → List (Str × V) := fun M v => [("_many", v), ("_kept", .ref M)]
/-- all that are made of one thing -/
structure Mcs (P : Program) (w : World) (K : PySem.W.Frag) (mg : Str → Option Value) (base : Heap) (CD CT CN : Addr) (c f : Fin 8 → Addr) (fd : Fin 8 → FuncData) : Prop where
  turned : MC P w K mg base 5 "Turned" ["self", "deeds"] (c 0) (f 0) (fd 0) CD isDeeds no exD false ["_deeds"]
  chosen : MC P w K mg base 7 "Chosen" ["self", "tests"] (c 1) (f 1) (fd 1) CT isTests no exT false ["_tests"]
  while_ : MC P w K mg base 7 "While" ["self", "tests"] (c 2) (f 2) (fd 2) CT isTests no exT false ["_tests"]
  until_ : MC P w K mg base 7 "Until" ["self", "tests"] (c 3) (f 3) (fd 3) CT isTests no exT false ["_tests"]
  first : MC P w K mg base 5 "First" ["self", "many"] (c 4) (f 4) (fd 4) CN (isWh (some 0) (some 60)) zeroD exL false ["_many", "_left"]
  skip : MC P w K mg base 5 "Skip" ["self", "many"] (c 5) (f 5) (fd 5) CN (isWh (some 0) (some 60)) no exL false ["_many", "_left"]
  windows : MC P w K mg base 5 "Windows" ["self", "many"] (c 6) (f 6) (fd 6) CN (isWh (some 1) (some 8)) no exW true ["_many", "_kept"]
  groups : MC P w K mg base 5 "Groups" ["self", "deeds"] (c 7) (f 7) (fd 7) CD isDeeds no exG true ["_deeds", "_kept"]
section
variable {P : Program} {w : World} {K : PySem.W.Frag} {mg : Str → Option Value} {base : Heap} {f CD CT CN : Addr} {fd : FuncData} {c fi : Fin 8 → Addr} {fdi : Fin 8 → FuncData}
theorem ok_place (F : Fun K "_law_by_place" "_law_by_place" lByPlace f fd) (M : Mcs P w K mg base CD CT CN c fi fdi) : FnOk P w K mg base (L2N.CX P w) 9 f fd ["_law_way", "_law_thing_here"] (spPlace K CD CT CN) := by
  obtain ⟨oc, od, kW, doc, pm, an, cdv, ct, osl, rfl, lk, hcd⟩ := F.ex
  refine fn_of lk hcd scPlace (fun vs H Q E h => ?_) fun A outer s H vs Q E hr h => ?_
  · obtain ⟨way, v, d, rfl, _⟩ := h
    rfl
  obtain ⟨way, v, d, rfl, w0, w11, n3, n7, hd, q, qE⟩ := h
  refine ⟨_, (pss_one (ps_if (pt_cmpR op_lt (pv 0) pe_int (nomark _))
   (pss_one (ps_expr (pe_ifExp (pt_cmpR op_eq (pv 0) pe_int (nomark _)) (pe_make (E := fun cls d H => E cls d H) M.turned.mkC M.turned.ok (hr.mono (by omega)) rfl M.turned.at_ M.turned.bd .nil (L2N.passes_call (W := fun cls d _ H => E cls d H) (L2N.takes_of rfl rfl rfl rfl) (fun _ _ _ _ h => h)) (pa_cons (pv 1) pa_nil)) (pe_make (E := fun cls d H => E cls d H) M.groups.mkC M.groups.ok (hr.mono (by omega)) rfl M.groups.at_ M.groups.bd .nil (L2N.passes_call (W := fun cls d _ H => E cls d H) (L2N.takes_of rfl rfl rfl rfl) (fun _ _ _ _ h => h)) (pa_cons (pv 1) pa_nil)))))
   (pss_one (ps_if (pt_cmpR op_eq (pv 0) pe_int (nomark _))
    (pss_one (ps_expr (pe_make (E := fun cls d H => E cls d H) M.until_.mkC M.until_.ok (hr.mono (by omega)) rfl M.until_.at_ M.until_.bd .nil (L2N.passes_call (W := fun cls d _ H => E cls d H) (L2N.takes_of rfl rfl rfl rfl) (fun _ _ _ _ h => h)) (pa_cons (pv 1) pa_nil))))
    (pss_one (ps_if (pt_cmpR op_lt (pv 0) pe_int (nomark _))
     (pss_one (ps_expr (pe_ifExp (pt_cmpR op_eq (pv 0) pe_int (nomark _)) (pe_make (E := fun cls d H => E cls d H) M.chosen.mkC M.chosen.ok (hr.mono (by omega)) rfl M.chosen.at_ M.chosen.bd .nil (L2N.passes_call (W := fun cls d _ H => E cls d H) (L2N.takes_of rfl rfl rfl rfl) (fun _ _ _ _ h => h)) (pa_cons (pv 1) pa_nil)) (pe_make (E := fun cls d H => E cls d H) M.while_.mkC M.while_.ok (hr.mono (by omega)) rfl M.while_.at_ M.while_.bd .nil (L2N.passes_call (W := fun cls d _ H => E cls d H) (L2N.takes_of rfl rfl rfl rfl) (fun _ _ _ _ h => h)) (pa_cons (pv 1) pa_nil)))))
     (pss_one (ps_if (pt_cmpR op_eq (pv 0) pe_int (nomark _))
      (pss_one (ps_expr (pe_make (E := fun cls d H => E cls d H) M.first.mkC M.first.ok (hr.mono (by omega)) rfl M.first.at_ M.first.bd .nil (L2N.passes_call (W := fun cls d _ H => E cls d H) (L2N.takes_of rfl rfl rfl rfl) (fun _ _ _ _ h => h)) (pa_cons (pv 1) pa_nil))))
      (pss_one (ps_expr (pe_ifExp (pt_cmpR op_eq (pv 0) pe_int (nomark _)) (pe_make (E := fun cls d H => E cls d H) M.skip.mkC M.skip.ok (hr.mono (by omega)) rfl M.skip.at_ M.skip.bd .nil (L2N.passes_call (W := fun cls d _ H => E cls d H) (L2N.takes_of rfl rfl rfl rfl) (fun _ _ _ _ h => h)) (pa_cons (pv 1) pa_nil)) (pe_make (E := fun cls d H => E cls d H) M.windows.mkC M.windows.ok (hr.mono (by omega)) rfl M.windows.at_ M.windows.bd .nil (L2N.passes_call (W := fun cls d _ H => E cls d H) (L2N.takes_of rfl rfl rfl rfl) (fun _ _ _ _ h => h)) (pa_cons (pv 1) pa_nil))))))))))))), ?_⟩
  have fin : ∀ {C CE : Addr} {good cut : PyData → Bool} {ex : Addr → V → List (Str × V)} {kept : Bool} {nf : List Str}, McC K C nf → goodW way d = good d → ceW CD CT CN way = CE → ∀ x dx, H x = none → H dx = none → dx ≠ x → spMk K CE good cut ex kept nf (· = C) [.ref x, v] (upd (upd H dx (.own x)) x (.ins C dx [])) (fun r H3 => r = .non ∧ Q .non H3) E := fun mc e1 e2 x dx hx hdx ne =>
    new_mk (Q := fun _ G => Q .non G) mc hd (fun hb F dd s n e => e2 ▸ qE (e1.trans hb) F dd s n e) (fun hg x dx L M G hx s _ _ _ _ _ => q (e1.trans hg) G s) hx hdx ne
  have dI : ∀ a : Int, decide (V.int way = V.int a) = decide (way = a) := fun a => by
    by_cases h : way = a
    · rw [h, decide_eq_true rfl, decide_eq_true rfl]
    · rw [decide_eq_false h, decide_eq_false (fun z => h (V.int.inj z))]
  refine ⟨_, rfl, _, _, rfl, rfl, _, rfl, ?_⟩
  refine ite2 (fun c1 => ?_) (fun c1 => ?_)
  · have c1 := of_decide_eq_true c1
    have g : goodW way d = isDeeds d := by unfold goodW; rw [if_pos (by omega)]
    have ce : ceW CD CT CN way = CD := by unfold ceW; rw [if_pos (by omega)]
    refine ⟨_, rfl, rfl, _, rfl, ?_⟩
    refine ite2 (fun _ => ?_) (fun _ => ?_)
    · exact ⟨_, rfl, fin M.turned.mc g ce⟩
    · exact ⟨_, rfl, fin M.groups.mc g ce⟩
  have c1 := of_decide_eq_false (Bool.eq_false_iff.mpr c1)
  refine ⟨_, rfl, rfl, _, rfl, ?_⟩
  rw [dI]
  refine ite2 (fun c2 => ?_) (fun c2 => ?_)
  · have c2 := of_decide_eq_true c2
    have g : goodW way d = isTests d := by unfold goodW; rw [if_neg (by omega), if_pos (by omega)]
    have ce : ceW CD CT CN way = CT := by unfold ceW; rw [if_neg (by omega), if_pos (by omega)]
    exact ⟨_, rfl, fin M.until_.mc g ce⟩
  have c2 := of_decide_eq_false (Bool.eq_false_iff.mpr c2)
  refine ⟨_, rfl, _, _, rfl, rfl, _, rfl, ?_⟩
  refine ite2 (fun c3 => ?_) (fun c3 => ?_)
  · have c3 := of_decide_eq_true c3
    have g : goodW way d = isTests d := by unfold goodW; rw [if_neg (by omega), if_pos (by omega)]
    have ce : ceW CD CT CN way = CT := by unfold ceW; rw [if_neg (by omega), if_pos (by omega)]
    refine ⟨_, rfl, rfl, _, rfl, ?_⟩
    refine ite2 (fun _ => ?_) (fun _ => ?_)
    · exact ⟨_, rfl, fin M.chosen.mc g ce⟩
    · exact ⟨_, rfl, fin M.while_.mc g ce⟩
  have c3 := of_decide_eq_false (Bool.eq_false_iff.mpr c3)
  have ce : ceW CD CT CN way = CN := by unfold ceW; rw [if_neg (by omega), if_neg (by omega)]
  refine ⟨_, rfl, rfl, _, rfl, ?_⟩
  rw [dI]
  refine ite2 (fun c4 => ?_) (fun c4 => ?_)
  · have c4 := of_decide_eq_true c4
    have g : goodW way d = isWh (some 0) (some 60) d := by unfold goodW; rw [if_neg (by omega), if_neg (by omega), if_pos (by omega)]
    exact ⟨_, rfl, fin M.first.mc g ce⟩
  have c4 := of_decide_eq_false (Bool.eq_false_iff.mpr c4)
  refine ⟨_, rfl, rfl, _, rfl, ?_⟩
  rw [dI]
  refine ite2 (fun c5 => ?_) (fun c5 => ?_)
  · have c5 := of_decide_eq_true c5
    have g : goodW way d = isWh (some 0) (some 60) d := by unfold goodW; rw [if_neg (by omega), if_neg (by omega), if_pos (by omega)]
    exact ⟨_, rfl, fin M.skip.mc g ce⟩
  · have c5 := of_decide_eq_false (Bool.eq_false_iff.mpr c5)
    have g : goodW way d = isWh (some 1) (some 8) d := by unfold goodW; rw [if_neg (by omega), if_neg (by omega), if_neg (by omega)]
    exact ⟨_, rfl, fin M.windows.mc g ce⟩
end
end K18
/-! try: .. except T as n: .. except U as n: .. (two clauses of one name), the exception's context told to each suite. -/
namespace L2N
open PySem PySem.Spec PyProof.Rows L2
section
variable {Y : Cx} {tn un nm : Str} {tv uv : Value} {j : Nat} {bd su ru els : List Stmt} {s0 r0 : Stmt} {np ps hp mp kp : Pos} {tb : WX → TS} {ts rs : Addr → Value → Option Addr → TS} {out : WX} {u : TS}
/-- an exception that came here and waits for a clause -/
structure Landed (Y : Cx) (pl : List (Addr × Obj)) (σ : L2.St) (G : Hp) (t0 : Shared) (B : Heap) (x : Addr) (kl : Value) (dd : Option Addr) (sh : Shared) : Prop where
  inv : Inv Y pl σ G t0
  below : ∀ b o, t0.heap.get? b = some o → b ∉ frs Y.stack → B.get? b = some o
  up : t0.heap.UpToSlots sh.heap
  fly : PySem.HandSPX.FlyingZ B (Y.env :: Y.outer) x (Zn kl dd) sh.heap
  free : G x = none
  os : sh.os = t0.os
  bare : AllBare sh.gens
theorem Landed.now {pl : List (Addr × Obj)} {σ : L2.St} {G : Hp} {t0 sh : Shared} {B : Heap} {x : Addr} {kl : Value} {dd : Option Addr} (L : Landed Y pl σ G t0 B x kl dd sh) : Inv Y pl σ G sh := by
  obtain ⟨g1, gg, dr, tk, os'⟩ := sh
  exact L.inv.landed L.below L.fly.1 L.up L.os L.bare
/-- no clause is left -/
theorem gr_pass {pl : List (Addr × Obj)} {σ : L2.St} {G : Hp} {t0 sh : Shared} {B : Heap} {x : Addr} {kl : Value} {dd : Option Addr} {D : Ends} (st : Y.stack = Y.env :: Y.outer) (fr : Y.env.frame = some Y.env.locals) (tk : Takes Y out)
    (L : Landed Y pl σ G t0 B x kl dd sh) (h : out kl dd σ G) : wpAny (model Y.prog Y.w) Y.A (handleBy (.ref x) Y.env []) (SP Y pl D) Y.xe sh := by
  refine wpAny_handleBy_nil ?_
  obtain ⟨_, _, _, o3, v3, T, oT, tt, at3, zn3, dat3, one3, _⟩ := id L.fly
  unfold PySem.passOn
  refine wpAny_bind (wpAny_field at3 dat3 one3 ?_)
  rw [if_neg (show ¬ ((Value.ref T == Value.none) = true) by simp)]
  have on_ : wpAny (model Y.prog Y.w) Y.A (setFlight (.ref x) Y.env.frame) (fun _ t => wpAny (model Y.prog Y.w) Y.A (throw (.ref x) : Sem Flow) (SP Y pl D) Y.xe t) Y.xe sh := by
    rw [fr]
    refine HandSPX.setFlight_upZ L.fly ?_
    intro g3 held up3
    refine wpAny_throw (tk _ _ ⟨x, B, t0, pl, σ, G, kl, dd, rfl, L.inv, L.below, L.up.trans up3, .inr (.inr ?_), L.free, L.os, L.bare, h⟩)
    rw [st]
    exact held
  first
    | exact wpAny_bind (wpAny_pure (wpAny_bind on_))
    | exact wpAny_bind on_
/-- one clause, what is behind it -/
theorem gr_clause {pl : List (Addr × Obj)} {σ : L2.St} {G : Hp} {t0 sh : Shared} {B : Heap} {x : Addr} {kl : Value} {dd : Option Addr} {D : Ends} {rest : List ExceptHandler} (ok : Y.Ok) (st : Y.stack = Y.env :: Y.outer) (fr : Y.env.frame = some Y.env.locals) (hN : Y.N.Nodup) (hj : Y.N[j]? = some nm)
    (loc : Y.env.kindOf nm = some .local) (hc : Names Y tn tv) (L : Landed Y pl σ G t0 B x kl dd sh)
    (hsu : ∀ (a : Addr) (oe : Obj) (cls : Value) (d : Option Addr) (pn : List (Addr × Obj)), Zn cls d oe → (∃ vs, oe.data = .fields vs) → PSs (Y.suite a ((a, oe) :: pn)) (s0 :: su) (ts a cls d))
    {W : WX} (h : wAs Y.K tv j ts W D kl dd σ G) (on_ : W kl dd σ G → wpAny (model Y.prog Y.w) Y.A (handleBy (.ref x) Y.env rest) (SP Y pl D) Y.xe sh) :
    wpAny (model Y.prog Y.w) Y.A (handleBy (.ref x) Y.env (.ExceptHandler (some (.Name tn np)) (some nm) (s0 :: su) hp :: rest)) (SP Y pl D) Y.xe sh := by
  obtain ⟨yes, take, inn, past⟩ := h
  have I2 := L.now
  have fly1 := L.fly
  obtain ⟨g1, gg, dr, tk', os'⟩ := sh
  obtain ⟨o1, v1, at1, zn1, dat1⟩ := fly1.there
  have outF := gr_noframe fly1.2.2.1 at1 dat1
  have notL : x ≠ Y.env.locals := by
    intro z
    exact outF (List.mem_filterMap.mpr ⟨Y.env, List.mem_cons_self, by rw [fr, z]⟩)
  have notF : x ∉ Y.fs := by
    intro m
    obtain ⟨en, hen, q⟩ := List.mem_filterMap.mp m
    exact outF (List.mem_filterMap.mpr ⟨en, List.mem_cons_of_mem _ hen, q⟩)
  have I3 := I2.suite at1 dat1 L.free notL notF
  refine wpAny_handleBy_cons (codeAny_handlers_test ?_) (by intro q; cases q)
  have kind : PySem.W.Looks (model Y.prog Y.w) g1 (typeOf (.ref x)) kl := by
    intro A Q E s k q
    refine wpAny_typeOf_ref (k _ _ at1) ?_
    rw [zn1.1]
    exact q
  have asked := PySem.W.exm_one (M := model Y.prog Y.w) I2.kIn kind take
  have clause : ∀ {Q : Value → Shared → Prop} {E : Value → Shared → Prop}, Q tv ⟨g1, gg, dr, tk', os'⟩ → wpAny (model Y.prog Y.w) (Y.A.mark (some (.ref x))) (eval (.Name tn np) Y.env) Q E ⟨g1, gg, dr, tk', os'⟩ := by
    intro Q E q
    obtain ⟨gl, nd, own | ⟨own, boot, nn⟩⟩ := hc
    · exact ld_glob (X := Y.suite x ((x, o1) :: (Y.pn ++ pl))) I3 gl own q nd
    · exact ld_blt (X := Y.suite x ((x, o1) :: (Y.pn ++ pl))) I3 gl own boot q nn nd
  refine clause (asked.here ?_)
  cases yes with
  | true =>
    refine codeAny_handlers_suite_as (HandSPX.lands_againZ fly1 ?_)
    intro g2 fly2 up2
    have I4 : Inv Y pl σ G ⟨g2, gg, dr, tk', os'⟩ := L.inv.landed L.below fly2.1 (L.up.trans up2) L.os L.bare
    obtain ⟨o2, v2, at2, zn2, dat2⟩ := fly2.there
    have I5 := I4.suite at2 dat2 L.free notL notF
    refine store_ok (X := Y.suite x ((x, o2) :: (Y.pn ++ pl))) (v := .ref x) I5 hN hj (.inl loc) rfl ?_ (.inr loc)
    intro t5 I6
    exact wpAny_mono ((hsu x o2 kl dd (Y.pn ++ pl) zn2 ⟨_, dat2⟩).run [] t5 _ G _ I6 (inn rfl x L.free)) (fun f t6 r => gr_behind ok hN hj loc r) (fun _ _ z => z.elim)
  | false => exact on_ (past rfl)
/-- the body, then what is to be behind it; an exception that it lets out goes to the first suite, to the second one, or on -/
def tTry2 (K : PySem.W.Frag) (tv uv : Value) (j : Nat) (ts rs : Addr → Value → Option Addr → TS) (out : WX) (tb : WX → TS) (u : TS) : TS := fun D σ H => tb (wAs K tv j ts (wAs K uv j rs out D) D) { D with nx := u D } σ H
theorem gr_try_as2 (st : Y.stack = Y.env :: Y.outer) (fr : Y.env.frame = some Y.env.locals) (hN : Y.N.Nodup) (hj : Y.N[j]? = some nm) (loc : Y.env.kindOf nm = some .local) (hc : Names Y tn tv) (hc2 : Names Y un uv) (tk : Takes Y out)
    (hb : ∀ (W : WX) (pn : List (Addr × Obj)) (xe : Value → Shared → Prop), Takes (Y.tr pn xe) W → PassesOwn (model Y.prog Y.w) Y.A Y.env xe → PSs (Y.tr pn xe) bd (tb W))
    (hsu : ∀ (a : Addr) (oe : Obj) (cls : Value) (d : Option Addr) (pn : List (Addr × Obj)), Zn cls d oe → (∃ vs, oe.data = .fields vs) → PSs (Y.suite a ((a, oe) :: pn)) (s0 :: su) (ts a cls d))
    (hru : ∀ (a : Addr) (oe : Obj) (cls : Value) (d : Option Addr) (pn : List (Addr × Obj)), Zn cls d oe → (∃ vs, oe.data = .fields vs) → PSs (Y.suite a ((a, oe) :: pn)) (r0 :: ru) (rs a cls d)) (ho : PSs Y els u) :
    PS Y (.Try bd [.ExceptHandler (some (.Name tn np)) (some nm) (s0 :: su) hp, .ExceptHandler (some (.Name un mp)) (some nm) (r0 :: ru) kp] els [] ps) (tTry2 Y.K tv uv j ts rs out tb u) := by
  constructor
  intro pl sh σ H D I h
  have h : tb (wAs Y.K tv j ts (wAs Y.K uv j rs out D) D) { D with nx := u D } σ H := h
  have ok := I.ok
  refine wpAny_Try_except ?_
  refine wpAny_mono ((hb (wAs Y.K tv j ts (wAs Y.K uv j rs out D) D) (Y.pn ++ pl) _ (fun e s' xx => ?_) PassesOwn.looking).run [] sh σ H { D with nx := u D } (I.toTry _) h) ?_ (fun e s1 he => he)
  · have frames : Y.A.frames = some (Y.env :: Y.outer) := by rw [ok.frames, st]
    obtain ⟨x, B, t0, pl', σ', G, kl, dd, rfl, I0, below, upto, sky, free, os, bare, w⟩ := xx
    have I1 : Inv Y pl σ' G t0 := I0.ofTry ok
    have sky1 : Sky B (Y.env :: Y.outer) x (Zn kl dd) Y.env.locals s'.heap := by
      rw [← st]
      exact sky
    refine Sky.land Zn.steady frames fr sky1 ?_
    intro g1 fly1 up1
    have L : Landed Y pl σ' G t0 B x kl dd { s' with heap := g1 } := ⟨I1, below, upto.trans up1, fly1, free, os, bare⟩
    exact gr_clause ok st fr hN hj loc hc L hsu w fun w2 => gr_clause ok st fr hN hj loc hc2 L hru w2 fun w3 => gr_pass st fr tk L w3
  · intro f s1 r
    cases f with
    | next =>
      obtain ⟨σ', G, J, q⟩ := r
      exact ho.run pl s1 σ' G D (J.ofTry ok) q
    | brk =>
      obtain ⟨σ', G, J, q⟩ := r
      exact ⟨σ', G, J.ofTry ok, q⟩
    | cont =>
      obtain ⟨σ', G, J, q⟩ := r
      exact ⟨σ', G, J.ofTry ok, q⟩
    | ret v =>
      obtain ⟨x, σ', G, J, rv, q⟩ := r
      exact ⟨x, σ', G, J.ofTry ok, rv, q⟩
end
end L2N
/-! try: .. except T: .. except U as n: .. (a clause without a name, then one with it), the exception's context told. -/
namespace L2N
open PySem PySem.Spec PyProof.Rows L2
/-- a clause without a name, or what is behind it -/
def wCl (K : PySem.W.Frag) (tv : Value) (ts : Addr → Value → Option Addr → TS) (W : WX) (D : Ends) : WX := fun cls d σ H => ∃ b, PySem.W.exmOne K cls tv = some b ∧ (b = true → ∀ a, H a = none → ts a cls d D σ H) ∧ (b = false → W cls d σ H)
section
variable {Y : Cx} {tn un nm : Str} {tv uv : Value} {j : Nat} {bd su ru els : List Stmt} {s0 r0 : Stmt} {np ps hp mp kp : Pos} {tb : WX → TS} {ts rs : Addr → Value → Option Addr → TS} {out : WX} {u : TS}
theorem gr_clauseP {pl : List (Addr × Obj)} {σ : L2.St} {G : Hp} {t0 sh : Shared} {B : Heap} {x : Addr} {kl : Value} {dd : Option Addr} {D : Ends} {rest : List ExceptHandler} (ok : Y.Ok) (st : Y.stack = Y.env :: Y.outer) (fr : Y.env.frame = some Y.env.locals)
    (hc : Names Y tn tv) (L : Landed Y pl σ G t0 B x kl dd sh)
    (hsu : ∀ (a : Addr) (oe : Obj) (cls : Value) (d : Option Addr) (pn : List (Addr × Obj)), Zn cls d oe → (∃ vs, oe.data = .fields vs) → PSs (Y.suite a ((a, oe) :: pn)) (s0 :: su) (ts a cls d))
    {W : WX} (h : wCl Y.K tv ts W D kl dd σ G) (on_ : W kl dd σ G → wpAny (model Y.prog Y.w) Y.A (handleBy (.ref x) Y.env rest) (SP Y pl D) Y.xe sh) :
    wpAny (model Y.prog Y.w) Y.A (handleBy (.ref x) Y.env (.ExceptHandler (some (.Name tn np)) none (s0 :: su) hp :: rest)) (SP Y pl D) Y.xe sh := by
  obtain ⟨yes, take, inn, past⟩ := h
  have I2 := L.now
  have fly1 := L.fly
  obtain ⟨g1, gg, dr, tk', os'⟩ := sh
  obtain ⟨o1, v1, at1, zn1, dat1⟩ := fly1.there
  have outF := gr_noframe fly1.2.2.1 at1 dat1
  have notL : x ≠ Y.env.locals := by
    intro z
    exact outF (List.mem_filterMap.mpr ⟨Y.env, List.mem_cons_self, by rw [fr, z]⟩)
  have notF : x ∉ Y.fs := by
    intro m
    obtain ⟨en, hen, q⟩ := List.mem_filterMap.mp m
    exact outF (List.mem_filterMap.mpr ⟨en, List.mem_cons_of_mem _ hen, q⟩)
  have I3 := I2.suite at1 dat1 L.free notL notF
  refine wpAny_handleBy_cons (codeAny_handlers_test ?_) (by intro q; cases q)
  have kind : PySem.W.Looks (model Y.prog Y.w) g1 (typeOf (.ref x)) kl := by
    intro A Q E s k q
    refine wpAny_typeOf_ref (k _ _ at1) ?_
    rw [zn1.1]
    exact q
  have asked := PySem.W.exm_one (M := model Y.prog Y.w) I2.kIn kind take
  have clause : ∀ {Q : Value → Shared → Prop} {E : Value → Shared → Prop}, Q tv ⟨g1, gg, dr, tk', os'⟩ → wpAny (model Y.prog Y.w) (Y.A.mark (some (.ref x))) (eval (.Name tn np) Y.env) Q E ⟨g1, gg, dr, tk', os'⟩ := by
    intro Q E q
    obtain ⟨gl, nd, own | ⟨own, boot, nn⟩⟩ := hc
    · exact ld_glob (X := Y.suite x ((x, o1) :: (Y.pn ++ pl))) I3 gl own q nd
    · exact ld_blt (X := Y.suite x ((x, o1) :: (Y.pn ++ pl))) I3 gl own boot q nn nd
  refine clause (asked.here ?_)
  cases yes with
  | true =>
    refine codeAny_handlers_suite (HandSPX.lands_againZ fly1 ?_)
    intro g2 fly2 up2
    have I4 : Inv Y pl σ G ⟨g2, gg, dr, tk', os'⟩ := L.inv.landed L.below fly2.1 (L.up.trans up2) L.os L.bare
    obtain ⟨o2, v2, at2, zn2, dat2⟩ := fly2.there
    have I5 := I4.suite at2 dat2 L.free notL notF
    refine wpAny_mono ((hsu x o2 kl dd (Y.pn ++ pl) zn2 ⟨_, dat2⟩).run [] _ _ G _ I5 (inn rfl x L.free)) (fun f s6 hsp => ?_) (fun _ _ z => False.elim z)
    cases f with
    | next =>
      obtain ⟨σ6, H6, S6, q6⟩ := hsp
      exact ⟨_, _, S6.unsuite ok, q6⟩
    | brk =>
      obtain ⟨σ6, H6, S6, q6⟩ := hsp
      exact ⟨_, _, S6.unsuite ok, q6⟩
    | cont =>
      obtain ⟨σ6, H6, S6, q6⟩ := hsp
      exact ⟨_, _, S6.unsuite ok, q6⟩
    | ret u =>
      obtain ⟨v6, σ6, H6, S6, r6, q6⟩ := hsp
      exact ⟨_, _, _, S6.unsuite ok, r6, q6⟩
  | false => exact on_ (past rfl)
def tTry3 (K : PySem.W.Frag) (tv uv : Value) (j : Nat) (ts rs : Addr → Value → Option Addr → TS) (out : WX) (tb : WX → TS) (u : TS) : TS := fun D σ H => tb (wCl K tv ts (wAs K uv j rs out D) D) { D with nx := u D } σ H
theorem gr_try_pa (st : Y.stack = Y.env :: Y.outer) (fr : Y.env.frame = some Y.env.locals) (hN : Y.N.Nodup) (hj : Y.N[j]? = some nm) (loc : Y.env.kindOf nm = some .local) (hc : Names Y tn tv) (hc2 : Names Y un uv) (tk : Takes Y out)
    (hb : ∀ (W : WX) (pn : List (Addr × Obj)) (xe : Value → Shared → Prop), Takes (Y.tr pn xe) W → PassesOwn (model Y.prog Y.w) Y.A Y.env xe → PSs (Y.tr pn xe) bd (tb W))
    (hsu : ∀ (a : Addr) (oe : Obj) (cls : Value) (d : Option Addr) (pn : List (Addr × Obj)), Zn cls d oe → (∃ vs, oe.data = .fields vs) → PSs (Y.suite a ((a, oe) :: pn)) (s0 :: su) (ts a cls d))
    (hru : ∀ (a : Addr) (oe : Obj) (cls : Value) (d : Option Addr) (pn : List (Addr × Obj)), Zn cls d oe → (∃ vs, oe.data = .fields vs) → PSs (Y.suite a ((a, oe) :: pn)) (r0 :: ru) (rs a cls d)) (ho : PSs Y els u) :
    PS Y (.Try bd [.ExceptHandler (some (.Name tn np)) none (s0 :: su) hp, .ExceptHandler (some (.Name un mp)) (some nm) (r0 :: ru) kp] els [] ps) (tTry3 Y.K tv uv j ts rs out tb u) := by
  constructor
  intro pl sh σ H D I h
  have h : tb (wCl Y.K tv ts (wAs Y.K uv j rs out D) D) { D with nx := u D } σ H := h
  have ok := I.ok
  refine wpAny_Try_except ?_
  refine wpAny_mono ((hb (wCl Y.K tv ts (wAs Y.K uv j rs out D) D) (Y.pn ++ pl) _ (fun e s' xx => ?_) PassesOwn.looking).run [] sh σ H { D with nx := u D } (I.toTry _) h) ?_ (fun e s1 he => he)
  · have frames : Y.A.frames = some (Y.env :: Y.outer) := by rw [ok.frames, st]
    obtain ⟨x, B, t0, pl', σ', G, kl, dd, rfl, I0, below, upto, sky, free, os, bare, w⟩ := xx
    have I1 : Inv Y pl σ' G t0 := I0.ofTry ok
    have sky1 : Sky B (Y.env :: Y.outer) x (Zn kl dd) Y.env.locals s'.heap := by
      rw [← st]
      exact sky
    refine Sky.land Zn.steady frames fr sky1 ?_
    intro g1 fly1 up1
    have L : Landed Y pl σ' G t0 B x kl dd { s' with heap := g1 } := ⟨I1, below, upto.trans up1, fly1, free, os, bare⟩
    exact gr_clauseP ok st fr hc L hsu w fun w2 => gr_clause ok st fr hN hj loc hc2 L hru w2 fun w3 => gr_pass st fr tk L w3
  · intro f s1 r
    cases f with
    | next =>
      obtain ⟨σ', G, J, q⟩ := r
      exact ho.run pl s1 σ' G D (J.ofTry ok) q
    | brk =>
      obtain ⟨σ', G, J, q⟩ := r
      exact ⟨σ', G, J.ofTry ok, q⟩
    | cont =>
      obtain ⟨σ', G, J, q⟩ := r
      exact ⟨σ', G, J.ofTry ok, q⟩
    | ret v =>
      obtain ⟨x, σ', G, J, rv, q⟩ := r
      exact ⟨x, σ', G, J.ofTry ok, rv, q⟩
end
end L2N
namespace Gr
open PySem PySem.Spec PyProof.Rows L2 L2N
theorem try3_use {K : PySem.W.Frag} {tv uv : Value} {j : Nat} {ts rs : Addr → Value → Option Addr → TS} {out : WX} {tb : WX → TS} {u : TS} {D : Ends} {σ : L2.St} {H : Hp} (Pw : WX → Prop) (h : Pw (wCl K tv ts (wAs K uv j rs out D) D)) (main : ∀ W, Pw W → tb W { D with nx := u D } σ H) : L2N.tTry3 K tv uv j ts rs out tb u D σ H := main _ h
end Gr
/-! try: .. except T: .. except U as n: .. and further clauses that nothing comes to -/
namespace L2N
open PySem PySem.Spec PyProof.Rows L2
section
variable {Y : Cx} {tn un nm : Str} {tv uv : Value} {j : Nat} {bd su ru els : List Stmt} {s0 r0 : Stmt} {np ps hp mp kp : Pos} {tb : WX → TS} {ts rs : Addr → Value → Option Addr → TS} {u : TS} {more : List ExceptHandler}
def noX : WX := fun _ _ _ _ => False
theorem gr_try_paF (st : Y.stack = Y.env :: Y.outer) (fr : Y.env.frame = some Y.env.locals) (hN : Y.N.Nodup) (hj : Y.N[j]? = some nm) (loc : Y.env.kindOf nm = some .local) (hc : Names Y tn tv) (hc2 : Names Y un uv)
    (hb : ∀ (W : WX) (pn : List (Addr × Obj)) (xe : Value → Shared → Prop), Takes (Y.tr pn xe) W → PassesOwn (model Y.prog Y.w) Y.A Y.env xe → PSs (Y.tr pn xe) bd (tb W))
    (hsu : ∀ (a : Addr) (oe : Obj) (cls : Value) (d : Option Addr) (pn : List (Addr × Obj)), Zn cls d oe → (∃ vs, oe.data = .fields vs) → PSs (Y.suite a ((a, oe) :: pn)) (s0 :: su) (ts a cls d))
    (hru : ∀ (a : Addr) (oe : Obj) (cls : Value) (d : Option Addr) (pn : List (Addr × Obj)), Zn cls d oe → (∃ vs, oe.data = .fields vs) → PSs (Y.suite a ((a, oe) :: pn)) (r0 :: ru) (rs a cls d)) (ho : PSs Y els u) :
    PS Y (.Try bd (.ExceptHandler (some (.Name tn np)) none (s0 :: su) hp :: .ExceptHandler (some (.Name un mp)) (some nm) (r0 :: ru) kp :: more) els [] ps) (tTry3 Y.K tv uv j ts rs noX tb u) := by
  constructor
  intro pl sh σ H D I h
  have h : tb (wCl Y.K tv ts (wAs Y.K uv j rs noX D) D) { D with nx := u D } σ H := h
  have ok := I.ok
  refine wpAny_Try_except ?_
  refine wpAny_mono ((hb (wCl Y.K tv ts (wAs Y.K uv j rs noX D) D) (Y.pn ++ pl) _ (fun e s' xx => ?_) PassesOwn.looking).run [] sh σ H { D with nx := u D } (I.toTry _) h) ?_ (fun e s1 he => he)
  · have frames : Y.A.frames = some (Y.env :: Y.outer) := by rw [ok.frames, st]
    obtain ⟨x, B, t0, pl', σ', G, kl, dd, rfl, I0, below, upto, sky, free, os, bare, w⟩ := xx
    have I1 : Inv Y pl σ' G t0 := I0.ofTry ok
    have sky1 : Sky B (Y.env :: Y.outer) x (Zn kl dd) Y.env.locals s'.heap := by
      rw [← st]
      exact sky
    refine Sky.land Zn.steady frames fr sky1 ?_
    intro g1 fly1 up1
    have L : Landed Y pl σ' G t0 B x kl dd { s' with heap := g1 } := ⟨I1, below, upto.trans up1, fly1, free, os, bare⟩
    exact gr_clauseP ok st fr hc L hsu w fun w2 => gr_clause ok st fr hN hj loc hc2 L hru w2 fun w3 => w3.elim
  · intro f s1 r
    cases f with
    | next =>
      obtain ⟨σ', G, J, q⟩ := r
      exact ho.run pl s1 σ' G D (J.ofTry ok) q
    | brk =>
      obtain ⟨σ', G, J, q⟩ := r
      exact ⟨σ', G, J.ofTry ok, q⟩
    | cont =>
      obtain ⟨σ', G, J, q⟩ := r
      exact ⟨σ', G, J.ofTry ok, q⟩
    | ret v =>
      obtain ⟨x, σ', G, J, rv, q⟩ := r
      exact ⟨x, σ', G, J.ofTry ok, rv, q⟩
end
end L2N
/-! try: .. except T: .. and clauses `as n`, the last one of a tuple of three classes. -/
namespace L2N
open PySem PySem.Spec PyProof.Rows L2
/-- a clause of three classes, or what is behind it -/
def wTu (K : PySem.W.Frag) (cs : List Value) (ts : Addr → Value → Option Addr → TS) (W : WX) (D : Ends) : WX := fun cls d σ H => ∃ b, PySem.W.exmAny K cls cs = some b ∧ (b = true → ∀ a, H a = none → ts a cls d D σ H) ∧ (b = false → W cls d σ H)
theorem fly_push {base h : Heap} {l : List Env} {e : Addr} {Z : Obj → Prop} (x : PySem.HandSPX.FlyingZ base l e Z h) (o : Obj) : PySem.HandSPX.FlyingZ base l e Z (h.push o) := by
  obtain ⟨k1, k2, k3, oe, vs, T, oT, ts, he, hz, hd, h1, hnT, hTe, hT, hdT, h3⟩ := x
  have kp : ∀ b u, h.get? b = some u → (h.push o).get? b = some u := fun b u e => Heap.get?_push_of_some _ e
  exact ⟨fun b u e => kp _ _ (k1 b u e), k2, k3.of_keeps fun b u hb hnf => ⟨u, kp _ _ hb, rfl⟩, oe, vs, T, oT, ts, kp _ _ he, hz, hd, h1, hnT, hTe, kp _ _ hT, hdT, h3⟩
section
variable {Y : Cx} {tn un nm : Str} {tv uv : Value} {j : Nat} {bd su ru els : List Stmt} {s0 r0 : Stmt} {np ps hp mp kp : Pos} {tb : WX → TS} {ts rs : Addr → Value → Option Addr → TS} {out : WX} {u : TS}
theorem gr_clauseT {x1 x2 x3 : Str} {c1 c2 c3 : Value} {p1 p2 p3 : Pos} {kk : Nat} {tp : Pos} {pl : List (Addr × Obj)} {σ : L2.St} {G : Hp} {t0 sh : Shared} {B : Heap} {x : Addr} {kl : Value} {dd : Option Addr} {D : Ends} {rest : List ExceptHandler} (ok : Y.Ok) (st : Y.stack = Y.env :: Y.outer) (fr : Y.env.frame = some Y.env.locals)
    (h1 : Names Y x1 c1) (h2 : Names Y x2 c2) (h3 : Names Y x3 c3) (L : Landed Y pl σ G t0 B x kl dd sh)
    (hsu : ∀ (a : Addr) (oe : Obj) (cls : Value) (d : Option Addr) (pn : List (Addr × Obj)), Zn cls d oe → (∃ vs, oe.data = .fields vs) → PSs (Y.suite a ((a, oe) :: pn)) (s0 :: su) (ts a cls d))
    {W : WX} (h : wTu Y.K [c1, c2, c3] ts W D kl dd σ G) (on_ : ∀ sh', Landed Y pl σ G t0 B x kl dd sh' → W kl dd σ G → wpAny (model Y.prog Y.w) Y.A (handleBy (.ref x) Y.env rest) (SP Y pl D) Y.xe sh')
    (e1 : starEach [.Name x1 p1, .Name x2 p2, .Name x3 p3] Y.env = (false, eval (.Name x1 p1) Y.env) :: starEach [.Name x2 p2, .Name x3 p3] Y.env := by rfl) (e2 : starEach [.Name x2 p2, .Name x3 p3] Y.env = (false, eval (.Name x2 p2) Y.env) :: starEach [.Name x3 p3] Y.env := by rfl) (e3 : starEach [.Name x3 p3] Y.env = (false, eval (.Name x3 p3) Y.env) :: starEach [] Y.env := by rfl) :
    wpAny (model Y.prog Y.w) Y.A (handleBy (.ref x) Y.env (.ExceptHandler (some (.Tuple [.Name x1 p1, .Name x2 p2, .Name x3 p3] kk tp)) none (s0 :: su) hp :: rest)) (SP Y pl D) Y.xe sh := by
  obtain ⟨yes, take, inn, past⟩ := h
  have I2 := L.now
  have fly1 := L.fly
  obtain ⟨g1, gg, dr, tk', os'⟩ := sh
  obtain ⟨o1, v1, at1, zn1, dat1⟩ := fly1.there
  have outF := gr_noframe fly1.2.2.1 at1 dat1
  have notL : x ≠ Y.env.locals := by
    intro z
    exact outF (List.mem_filterMap.mpr ⟨Y.env, List.mem_cons_self, by rw [fr, z]⟩)
  have notF : x ∉ Y.fs := by
    intro m
    obtain ⟨en, hen, q⟩ := List.mem_filterMap.mp m
    exact outF (List.mem_filterMap.mpr ⟨en, List.mem_cons_of_mem _ hen, q⟩)
  have I3 := I2.suite at1 dat1 L.free notL notF
  refine wpAny_handleBy_cons (codeAny_handlers_test ?_) (by intro q; cases q)
  have clause : ∀ {y : Str} {c : Value} {p : Pos} (hc : Names Y y c) {Q : Value → Shared → Prop} {E : Value → Shared → Prop}, Q c ⟨g1, gg, dr, tk', os'⟩ → wpAny (model Y.prog Y.w) (Y.A.mark (some (.ref x))) (eval (.Name y p) Y.env) Q E ⟨g1, gg, dr, tk', os'⟩ := by
    intro y c p hc Q E q
    obtain ⟨gl, nd, own | ⟨own, boot, nn⟩⟩ := hc
    · exact ld_glob (X := Y.suite x ((x, o1) :: (Y.pn ++ pl))) I3 gl own q nd
    · exact ld_blt (X := Y.suite x ((x, o1) :: (Y.pn ++ pl))) I3 gl own boot q nn nd
  have zl : sizeLine = 16777216 := by decide
  refine wpAny_Tuple (wpAny_items_cons (clause h1 (wpAny_items_cons (clause h2 (wpAny_items_cons (clause h3 (wpAny_items_nil ⟨by show 3 ≤ sizeLine; omega, ?_⟩)) e3)) e2)) e1)
  -- the tuple lies in the heap
  have L2' : Landed Y pl σ G t0 B x kl dd ⟨g1.push { cls := .type "tuple", data := .seq [c1, c2, c3].toArray }, gg, dr, tk', os'⟩ :=
    ⟨L.inv, L.below, L.up.trans (Heap.UpToSlots.of_keeps fun b u e => Heap.get?_push_of_some _ e), fly_push fly1 _, L.free, L.os, L.bare⟩
  have at2 : (g1.push { cls := .type "tuple", data := .seq [c1, c2, c3].toArray }).get? x = some o1 := Heap.get?_push_of_some _ at1
  have tpl : (g1.push { cls := .type "tuple", data := .seq [c1, c2, c3].toArray }).get? g1.objs.size = some { cls := .type "tuple", data := .seq [c1, c2, c3].toArray } := Heap.get?_push_size _ rfl
  have fly2 := L2'.fly
  have kind : PySem.W.Looks (model Y.prog Y.w) (g1.push { cls := .type "tuple", data := .seq [c1, c2, c3].toArray }) (typeOf (.ref x)) kl := by
    intro A Q E s k q
    refine wpAny_typeOf_ref (k _ _ at2) ?_
    rw [zn1.1]
    exact q
  have asked := PySem.W.exm_tup3 (M := model Y.prog Y.w) L2'.now.kIn kind tpl take
  refine asked.here ?_
  cases yes with
  | true =>
    refine codeAny_handlers_suite (HandSPX.lands_againZ fly2 ?_)
    intro g2 fly3 up2
    have I4 : Inv Y pl σ G ⟨g2, gg, dr, tk', os'⟩ := L.inv.landed L.below fly3.1 (L2'.up.trans up2) L.os L.bare
    obtain ⟨o2, v2, at3, zn2, dat2⟩ := fly3.there
    have I5 := I4.suite at3 dat2 L.free notL notF
    refine wpAny_mono ((hsu x o2 kl dd (Y.pn ++ pl) zn2 ⟨_, dat2⟩).run [] _ _ G _ I5 (inn rfl x L.free)) (fun f s6 hsp => ?_) (fun _ _ z => False.elim z)
    cases f with
    | next =>
      obtain ⟨σ6, H6, S6, q6⟩ := hsp
      exact ⟨_, _, S6.unsuite ok, q6⟩
    | brk =>
      obtain ⟨σ6, H6, S6, q6⟩ := hsp
      exact ⟨_, _, S6.unsuite ok, q6⟩
    | cont =>
      obtain ⟨σ6, H6, S6, q6⟩ := hsp
      exact ⟨_, _, S6.unsuite ok, q6⟩
    | ret u =>
      obtain ⟨v6, σ6, H6, S6, r6, q6⟩ := hsp
      exact ⟨_, _, _, S6.unsuite ok, r6, q6⟩
  | false => exact on_ _ L2' (past rfl)
variable {n1 n2 n3 n4 x1 x2 x3 : Str} {v1 v2 v3 v4 c1 c2 c3 : Value} {q1 q2 q3 q4 k1 k2 k3 k4 k5 p1 p2 p3 tp : Pos} {kk : Nat} {a0 b0 d0 e0 f0 : Stmt} {as bs ds es fs : List Stmt} {t1 t2 t3 t4 t5 : Addr → Value → Option Addr → TS}
def tTry5 (K : PySem.W.Frag) (v1 v2 v3 v4 : Value) (cs : List Value) (j : Nat) (t1 t2 t3 t4 t5 : Addr → Value → Option Addr → TS) (tb : WX → TS) (u : TS) : TS := fun D σ H => tb (wCl K v1 t1 (wAs K v2 j t2 (wAs K v3 j t3 (wAs K v4 j t4 (wTu K cs t5 noX D) D) D) D) D) { D with nx := u D } σ H
theorem gr_try5 (st : Y.stack = Y.env :: Y.outer) (fr : Y.env.frame = some Y.env.locals) (hN : Y.N.Nodup) (hj : Y.N[j]? = some nm) (loc : Y.env.kindOf nm = some .local) (m1 : Names Y n1 v1) (m2 : Names Y n2 v2) (m3 : Names Y n3 v3) (m4 : Names Y n4 v4) (h1 : Names Y x1 c1) (h2 : Names Y x2 c2) (h3 : Names Y x3 c3)
    (hb : ∀ (W : WX) (pn : List (Addr × Obj)) (xe : Value → Shared → Prop), Takes (Y.tr pn xe) W → PassesOwn (model Y.prog Y.w) Y.A Y.env xe → PSs (Y.tr pn xe) bd (tb W))
    (s1 : ∀ (a : Addr) (oe : Obj) (cls : Value) (d : Option Addr) (pn : List (Addr × Obj)), Zn cls d oe → (∃ vs, oe.data = .fields vs) → PSs (Y.suite a ((a, oe) :: pn)) (a0 :: as) (t1 a cls d))
    (s2 : ∀ (a : Addr) (oe : Obj) (cls : Value) (d : Option Addr) (pn : List (Addr × Obj)), Zn cls d oe → (∃ vs, oe.data = .fields vs) → PSs (Y.suite a ((a, oe) :: pn)) (b0 :: bs) (t2 a cls d))
    (s3 : ∀ (a : Addr) (oe : Obj) (cls : Value) (d : Option Addr) (pn : List (Addr × Obj)), Zn cls d oe → (∃ vs, oe.data = .fields vs) → PSs (Y.suite a ((a, oe) :: pn)) (d0 :: ds) (t3 a cls d))
    (s4 : ∀ (a : Addr) (oe : Obj) (cls : Value) (d : Option Addr) (pn : List (Addr × Obj)), Zn cls d oe → (∃ vs, oe.data = .fields vs) → PSs (Y.suite a ((a, oe) :: pn)) (e0 :: es) (t4 a cls d))
    (s5 : ∀ (a : Addr) (oe : Obj) (cls : Value) (d : Option Addr) (pn : List (Addr × Obj)), Zn cls d oe → (∃ vs, oe.data = .fields vs) → PSs (Y.suite a ((a, oe) :: pn)) (f0 :: fs) (t5 a cls d)) (ho : PSs Y els u)
    (e1 : starEach [.Name x1 p1, .Name x2 p2, .Name x3 p3] Y.env = (false, eval (.Name x1 p1) Y.env) :: starEach [.Name x2 p2, .Name x3 p3] Y.env := by rfl) (e2 : starEach [.Name x2 p2, .Name x3 p3] Y.env = (false, eval (.Name x2 p2) Y.env) :: starEach [.Name x3 p3] Y.env := by rfl) (e3 : starEach [.Name x3 p3] Y.env = (false, eval (.Name x3 p3) Y.env) :: starEach [] Y.env := by rfl) :
    PS Y (.Try bd [.ExceptHandler (some (.Name n1 q1)) none (a0 :: as) k1, .ExceptHandler (some (.Name n2 q2)) (some nm) (b0 :: bs) k2, .ExceptHandler (some (.Name n3 q3)) (some nm) (d0 :: ds) k3, .ExceptHandler (some (.Name n4 q4)) (some nm) (e0 :: es) k4, .ExceptHandler (some (.Tuple [.Name x1 p1, .Name x2 p2, .Name x3 p3] kk tp)) none (f0 :: fs) k5] els [] ps) (tTry5 Y.K v1 v2 v3 v4 [c1, c2, c3] j t1 t2 t3 t4 t5 tb u) := by
  constructor
  intro pl sh σ H D I h
  have h : tb (wCl Y.K v1 t1 (wAs Y.K v2 j t2 (wAs Y.K v3 j t3 (wAs Y.K v4 j t4 (wTu Y.K [c1, c2, c3] t5 noX D) D) D) D) D) { D with nx := u D } σ H := h
  have ok := I.ok
  refine wpAny_Try_except ?_
  refine wpAny_mono ((hb _ (Y.pn ++ pl) _ (fun e s' xx => ?_) PassesOwn.looking).run [] sh σ H { D with nx := u D } (I.toTry _) h) ?_ (fun e s1 he => he)
  · have frames : Y.A.frames = some (Y.env :: Y.outer) := by rw [ok.frames, st]
    obtain ⟨x, B, t0, pl', σ', G, kl, dd, rfl, I0, below, upto, sky, free, os, bare, w⟩ := xx
    have I1 : Inv Y pl σ' G t0 := I0.ofTry ok
    have sky1 : Sky B (Y.env :: Y.outer) x (Zn kl dd) Y.env.locals s'.heap := by
      rw [← st]
      exact sky
    refine Sky.land Zn.steady frames fr sky1 ?_
    intro g1 fly1 up1
    have L : Landed Y pl σ' G t0 B x kl dd { s' with heap := g1 } := ⟨I1, below, upto.trans up1, fly1, free, os, bare⟩
    exact gr_clauseP ok st fr m1 L s1 w fun w2 => gr_clause ok st fr hN hj loc m2 L s2 w2 fun w3 => gr_clause ok st fr hN hj loc m3 L s3 w3 fun w4 => gr_clause ok st fr hN hj loc m4 L s4 w4 fun w5 => gr_clauseT ok st fr h1 h2 h3 L s5 w5 (fun sh' L' w6 => w6.elim) e1 e2 e3
  · intro f s1 r
    cases f with
    | next =>
      obtain ⟨σ', G, J, q⟩ := r
      exact ho.run pl s1 σ' G D (J.ofTry ok) q
    | brk =>
      obtain ⟨σ', G, J, q⟩ := r
      exact ⟨σ', G, J.ofTry ok, q⟩
    | cont =>
      obtain ⟨σ', G, J, q⟩ := r
      exact ⟨σ', G, J.ofTry ok, q⟩
    | ret v =>
      obtain ⟨x, σ', G, J, rv, q⟩ := r
      exact ⟨x, σ', G, J.ofTry ok, rv, q⟩
end
end L2N
namespace Gr
open PySem PySem.Spec PyProof.Rows L2 L2N
theorem try5_use {K : PySem.W.Frag} {v1 v2 v3 v4 : Value} {cs : List Value} {j : Nat} {t1 t2 t3 t4 t5 : Addr → Value → Option Addr → TS} {tb : WX → TS} {u : TS} {D : Ends} {σ : L2.St} {H : Hp} (Pw : WX → Prop) (h : Pw (wCl K v1 t1 (wAs K v2 j t2 (wAs K v3 j t3 (wAs K v4 j t4 (wTu K cs t5 noX D) D) D) D) D)) (main : ∀ W, Pw W → tb W { D with nx := u D } σ H) : L2N.tTry5 K v1 v2 v3 v4 cs j t1 t2 t3 t4 t5 tb u D σ H := main _ h
end Gr
/-! try with any row of clauses: plain ones, ones `as n`, ones of a tuple of two or three classes -/
namespace L2N
open PySem PySem.Spec PyProof.Rows L2
section
variable {Y : Cx} {nm : Str} {j : Nat}
/-- what the clauses ask of what is caught -/
def Hds (Y : Cx) (hs : List ExceptHandler) (F : Ends → WX) : Prop := Y.Ok → Y.stack = Y.env :: Y.outer → Y.env.frame = some Y.env.locals → ∀ (pl : List (Addr × Obj)) (σ : L2.St) (G : Hp) (t0 sh : Shared) (B : Heap) (x : Addr) (kl : Value) (dd : Option Addr) (D : Ends),
  Landed Y pl σ G t0 B x kl dd sh → F D kl dd σ G → wpAny (model Y.prog Y.w) Y.A (handleBy (.ref x) Y.env hs) (SP Y pl D) Y.xe sh
theorem hds_nil : Hds Y [] (fun _ => noX) := fun _ _ _ _ _ _ _ _ _ _ _ _ _ _ h => h.elim
theorem hds_as {n1 : Str} {v1 : Value} {q1 k1 : Pos} {a0 : Stmt} {as : List Stmt} {t1 : Addr → Value → Option Addr → TS} {hs : List ExceptHandler} {F : Ends → WX} (hN : Y.N.Nodup) (hj : Y.N[j]? = some nm) (loc : Y.env.kindOf nm = some .local) (m1 : Names Y n1 v1)
    (s1 : ∀ (a : Addr) (oe : Obj) (cls : Value) (d : Option Addr) (pn : List (Addr × Obj)), Zn cls d oe → (∃ vs, oe.data = .fields vs) → PSs (Y.suite a ((a, oe) :: pn)) (a0 :: as) (t1 a cls d)) (rest : Hds Y hs F) :
    Hds Y (.ExceptHandler (some (.Name n1 q1)) (some nm) (a0 :: as) k1 :: hs) (fun D => wAs Y.K v1 j t1 (F D) D) :=
  fun ok st fr pl σ G t0 sh B x kl dd D L h => gr_clause ok st fr hN hj loc m1 L s1 h fun w2 => rest ok st fr pl σ G t0 sh B x kl dd D L w2
theorem hds_cl {n1 : Str} {v1 : Value} {q1 k1 : Pos} {a0 : Stmt} {as : List Stmt} {t1 : Addr → Value → Option Addr → TS} {hs : List ExceptHandler} {F : Ends → WX} (m1 : Names Y n1 v1)
    (s1 : ∀ (a : Addr) (oe : Obj) (cls : Value) (d : Option Addr) (pn : List (Addr × Obj)), Zn cls d oe → (∃ vs, oe.data = .fields vs) → PSs (Y.suite a ((a, oe) :: pn)) (a0 :: as) (t1 a cls d)) (rest : Hds Y hs F) :
    Hds Y (.ExceptHandler (some (.Name n1 q1)) none (a0 :: as) k1 :: hs) (fun D => wCl Y.K v1 t1 (F D) D) :=
  fun ok st fr pl σ G t0 sh B x kl dd D L h => gr_clauseP ok st fr m1 L s1 h fun w2 => rest ok st fr pl σ G t0 sh B x kl dd D L w2
theorem hds_tu {x1 x2 x3 : Str} {c1 c2 c3 : Value} {p1 p2 p3 tp k1 : Pos} {kk : Nat} {a0 : Stmt} {as : List Stmt} {t1 : Addr → Value → Option Addr → TS} {hs : List ExceptHandler} {F : Ends → WX} (h1 : Names Y x1 c1) (h2 : Names Y x2 c2) (h3 : Names Y x3 c3)
    (s1 : ∀ (a : Addr) (oe : Obj) (cls : Value) (d : Option Addr) (pn : List (Addr × Obj)), Zn cls d oe → (∃ vs, oe.data = .fields vs) → PSs (Y.suite a ((a, oe) :: pn)) (a0 :: as) (t1 a cls d)) (rest : Hds Y hs F)
    (e1 : starEach [.Name x1 p1, .Name x2 p2, .Name x3 p3] Y.env = (false, eval (.Name x1 p1) Y.env) :: starEach [.Name x2 p2, .Name x3 p3] Y.env := by rfl) (e2 : starEach [.Name x2 p2, .Name x3 p3] Y.env = (false, eval (.Name x2 p2) Y.env) :: starEach [.Name x3 p3] Y.env := by rfl) (e3 : starEach [.Name x3 p3] Y.env = (false, eval (.Name x3 p3) Y.env) :: starEach [] Y.env := by rfl) :
    Hds Y (.ExceptHandler (some (.Tuple [.Name x1 p1, .Name x2 p2, .Name x3 p3] kk tp)) none (a0 :: as) k1 :: hs) (fun D => wTu Y.K [c1, c2, c3] t1 (F D) D) :=
  fun ok st fr pl σ G t0 sh B x kl dd D L h => gr_clauseT ok st fr h1 h2 h3 L s1 h (fun sh' L' w2 => rest ok st fr pl σ G t0 sh' B x kl dd D L' w2) e1 e2 e3
def tTryN (F : Ends → WX) (tb : WX → TS) (u : TS) : TS := fun D σ H => tb (F D) { D with nx := u D } σ H
theorem gr_tryN {h0 : ExceptHandler} {hs : List ExceptHandler} {F : Ends → WX} {bd els : List Stmt} {ps : Pos} {tb : WX → TS} {u : TS} (st : Y.stack = Y.env :: Y.outer) (fr : Y.env.frame = some Y.env.locals)
    (hb : ∀ (W : WX) (pn : List (Addr × Obj)) (xe : Value → Shared → Prop), Takes (Y.tr pn xe) W → PassesOwn (model Y.prog Y.w) Y.A Y.env xe → PSs (Y.tr pn xe) bd (tb W))
    (hh : Hds Y (h0 :: hs) F) (ho : PSs Y els u) : PS Y (.Try bd (h0 :: hs) els [] ps) (tTryN F tb u) := by
  constructor
  intro pl sh σ H D I h
  have h : tb (F D) { D with nx := u D } σ H := h
  have ok := I.ok
  refine wpAny_Try_except ?_
  refine wpAny_mono ((hb _ (Y.pn ++ pl) _ (fun e s' xx => ?_) PassesOwn.looking).run [] sh σ H { D with nx := u D } (I.toTry _) h) ?_ (fun e s1 he => he)
  · have frames : Y.A.frames = some (Y.env :: Y.outer) := by rw [ok.frames, st]
    obtain ⟨x, B, t0, pl', σ', G, kl, dd, rfl, I0, below, upto, sky, free, os, bare, w⟩ := xx
    have I1 : Inv Y pl σ' G t0 := I0.ofTry ok
    have sky1 : Sky B (Y.env :: Y.outer) x (Zn kl dd) Y.env.locals s'.heap := by
      rw [← st]
      exact sky
    refine Sky.land Zn.steady frames fr sky1 ?_
    intro g1 fly1 up1
    exact hh ok st fr pl σ' G t0 { s' with heap := g1 } B x kl dd D ⟨I1, below, upto.trans up1, fly1, free, os, bare⟩ w
  · intro f s1 r
    cases f with
    | next =>
      obtain ⟨σ', G, J, q⟩ := r
      exact ho.run pl s1 σ' G D (J.ofTry ok) q
    | brk =>
      obtain ⟨σ', G, J, q⟩ := r
      exact ⟨σ', G, J.ofTry ok, q⟩
    | cont =>
      obtain ⟨σ', G, J, q⟩ := r
      exact ⟨σ', G, J.ofTry ok, q⟩
    | ret v =>
      obtain ⟨x, σ', G, J, rv, q⟩ := r
      exact ⟨x, σ', G, J.ofTry ok, rv, q⟩
end
end L2N
namespace Gr
open PySem PySem.Spec PyProof.Rows L2 L2N
/-- what the clauses owe, as a fact about W -/
theorem tryN_use {F : Ends → WX} {tb : WX → TS} {u : TS} {D : Ends} {σ : L2.St} {H : Hp} (Pw : WX → Prop) (h : Pw (F D)) (main : ∀ W, Pw W → tb W { D with nx := u D } σ H) : L2N.tTryN F tb u D σ H := main _ h
end Gr
/-! Of the exception that the suite holds, one of several classes: isinstance by one class and by a tuple of them, a field. -/
namespace Gr
open PySem PySem.Spec PyProof.Rows L2
/-- the exception is of C, its fields fs -/
def Of (K : PySem.W.Frag) (cls : Value) (d : Option Addr) (H : Hp) (C : Addr) (fs : List (Str × V)) : Prop := ExcC K C ∧ cls = .ref C ∧ ∃ dd : Addr, d = some dd ∧ H dd = some (.xd fs)
def rIsG (K : PySem.W.Frag) (a : Addr) (cls : Value) (d : Option Addr) : List V → Hp → VK → Prop := fun xs H Q => ∃ (C D : Addr) (fs : List (Str × V)) (b : Bool), xs = [.ref a, .ref D] ∧ Of K cls d H C fs ∧ PySem.W.kitOne K (.ref C) (.ref D) = some b ∧ Q (.bl b) H
def rIsGT (K : PySem.W.Frag) (a : Addr) (cls : Value) (d : Option Addr) : List V → Hp → VK → Prop := fun xs H Q => ∃ (C tp : Addr) (fs : List (Str × V)) (cs : List V) (us : List Value) (b : Bool), xs = [.ref a, .ref tp] ∧ H tp = some (.tup cs) ∧ Paired ClsV cs us ∧ Of K cls d H C fs ∧
  PySem.W.kitAny K (.ref C) us = some b ∧ Q (.bl b) H
def tXfG (K : PySem.W.Frag) (a : Addr) (cls : Value) (d : Option Addr) (f : Str) (te : TE) : TE := fun σ H Q => te σ H fun x H1 => x = .ref a ∧ ∃ (C : Addr) (fs : List (Str × V)) (v : V), Of K cls d H1 C fs ∧ PySem.W.findIn K (.ref C) f = some none ∧ fs.lookup f = some v ∧ Q v H1
section
variable {X : Cx} {a : Addr} {oe : Obj} {cls : Value} {d : Option Addr} {pn : List (Addr × Obj)}
theorem of_inst {pins : List (Addr × Obj)} {σ : L2.St} {H : Hp} {s : Shared} {C : Addr} {fs : List (Str × V)} (I : Inv (X.suite a ((a, oe) :: pn)) pins σ H s) (hz : Zc cls d oe) (hf : ∃ vs, oe.data = .fields vs) (h : Of X.K cls d H C fs) :
    ∃ od, PySem.W.InstAt s.heap a oe C (some od) := by
  obtain ⟨T, rfl, dd, rfl, hx⟩ := h
  obtain ⟨at_, _⟩ := I.pin (a, oe) (List.mem_append_left _ List.mem_cons_self)
  obtain ⟨vs, hd⟩ := hf
  have ok : ObjOk X.prog X.w H s.heap dd (.xd fs) := I.hok dd _ hx
  obtain ⟨mA, ns, _⟩ := ok
  obtain ⟨od, ho, _⟩ := lookIn_ns ns
  exact ⟨od, at_, hz.1, by unfold PySem.W.notCls; rw [hd] <;> rfl, by rw [hz.2]; exact ho⟩
theorem call_isG (hz : Zc cls d oe) (hf : ∃ vs, oe.data = .fields vs) : CallR (X.suite a ((a, oe) :: pn)) (.builtin "isinstance") (rIsG X.K a cls d) := by
  intro pl sh σ H xs us Q I r h
  obtain ⟨C, D, fs, b, rfl, of_, e, q⟩ := h
  obtain ⟨u1, u2, rfl, r1, r2⟩ := vals2 r
  cases r1
  cases r2
  obtain ⟨od, J⟩ := of_inst I hz hf of_
  have T := of_.1
  exact PySem.W.kia_one (PySem.W.kitx_exc (cls_some T.hd) T.hg T.hk T.hs T.ha T.hn T.ht T.hm) I.kIn J e (fun z => nomatch z) fun tk => ⟨.bl b, H, I.kept (t' := tk) fun _ _ z => z, rfl, q⟩
theorem call_isGT (hz : Zc cls d oe) (hf : ∃ vs, oe.data = .fields vs) : CallR (X.suite a ((a, oe) :: pn)) (.builtin "isinstance") (rIsGT X.K a cls d) := by
  intro pl sh σ H xs us Q I r h
  obtain ⟨C, tp, fs, cs, ws, b, rfl, hT, k, of_, e, q⟩ := h
  obtain ⟨u1, u2, rfl, r1, r2⟩ := vals2 r
  cases r1
  cases (show u2 = Value.ref tp from r2)
  obtain ⟨od, J⟩ := of_inst I hz hf of_
  have T := of_.1
  obtain ⟨_, its, rv, o, h1, h2, n, h3⟩ := (show ObjOk X.prog X.w H sh.heap tp (.tup cs) from I.hok tp _ hT)
  have e3 := ClsV.all k rv
  subst e3
  obtain ⟨oc, od2, dt, sl⟩ := o
  simp only at h2 h3
  subst h2 h3
  exact PySem.W.kia_tup (PySem.W.kitx_exc (cls_some T.hd) T.hg T.hk T.hs T.ha T.hn T.ht T.hm) I.kIn J h1 e (fun z => nomatch z) fun tk => ⟨.bl b, H, I.kept (t' := tk) fun _ _ z => z, rfl, q⟩
theorem pe_xfG {e : Expr} {te : TE} {pos : Pos} {n : Str} (hz : Zc cls d oe) (hf : ∃ vs, oe.data = .fields vs) (he : PE (X.suite a ((a, oe) :: pn)) e te) (hb : attributeBase e n X.env (eval e X.env) = eval e X.env := by rfl) :
    PE (X.suite a ((a, oe) :: pn)) (.Attribute e n pos) (tXfG X.K a cls d n te) := by
  refine ⟨fun pins s σ H Q I h => ?_⟩
  refine attr_of hb (thn (he.run pins s σ H _ I h) fun u s1 hh => ?_)
  obtain ⟨x, H1, I1, rx, ex, C, fs, v, of_, hno, l, q⟩ := hh
  subst ex
  obtain rfl : u = Value.ref a := rx
  have T := of_.1
  obtain ⟨T', rfl, dd, rfl, ea⟩ := of_
  obtain ⟨ha, _⟩ := I1.pin (a, oe) (List.mem_append_left _ List.mem_cons_self)
  obtain ⟨vs, hd⟩ := hf
  have hx : ObjOk X.prog X.w H1 s1.heap dd (.xd fs) := I1.hok dd _ ea
  obtain ⟨mA, hns, hr⟩ := hx
  obtain ⟨od, ho, hl⟩ := lookIn_ns hns
  obtain ⟨u, hu, ru⟩ := RelO.some_of (v := v) (o := mA n) (by rw [← l]; exact hr n)
  have J : PySem.W.InstAt s1.heap a oe C (some od) := ⟨ha, hz.1, by unfold PySem.W.notCls; rw [hd] <;> rfl, by rw [hz.2]; exact ho⟩
  have F := xf_of T
  exact HandSPX.exc_get I1.kIn J F.ga F.gg F.exC (PySem.W.findObj_own F.hdC hno rfl (by rw [hl, hu])) (handed_of ru) ⟨v, H1, I1.tok _, ru, q⟩
end
end Gr
namespace K18
open PySem PySem.Spec PyProof.Rows L2 Gr 
theorem _root_.Gr.FunS.kb {K : PySem.W.Frag} {x qual : Str} {params : Arguments} {body : List Stmt} {scope : Scope} {f cc cda : Addr} {fd : FuncData} {ps : List Str} (F : FunS K x qual params body scope f cc cda fd) (n : Nat) (ks : List Str)
    (h : ∀ (kV doc pm : Value) (an : Option Addr) (ct : Value) (us ws : List Value), us.length = n → ws.length = ks.length → bindArgs (PySem.W.fnX x qual params body scope [("__class__", cc)] .none kV doc pm an (.ref cda) ct) ⟨us, ks.zip ws⟩ = pure (ps.zip (us ++ ws))) : KBn K fd ps n ks (fun us ws => us ++ ws) (fun vs zs => vs ++ zs) := by
  obtain ⟨oc, od, kV, doc, pm, an, ct, osl, rfl, lk, hcd⟩ := F.ex
  exact ⟨fun s us ws _ l1 l2 => .of_eq (h kV doc pm an ct us ws l1 l2), fun r1 r2 => r1.append r2⟩
structure CatT (K : PySem.W.Frag) (mg : Str → Option Value) (CD CT CN EP : Addr) : Prop where
  gD : mg "NoDeeds" = some (.ref CD)
  gT : mg "NoTests" = some (.ref CT)
  gN : mg "NoNumber" = some (.ref CN)
  gP : mg "PlanError" = some (.ref EP)
  eD : ExcC K CD
  eT : ExcC K CT
  eN : ExcC K CN
  nD : PySem.W.findIn K (.ref CD) "found" = some none
  nT : PySem.W.findIn K (.ref CT) "found" = some none
  nN : PySem.W.findIn K (.ref CN) "found" = some none
  xDD : PySem.W.exmOne K (.ref CD) (.ref CD) = some true
  xTD : PySem.W.exmOne K (.ref CT) (.ref CD) = some false
  xTT : PySem.W.exmOne K (.ref CT) (.ref CT) = some true
  xND : PySem.W.exmOne K (.ref CN) (.ref CD) = some false
  xNT : PySem.W.exmOne K (.ref CN) (.ref CT) = some false
  xNN : PySem.W.exmOne K (.ref CN) (.ref CN) = some true
  kDP : PySem.W.kitOne K (.ref CD) (.ref EP) = some true
  kTP : PySem.W.kitOne K (.ref CT) (.ref EP) = some true
  kNP : PySem.W.kitOne K (.ref CN) (.ref EP) = some true
  kDT : PySem.W.kitOne K (.ref CD) (.ref CT) = some false
  kDN : PySem.W.kitOne K (.ref CD) (.ref CN) = some false
  kTD : PySem.W.kitOne K (.ref CT) (.ref CD) = some false
  kTN : PySem.W.kitOne K (.ref CT) (.ref CN) = some false
  kND : PySem.W.kitOne K (.ref CN) (.ref CD) = some false
  kNT : PySem.W.kitOne K (.ref CN) (.ref CT) = some false
theorem cls2 (A B : Addr) : Paired ClsV [V.ref A, .ref B] [.ref A, .ref B] := .cons (.own _) (.cons (.own _) .nil)
def wordW (way : Int) : Str := if way < 4 then "deeds" else if way < 8 then "tests" else "number"
def outW (way : Int) (v : V) (b : Bool) : List V := if b = true then [.str "made"] else [.str (wordW way), v, .bl true]
def spTried (K : PySem.W.Frag) : Sp := fun vs H Q _ => ∃ (way : Int) (v : V) (d : PyData), vs = [.int way, v] ∧ 0 ≤ way ∧ way < 12 ∧ Dn K H v d ∧ ∀ L G, Same H G → H L = none → G L = some (.lst (outW way v (goodW way d))) → Q (.ref L) G
theorem scTried : FnScope ["_law_way", "_law_thing_here", "e"] ["_law_way", "_law_thing_here"] (defScope lTried) := ⟨rfl, rfl, rfl, by decide +kernel, rfl, by decide +kernel, by decide +kernel⟩
section
variable {P : Program} {w : World} {K : PySem.W.Frag} {mg : Str → Option Value} {base : Heap} {f CD CT CN EP fP : Addr} {fd fdP : FuncData} {c fi : _root_.Fin 8 → Addr} {fdi : _root_.Fin 8 → FuncData}
theorem ok_tried (F : Fun K "_law_tried" "_law_tried" lTried f fd) (M : Mcs P w K mg base CD CT CN c fi fdi) (PL : CalE P w K mg base 9 "_law_by_place" ["_law_way", "_law_thing_here"] (spPlace K CD CT CN) fP fdP) (CC : CatT K mg CD CT CN EP)
    (kbT : KBn K (fdi 0) ["self", "deeds"] 1 ["deeds"] (fun us ws => us ++ ws) (fun vs zs => vs ++ zs)) (kbW : KBn K (fdi 2) ["self", "tests"] 1 ["tests"] (fun us ws => us ++ ws) (fun vs zs => vs ++ zs)) (m_isinstance : mg "isinstance" = none) : FnOk P w K mg base CX0 10 f fd ["_law_way", "_law_thing_here"] (spTried K) := by
  refine F.ok scTried (fun vs H Q E h => ?_) (fun cdv A outer s0 H vs Q E hr h => ?_)
  · obtain ⟨way, v, d, rfl, _⟩ := h
    rfl
  obtain ⟨way, v, d, rfl, w0, w12, hd, q⟩ := h
  refine ⟨_, (pss_one (L2N.gr_tryN rfl rfl
      (fun W pn xe tk po => pss_cons (ps_if (pt_cmpR op_eq (pv 0) pe_int (nomark _))
         (pss_one (ps_expr (pe_makeK0S (E := WE W) M.turned.mkC M.turned.ok (hr.mono (by omega)) rfl M.turned.at_ kbT (fun σ => L2N.passAt tk σ) (pk_cons (pv 1) pk_nil))))
         (pss_one (ps_if (pt_cmpR op_eq (pv 0) pe_int (nomark _))
          (pss_one (ps_expr (pe_makeK0S (E := WE W) M.while_.mkC M.while_.ok (hr.mono (by omega)) rfl M.while_.at_ kbW (fun σ => L2N.passAt tk σ) (pk_cons (pv 1) pk_nil))))
          (pss_one (ps_if (pt_cmpR op_eq (pv 0) pe_int (nomark _))
           (pss_one (ps_expr (pe_makeW (E := WE W) M.windows.mkC M.windows.ok (hr.mono (by omega)) rfl M.windows.at_ M.windows.bd (fun σ => L2N.passAt tk σ) (pa_cons (pv 1) pa_nil))))
           (pss_one (ps_expr (L2.pe_callS (E := WE W) PL.ok hr rfl PL.at_ PL.kp PL.bd (fun σ => L2N.passAt tk σ) (pa_cons (pv 0) (pa_cons (pv 1) pa_nil))))))))))
        (pss_one (ps_ret (pe_lst (pa_cons pe_str pa_nil)))))
      (L2N.hds_as (j := 2) scTried.nd rfl rfl ⟨rfl, by decide, .inl CC.gD⟩
        (fun a oe cls dd pn hz hfl => pss_one (ps_ret (pe_lst (pa_cons pe_str (pa_cons (show PE _ _ (tXfG K a cls dd "found" (tVar 2)) from pe_xfG hz.zc hfl (pv 2)) (pa_cons (pe_and (pe_callB (show CallR _ (.builtin "isinstance") (rIsG K a cls dd) from call_isG hz.zc hfl) rfl m_isinstance boot_isi (pa_cons (pv 2) (pa_cons (pe_glob (v := .ref EP) rfl CC.gP rfl) pa_nil))) (pe_one (pe_not (pe_callB (show CallR _ (.builtin "isinstance") (rIsGT K a cls dd) from call_isGT hz.zc hfl) rfl m_isinstance boot_isi (pa_cons (pv 2) (pa_cons (pe_tup (pa_cons (pe_glob (v := .ref CT) rfl CC.gT rfl) (pa_cons (pe_glob (v := .ref CN) rfl CC.gN rfl) pa_nil))) pa_nil)))))) pa_nil))))))
      (L2N.hds_as (j := 2) scTried.nd rfl rfl ⟨rfl, by decide, .inl CC.gT⟩
        (fun a oe cls dd pn hz hfl => pss_one (ps_ret (pe_lst (pa_cons pe_str (pa_cons (show PE _ _ (tXfG K a cls dd "found" (tVar 2)) from pe_xfG hz.zc hfl (pv 2)) (pa_cons (pe_and (pe_callB (show CallR _ (.builtin "isinstance") (rIsG K a cls dd) from call_isG hz.zc hfl) rfl m_isinstance boot_isi (pa_cons (pv 2) (pa_cons (pe_glob (v := .ref EP) rfl CC.gP rfl) pa_nil))) (pe_one (pe_not (pe_callB (show CallR _ (.builtin "isinstance") (rIsGT K a cls dd) from call_isGT hz.zc hfl) rfl m_isinstance boot_isi (pa_cons (pv 2) (pa_cons (pe_tup (pa_cons (pe_glob (v := .ref CD) rfl CC.gD rfl) (pa_cons (pe_glob (v := .ref CN) rfl CC.gN rfl) pa_nil))) pa_nil)))))) pa_nil))))))
      (L2N.hds_as (j := 2) scTried.nd rfl rfl ⟨rfl, by decide, .inl CC.gN⟩
        (fun a oe cls dd pn hz hfl => pss_one (ps_ret (pe_lst (pa_cons pe_str (pa_cons (show PE _ _ (tXfG K a cls dd "found" (tVar 2)) from pe_xfG hz.zc hfl (pv 2)) (pa_cons (pe_and (pe_callB (show CallR _ (.builtin "isinstance") (rIsG K a cls dd) from call_isG hz.zc hfl) rfl m_isinstance boot_isi (pa_cons (pv 2) (pa_cons (pe_glob (v := .ref EP) rfl CC.gP rfl) pa_nil))) (pe_one (pe_not (pe_callB (show CallR _ (.builtin "isinstance") (rIsGT K a cls dd) from call_isGT hz.zc hfl) rfl m_isinstance boot_isi (pa_cons (pv 2) (pa_cons (pe_tup (pa_cons (pe_glob (v := .ref CD) rfl CC.gD rfl) (pa_cons (pe_glob (v := .ref CT) rfl CC.gT rfl) pa_nil))) pa_nil)))))) pa_nil))))))
      L2N.hds_nil)))
      pss_nil)), ?_⟩
  have zl := sizeLine_eq
  have big : ∀ k : Nat, k ≤ 20 → k ≤ sizeLine := fun k h => by omega
  have fin : ∀ (G : Hp) (U : Addr), Same H G → G U = none → ∀ o, o = HO.lst (outW way v (goodW way d)) → Q (.ref U) (upd G U o) := fun G U s hU o e => q U _ (s.trans (same_new hU _)) (none_of_same s hU) (by rw [upd_same, e])
  refine tryN_use (fun W => goodW way d = false → ∀ (G : Hp) (dd : Addr), Same H G → G dd = some (.xd [("found", v)]) → W (.ref (ceW CD CT CN way)) (some dd) [some (.int way), some v, none] G) ?_ fun W hW => ?_
  · intro hg G dd s2 eX
    have ou : outW way v (goodW way d) = [.str (wordW way), v, .bl true] := by unfold outW; rw [hg]; rfl
    by_cases c1 : way < 4
    · have ce : ceW CD CT CN way = CD := by unfold ceW; rw [if_pos c1]
      have wd : wordW way = "deeds" := by unfold wordW; rw [if_pos c1]
      rw [ce]
      refine ⟨true, CC.xDD, fun _ a ha => ?_, fun z => nomatch z⟩
      refine ⟨_, rfl, rfl, CD, _, _, ⟨CC.eD, rfl, dd, rfl, eX⟩, CC.nD, rfl, ?_⟩
      refine ⟨_, rfl, CD, EP, _, true, rfl, ⟨CC.eD, rfl, dd, rfl, eX⟩, CC.kDP, _, rfl, ?_⟩
      refine iteT ?_
      refine ⟨_, rfl, big 2 (by decide), fun T3 hT3 => ?_⟩
      have s3 := same_new hT3 (.tup [.ref CT, .ref CN])
      refine ⟨_, T3, _, _, _, false, rfl, upd_same, cls2 CT CN, ⟨CC.eD, rfl, dd, rfl, s3 _ _ eX⟩, by simp [PySem.W.kitAny, CC.kDT, CC.kDN], ?_⟩
      exact ⟨_, rfl, big 3 (by decide), fun U hU => fin _ U (s2.trans s3) hU _ (by rw [ou, wd]; rfl)⟩
    by_cases c2 : way < 8
    · have ce : ceW CD CT CN way = CT := by unfold ceW; rw [if_neg c1, if_pos c2]
      have wd : wordW way = "tests" := by unfold wordW; rw [if_neg c1, if_pos c2]
      rw [ce]
      refine ⟨false, CC.xTD, fun z => (nomatch z), fun _ => ⟨true, CC.xTT, fun _ a ha => ?_, fun z => nomatch z⟩⟩
      refine ⟨_, rfl, rfl, CT, _, _, ⟨CC.eT, rfl, dd, rfl, eX⟩, CC.nT, rfl, ?_⟩
      refine ⟨_, rfl, CT, EP, _, true, rfl, ⟨CC.eT, rfl, dd, rfl, eX⟩, CC.kTP, _, rfl, ?_⟩
      refine iteT ?_
      refine ⟨_, rfl, big 2 (by decide), fun T3 hT3 => ?_⟩
      have s3 := same_new hT3 (.tup [.ref CD, .ref CN])
      refine ⟨_, T3, _, _, _, false, rfl, upd_same, cls2 CD CN, ⟨CC.eT, rfl, dd, rfl, s3 _ _ eX⟩, by simp [PySem.W.kitAny, CC.kTD, CC.kTN], ?_⟩
      exact ⟨_, rfl, big 3 (by decide), fun U hU => fin _ U (s2.trans s3) hU _ (by rw [ou, wd]; rfl)⟩
    · have ce : ceW CD CT CN way = CN := by unfold ceW; rw [if_neg c1, if_neg c2]
      have wd : wordW way = "number" := by unfold wordW; rw [if_neg c1, if_neg c2]
      rw [ce]
      refine ⟨false, CC.xND, fun z => (nomatch z), fun _ => ⟨false, CC.xNT, fun z => (nomatch z), fun _ => ⟨true, CC.xNN, fun _ a ha => ?_, fun z => nomatch z⟩⟩⟩
      refine ⟨_, rfl, rfl, CN, _, _, ⟨CC.eN, rfl, dd, rfl, eX⟩, CC.nN, rfl, ?_⟩
      refine ⟨_, rfl, CN, EP, _, true, rfl, ⟨CC.eN, rfl, dd, rfl, eX⟩, CC.kNP, _, rfl, ?_⟩
      refine iteT ?_
      refine ⟨_, rfl, big 2 (by decide), fun T3 hT3 => ?_⟩
      have s3 := same_new hT3 (.tup [.ref CD, .ref CT])
      refine ⟨_, T3, _, _, _, false, rfl, upd_same, cls2 CD CT, ⟨CC.eN, rfl, dd, rfl, s3 _ _ eX⟩, by simp [PySem.W.kitAny, CC.kND, CC.kNT], ?_⟩
      exact ⟨_, rfl, big 3 (by decide), fun U hU => fin _ U (s2.trans s3) hU _ (by rw [ou, wd]; rfl)⟩
  · have good : goodW way d = true → ∀ G, Same H G → ∀ U, G U = none → Q (.ref U) (upd G U (.lst [.str "made"])) := fun hg G s U hU => fin G U s hU _ (by unfold outW; rw [hg]; rfl)
    have dI : ∀ a : Int, decide (V.int way = V.int a) = decide (way = a) := fun a => by
      by_cases h : way = a
      · rw [h, decide_eq_true rfl, decide_eq_true rfl]
      · rw [decide_eq_false h, decide_eq_false (fun z => h (V.int.inj z))]
    refine ⟨_, rfl, rfl, _, rfl, ?_⟩
    rw [dI]
    refine ite2 (fun c1 => ?_) (fun c1 => ?_)
    · have c1 := of_decide_eq_true c1
      have g : goodW way d = isDeeds d := by unfold goodW; rw [if_pos (by omega)]
      have ce : ceW CD CT CN way = CD := by unfold ceW; rw [if_pos (by omega)]
      refine ⟨_, rfl, rfl, rfl, fun x dx hx hdx ne => ?_⟩
      refine new_mk (Q := fun _ G => [V.str "made"].length ≤ sizeLine ∧ ∀ U, G U = none → Q (.ref U) (upd G U (.lst [.str "made"]))) (E := WE W [some (.int way), some v, none]) M.turned.mc hd (fun hb F dd s n e => ?_) (fun hg x dx L M G hx s _ _ _ _ _ => ?_) hx hdx ne
      · exact ce ▸ hW (g.trans hb) F dd s e
      · exact ⟨big 1 (by decide), fun U hU => good (g.trans hg) G s U hU⟩
    have c1 := of_decide_eq_false (Bool.eq_false_iff.mpr c1)
    refine ⟨_, rfl, rfl, _, rfl, ?_⟩
    rw [dI]
    refine ite2 (fun c2 => ?_) (fun c2 => ?_)
    · have c2 := of_decide_eq_true c2
      have g : goodW way d = isTests d := by unfold goodW; rw [if_neg (by omega), if_pos (by omega)]
      have ce : ceW CD CT CN way = CT := by unfold ceW; rw [if_neg (by omega), if_pos (by omega)]
      refine ⟨_, rfl, rfl, rfl, fun x dx hx hdx ne => ?_⟩
      refine new_mk (Q := fun _ G => [V.str "made"].length ≤ sizeLine ∧ ∀ U, G U = none → Q (.ref U) (upd G U (.lst [.str "made"]))) (E := WE W [some (.int way), some v, none]) M.while_.mc hd (fun hb F dd s n e => ?_) (fun hg x dx L M G hx s _ _ _ _ _ => ?_) hx hdx ne
      · exact ce ▸ hW (g.trans hb) F dd s e
      · exact ⟨big 1 (by decide), fun U hU => good (g.trans hg) G s U hU⟩
    have c2 := of_decide_eq_false (Bool.eq_false_iff.mpr c2)
    refine ⟨_, rfl, rfl, _, rfl, ?_⟩
    rw [dI]
    refine ite2 (fun c3 => ?_) (fun c3 => ?_)
    · have c3 := of_decide_eq_true c3
      have g : goodW way d = isWh (some 1) (some 8) d := by unfold goodW; rw [if_neg (by omega), if_neg (by omega), if_neg (by omega)]
      have ce : ceW CD CT CN way = CN := by unfold ceW; rw [if_neg (by omega), if_neg (by omega)]
      refine ⟨_, rfl, fun x dx hx hdx ne => ?_⟩
      refine new_mk (Q := fun _ G => [V.str "made"].length ≤ sizeLine ∧ ∀ U, G U = none → Q (.ref U) (upd G U (.lst [.str "made"]))) (E := WE W [some (.int way), some v, none]) M.windows.mc hd (fun hb F dd s n e => ?_) (fun hg x dx L M G hx s _ _ _ _ _ => ?_) hx hdx ne
      · exact ce ▸ hW (g.trans hb) F dd s e
      · exact ⟨big 1 (by decide), fun U hU => good (g.trans hg) G s U hU⟩
    · have c3 := of_decide_eq_false (Bool.eq_false_iff.mpr c3)
      refine ⟨_, rfl, _, rfl, way, v, d, rfl, w0, by omega, c1, c2, hd, fun hg G s => ⟨big 1 (by decide), fun U hU => good hg G s U hU⟩, fun hb F dd s n e => hW hb F dd s e⟩
end
end K18
/-! isinstance(e, C), e the exception that the suite holds, without fields, its class told by the promise. -/
namespace Gr
open PySem PySem.Spec PyProof.Rows L2
def rIs0 (K : PySem.W.Frag) (a : Addr) (cls : Value) (d : Option Addr) : List V → Hp → VK → Prop := fun xs H Q => ∃ (C D : Addr) (b : Bool), xs = [.ref a, .ref D] ∧ ExcC K C ∧ cls = .ref C ∧ d = none ∧ PySem.W.kitOne K (.ref C) (.ref D) = some b ∧ Q (.bl b) H
theorem call_is0 {X : Cx} {a : Addr} {oe : Obj} {cls : Value} {d : Option Addr} {pn : List (Addr × Obj)} (hz : Zc cls d oe) (hf : ∃ vs, oe.data = .fields vs) : CallR (X.suite a ((a, oe) :: pn)) (.builtin "isinstance") (rIs0 X.K a cls d) := by
  intro pins s σ H xs us Q I r h
  obtain ⟨C, D, b, rfl, T, rfl, rfl, e, q⟩ := h
  exact call_isE T hz hf pins s σ H _ us Q I r ⟨.ref D, .ref D, b, rfl, fun u z => z, e, q⟩
end Gr
namespace K18
open PySem PySem.Spec PyProof.Rows L2 Gr 
def spGood (K : PySem.W.Frag) : Sp := fun vs H Q _ => ∃ (st : Addr) (n : Nat) (way : Int), vs = [.ref st, .int way] ∧ 0 ≤ way ∧ way < 12 ∧ StB H st (n + 170) ∧ ∀ (v : V) (d : PyData) (G : Hp), TurnB st n H G → Dn K G v d → goodW way d = true → Q v G
theorem scGood : FnScope ["_law_box_here", "_law_way"] ["_law_box_here", "_law_way"] (defScope lGood) := ⟨rfl, rfl, rfl, by decide +kernel, rfl, by decide +kernel, by decide +kernel⟩
/-- a machine with nothing ready -/
def spBare (P : Program) (w : World) (K : PySem.W.Frag) (mg : Str → Option Value) (base : Heap) (CO : Addr) : Sp := fun vs H Q _ => ∃ (x C dx L : Addr) (fs : List Str) (ex : List (Str × V)), vs = [.ref x] ∧ H x = some (.ins C dx (("lying", .ref L) :: ex)) ∧ ex.lookup ("gives" : Str) = none ∧ McC K C fs ∧ H L = some (.lst []) ∧ MOk P w K mg base (L2N.CX P w) 1 C "gives" (spGives K CO) ∧ ∀ G, Same H G → Q (.bl true) G
structure CatO (K : PySem.W.Frag) (mg : Str → Option Value) (CO CB EP : Addr) : Prop where
  gO : mg "Over" = some (.ref CO)
  gB : mg "Barred" = some (.ref CB)
  gP : mg "PlanError" = some (.ref EP)
  eO : ExcC K CO
  xOO : PySem.W.exmOne K (.ref CO) (.ref CO) = some true
  kOB : PySem.W.kitOne K (.ref CO) (.ref CB) = some true
  kOP : PySem.W.kitOne K (.ref CO) (.ref EP) = some false
theorem scBare : FnScope ["_law_machine", "e"] ["_law_machine"] (defScope lBare) := ⟨rfl, rfl, rfl, by decide +kernel, rfl, by decide +kernel, by decide +kernel⟩
section
variable {P : Program} {w : World} {K : PySem.W.Frag} {mg : Str → Option Value} {base : Heap} {f fT fD fE CO CB EP : Addr} {fd fdT fdD fdE : FuncData}
theorem ok_good (F : Fun K "_law_good" "_law_good" lGood f fd) (TA : Cal P w K mg base 1 "_law_take" ["_law_box_here", "_law_many"] spTake fT fdT) (DE : Cal P w K mg base 2 "_law_deeds" ["_law_box_here"] spDe fD fdD) (TE : Cal P w K mg base 3 "_law_tests" ["_law_box_here"] spTe fE fdE) : FnOk P w K mg base CX0 4 f fd ["_law_box_here", "_law_way"] (spGood K) := by
  refine F.ok scGood (fun vs H Q E h => ?_) (fun cdv A outer s0 H vs Q E hr h => ?_)
  · obtain ⟨st, n, way, rfl, _⟩ := h
    rfl
  obtain ⟨st, n, way, rfl, w0, w12, hS, q⟩ := h
  refine ⟨_, (pss_cons (ps_if (pt_cmpR op_lt (pv 1) pe_int (nomark _))
 (pss_one (ps_ret (pe_cal DE hr rfl (pa_cons (pv 0) pa_nil))))
 pss_nil)
 (pss_one (ps_ret (pe_ifExp (pt_cmpR op_lt (pv 1) pe_int (nomark _)) (pe_cal TE hr rfl (pa_cons (pv 0) pa_nil)) (pe_ix ix_list (pe_lst (pa_cons pe_int (pa_cons pe_int (pa_cons (pe_op op_add pe_int (pe_cal TA hr rfl (pa_cons (pv 0) (pa_cons pe_int pa_nil)))) pa_nil)))) (pe_cal TA hr rfl (pa_cons (pv 0) (pa_cons pe_int pa_nil))) (fun _ _ => rfl)))))), ?_⟩
  have zl := sizeLine_eq
  have big : ∀ k : Nat, k ≤ 20 → k ≤ sizeLine := fun k h => by omega
  refine ⟨_, rfl, _, _, rfl, rfl, _, rfl, ?_⟩
  refine ite2 (fun c1 => ?_) (fun c1 => ?_)
  · have c1 := of_decide_eq_true c1
    refine ⟨_, rfl, st, n + 153, rfl, hS.mono (by omega), fun v ds G t hD l8 al ft => ?_⟩
    refine q v (.tuple ds) G (t.mono (by omega)) (hD.le tups_le).dq.dn ?_
    unfold goodW
    rw [if_pos c1]
    simp [isDeeds, l8, al]
  have c1 := of_decide_eq_false (Bool.eq_false_iff.mpr c1)
  refine ⟨_, rfl, _, _, rfl, rfl, _, rfl, ?_⟩
  refine ite2 (fun c2 => ?_) (fun c2 => ?_)
  · have c2 := of_decide_eq_true c2
    refine ⟨_, rfl, st, n, rfl, hS, fun v ds G t hD l1 l8 al ft => ?_⟩
    refine q v (.tuple ds) G t (hD.le tups_le).dq.dn ?_
    unfold goodW
    rw [if_neg c1, if_pos c2]
    simp [isTests, l8, al, l1]
  have c2 := of_decide_eq_false (Bool.eq_false_iff.mpr c2)
  refine ⟨_, rfl, st, 8, n + 1, rfl, hS.mono (by omega), by decide, by decide, fun a G1 a0 a8 t1 => ?_⟩
  refine ⟨_, _, rfl, rfl, big 3 (by decide), fun L hL => ?_⟩
  have t2 := TurnB.new t1.now hL (.lst [.int 1, .int 8, .int (1 + a)])
  have eL : (upd G1 L (.lst [.int 1, .int 8, .int (1 + a)])) L = some (.lst [.int 1, .int 8, .int (1 + a)]) := upd_same
  have nL := t1.now.ne hL
  refine (show ∀ Z : Hp → Prop, Z (upd G1 L (HO.lst [V.int 1, .int 8, .int (1 + a)])) → Z (upd G1 L (HO.lst [V.int 1, .int 8, .int (1 + a)])) from fun _ z => z) _ ?_
  generalize upd G1 L (HO.lst [V.int 1, .int 8, .int (1 + a)]) = G2 at t2 eL ⊢
  refine ⟨_, rfl, st, 3, n, rfl, t2.now.mono (by omega), by decide, by decide, fun r G3 r0 r1 t3 => ?_⟩
  obtain ⟨i, hi, ei⟩ := at_ints [1, 8, 1 + a] r r0 r1
  refine ⟨L, _, _, .int i, rfl, rfl, SqL.of (t3.keep nL eL), ei, ?_⟩
  refine q (.int i) (.int i) G3 ((t1.trans t2).trans t3) (.int i) ?_
  have hi2 : 1 ≤ i ∧ i ≤ 8 := by
    simp only [List.mem_cons, List.not_mem_nil, or_false] at hi
    rcases hi with rfl | rfl | rfl <;> omega
  unfold goodW
  rw [if_neg c1, if_neg c2]
  split <;> simp only [isWh, inB, Bool.and_eq_true, decide_eq_true_eq] <;> omega
theorem ok_bare (F : Fun K "_law_bare" "_law_bare" lBare f fd) (CC : CatO K mg CO CB EP) (m_isinstance : mg "isinstance" = none) : FnOk P w K mg base CX0 2 f fd ["_law_machine"] (spBare P w K mg base CO) := by
  refine F.ok scBare (fun vs H Q E h => ?_) (fun cdv A outer s0 H vs Q E hr h => ?_)
  · obtain ⟨x, C, dx, L, fs, ex, rfl, _⟩ := h
    rfl
  obtain ⟨x, C, dx, L, fs, ex, rfl, hx, ng, mc, hL, mo, q⟩ := h
  refine ⟨_, (pss_cons (L2N.gr_tryN rfl rfl
      (fun W pn xe tk po => pss_one (ps_expr (show PE _ _ (tMethV P w K mg base (L2N.CX P w) 1 "gives" (WE W) (tVar 0) tNil) from pe_methV0 (pv 0) hr (fun σ => L2N.passAt tk σ))))
      (L2N.hds_as (j := 1) scBare.nd rfl rfl ⟨rfl, by decide, .inl CC.gO⟩
        (fun a oe cls dd pn hz hfl => pss_one (ps_ret (pe_and (pe_callB (show CallR _ (.builtin "isinstance") (rIs0 K a cls dd) from call_is0 hz.zc hfl) rfl m_isinstance boot_isi (pa_cons (pv 1) (pa_cons (pe_glob (v := .ref CB) rfl CC.gB rfl) pa_nil))) (pe_one (pe_not (pe_callB (show CallR _ (.builtin "isinstance") (rIs0 K a cls dd) from call_is0 hz.zc hfl) rfl m_isinstance boot_isi (pa_cons (pv 1) (pa_cons (pe_glob (v := .ref EP) rfl CC.gP rfl) pa_nil))))))))
       L2N.hds_nil)
      pss_nil)
    (pss_one (ps_ret pe_bl))), ?_⟩
  have fl : List.lookup ("gives" : Str) (("lying", V.ref L) :: ex) = none := by
    rw [List.lookup_cons]
    have : (("gives" : Str) == "lying") = false := by decide
    rw [this]
    exact ng
  refine tryN_use (fun W => ∀ (G : Hp), Same H G → W (.ref CO) none [some (.ref x), none] G) ?_ fun W hW => ?_
  · intro G s
    refine ⟨true, CC.xOO, fun _ a ha => ?_, fun z => nomatch z⟩
    refine ⟨_, rfl, CO, CB, true, rfl, CC.eO, rfl, rfl, CC.kOB, _, rfl, ?_⟩
    refine iteT ⟨_, rfl, CO, EP, false, rfl, CC.eO, rfl, rfl, CC.kOP, ?_⟩
    exact ⟨_, rfl, q G s⟩
  · refine ⟨_, rfl, x, C, dx, _, _, rfl, hx, fl, mo, ?_⟩
    exact ⟨x, C, dx, L, fs, ex, [], rfl, hx, mc, hL, fun _ G s => hW G s, fun y ys e => by cases e⟩
end
end K18
/-! t == (), whatever the items. -/
namespace Gr
open PySem PySem.Spec PyProof.Rows L2
section
variable {X : Cx}
def rEqNilT (K : PySem.W.Frag) : R2 := fun x y H Q => ∃ (a b : Addr) (xs : List V), x = .ref a ∧ y = .ref b ∧ SqT K H a xs ∧ SqT K H b [] ∧ Q (.bl xs.isEmpty) H
theorem op_eqNilT (hu : X.A.units + 64 < cLine) : OpR X (compareOp .Eq) (rEqNilT X.K) := by
  intro pins s σ H x y v u Q I rx ry h
  obtain ⟨a, b, xs, rfl, rfl, ha, hb, q⟩ := h
  cases rx
  cases ry
  obtain ⟨its, rv, pl, _⟩ := I.tuple ha
  obtain ⟨its2, rv2, pl2, _⟩ := I.tuple hb
  cases rv2
  refine PySem.SeqAt.eq_tupleAt (e := fun _ => false) pl pl2 (by omega) (fun j h1 h2 => absurd h2 (by simp)) ⟨.bl xs.isEmpty, H, I, ?_, q⟩
  cases rv with
  | nil => rfl
  | cons r1 r2 => rfl
end
end Gr
/-! x == (), x any datum or a dict -/
namespace PySem.SeqAt
open AutoSeq1 (wpAny_loadPart')
open MeetsSeq MeetsSeq2 MeetsSeq3 SeqRoads2
theorem gr_tupDict (b l : Addr) (o o2 : Obj) :
    Meets (Builtin.«tuple.__eq__» ⟨[.ref b, .ref l], []⟩) (fun _ R s => s.heap.get? b = some o2 ∧ (∃ items n, o2.data = .seq items n) ∧ s.heap.get? l = some o ∧ o.cls = .type "dict" ∧ (∃ es n, o.data = .dict es n) ∧ R (.ok (.ret .notImplemented)) s) :=
  .of_wp fun prog w A R s h => by
    obtain ⟨hp, g, d, tk, os⟩ := s; obtain ⟨hb, ⟨its, m, hs⟩, hl, hc, ⟨es, n, hd⟩, h⟩ := h
    obtain ⟨c, dd, da, sl⟩ := o
    obtain ⟨c2, dd2, da2, sl2⟩ := o2
    dsimp only at hd hs
    subst hd hs hc
    have f1 := PySem.F.sub_dict_tuple
    wp_walk using wpAny_loadPart' hl, wpAny_load hl, wpAny_loadPart' hb, wpAny_load hb
    exact ⟨_, rfl, h⟩
section
variable {prog : Program} {w : World} {A : Around} {s : Shared}
theorem gr_dictTup {a b : Addr} {o o2 : Obj} {E : Value → Shared → Prop} {Q : Value → Shared → Prop} (ho : s.heap.get? a = some o) (hc : o.cls = .type "dict") (ho2 : s.heap.get? b = some o2) (hc2 : o2.cls = .type "tuple") (h : Q .notImplemented s) : wpAny (model prog w) A (call (.builtin "dict.__eq__") [.ref a, .ref b]) Q E s := by
  have ty : s.TypeIs (.ref a) "dict" := ⟨_, ho, hc⟩
  have ty2 : s.TypeIs (.ref b) "tuple" := ⟨_, ho2, hc2⟩
  refine wpAny_call_entry PySem.F.slot_dict_eq ty PySem.F.entry_dict_eq ?_ (PySem.F.args_dict_eq_2 _ _)
  show wpAny _ _ (Builtin.Dict.dictSlotArgs "__eq__" ⟨[.ref a, .ref b], []⟩ >>= _) _ _ s
  refine wpAny_bind ?_
  unfold Builtin.Dict.dictSlotArgs
  refine wpAny_bind (wpAny_notOrdered_dict ty ?_)
  show wpAny _ _ (pure (Value.ref a, Value.ref b)) _ _ s
  refine wpAny_pure ?_
  refine wpAny_bind (wpAny_isInstance (T := "tuple") ty2 PySem.F.sub_tuple_dict ?_)
  simp only [Bool.not_false, if_true]
  exact wpAny_bind (wpAny_rule (wpAny_pure ⟨_, rfl, h⟩))
end
end PySem.SeqAt
namespace Gr
open PySem PySem.Spec PyProof.Rows L2
/-- what is no tuple -/
inductive NoTup (K : PySem.W.Frag) (H : Hp) : V → Prop
  | non : NoTup K H .non
  | bl (b : Bool) : NoTup K H (.bl b)
  | int (i : Int) : NoTup K H (.int i)
  | str (z : Str) : NoTup K H (.str z)
  | lst {a : Addr} {xs : List V} : SqL K H a xs → NoTup K H (.ref a)
  | dic {a : Addr} {kvs : List (Key × V)} : H a = some (.dK kvs) → NoTup K H (.ref a)
def rEqU (K : PySem.W.Frag) : R2 := fun x y H Q => ∃ b, y = .ref b ∧ SqT K H b [] ∧ ((∃ a xs, x = .ref a ∧ SqT K H a xs ∧ Q (.bl xs.isEmpty) H) ∨ (NoTup K H x ∧ Q (.bl false) H))
theorem op_eqU {X : Cx} (hu : X.A.units + 64 < cLine) : OpR X (compareOp .Eq) (rEqU X.K) := by
  intro pins s σ H x y v u Q I rx ry h
  obtain ⟨b, rfl, hb, h⟩ := h
  rcases h with ⟨a, xs, rfl, ha, q⟩ | ⟨nt, q⟩
  · exact op_eqNilT hu pins s σ H _ _ v u Q I rx ry ⟨a, b, xs, rfl, rfl, ha, hb, q⟩
  have hu1 : X.A.units < cLine := by omega
  have fin : EP X pins σ Q (.bool false) s := ⟨.bl _, H, I, rfl, q⟩
  cases ry
  obtain ⟨its, rv, ⟨o2, ho2, hc2, n2, hd2⟩, _⟩ := I.tuple hb
  show wpAny (model X.prog X.w) X.A (richCompare .Eq v (.ref b)) (EP X pins σ Q) X.xe s
  cases nt with
  | non => cases rx; exact SeqAt.RcAt.none_tuple ⟨_, ho2, hc2, _, hd2⟩ hu1 _ _ _ _ fin
  | bl c => cases rx; exact SeqAt.RcAt.bool_tuple _ ⟨_, ho2, hc2, _, hd2⟩ hu1 _ _ _ _ fin
  | int i => obtain ⟨_, rfl⟩ := rx; exact SeqAt.RcAt.int_tuple _ _ ⟨_, ho2, hc2, _, hd2⟩ hu1 _ _ _ _ fin
  | str x => obtain ⟨_, rfl⟩ := rx; exact SeqAt.RcAt.str_tuple _ _ ⟨_, ho2, hc2, _, hd2⟩ hu1 _ _ _ _ fin
  | lst hs =>
    cases rx
    obtain ⟨its3, rv3, ⟨o3, n3, ho3, hc3, _, hd3⟩, _⟩ := I.list hs
    exact SeqAt.RcAt.list_tuple ⟨_, ho3, hc3, _, hd3⟩ ⟨_, ho2, hc2, _, hd2⟩ hu1 _ _ _ _ fin
  | @dic a kvs ha =>
    cases rx
    obtain ⟨_, _, _, _, o, es, ep, ho, hx, hes, _⟩ := dk_of I.hok ha
    have ne : a ≠ b := fun z => by
      subst z
      rw [ho] at ho2
      cases ho2
      rw [hes] at hd2
      cases hd2
    refine SeqAt.rc_eq_decline_or (k := false) ⟨_, ho, hx.1⟩ ⟨_, ho2, hc2⟩ (by decide) PySem.F.sub_tuple_dict PySem.F.slot_dict_eq PySem.F.slot_tuple_eq
      (fun _ hq => SeqAt.gr_dictTup ho hx.1 ho2 hc2 hq)
      (fun _ hq => call_meets PySem.F.slot_tuple_eq ⟨_, ho2, hc2⟩ PySem.F.entry_tuple_eq (PySem.F.args_tuple_eq_2 _ _) (SeqAt.gr_tupDict b a o o2) ⟨ho2, ⟨_, _, hd2⟩, ho, hx.1, ⟨_, _, hes⟩, hq⟩)
      (fun _ hq => wpAny_isSame_ref_other ne ho ho2 (by rw [hx.1]; simp) hq) (.inr (by omega)) fin
end Gr
/-! texts != [] -/
namespace Gr
open PySem PySem.Spec PyProof.Rows L2
section
variable {X : Cx}
theorem strs_dp {K : PySem.W.Frag} {H : Hp} : ∀ cs : List Str, DpAll K H (cs.map V.str) (cs.map PyData.str)
  | [] => .nil
  | c :: cs => .cons (.str c) (strs_dp cs)
theorem strs_can : ∀ cs : List Str, (∀ c ∈ cs, PyData.strOk c = true) → PyData.canLayAll0 (cs.map PyData.str) = true
  | [], _ => by simp [PyData.canLayAll0]
  | c :: cs, h => by simp [PyData.canLayAll0, PyData.canLay0, strs_can cs fun d hd => h d (List.mem_cons_of_mem _ hd), h c (List.mem_cons_self ..)]
theorem strs_deep : ∀ cs : List Str, PyData.depthAll (cs.map PyData.str) = 0
  | [] => by simp [PyData.depthAll]
  | c :: cs => by simp [PyData.depthAll, PyData.depth, strs_deep cs]
theorem strs_shaped (cs : List Str) (h : ∀ c ∈ cs, PyData.strOk c = true) : SeqAt.shaped (.list (cs.map PyData.str)) = true := by
  have h1 := strs_can cs h
  have h2 := strs_deep cs
  simp [SeqAt.shaped, PyData.canLay0, PyData.depth, h1, h2]
theorem strs_nil : ∀ cs : List Str, PyData.eqv (.list (cs.map PyData.str)) (.list []) = cs.isEmpty
  | [] => by decide
  | c :: cs => by simp [PyData.eqv, PyData.eqvAll]
def rNeNil (K : PySem.W.Frag) : R2 := fun x y H Q => ∃ (a b : Addr) (cs : List Str), x = .ref a ∧ y = .ref b ∧ SqL K H a (cs.map V.str) ∧ SqL K H b [] ∧ (∀ c ∈ cs, PyData.strOk c = true) ∧ Q (.bl (!cs.isEmpty)) H
theorem op_neNil (hu : X.A.units + 64 < cLine) : OpR X (compareOp .NotEq) (rNeNil X.K) := by
  intro pins s σ H x y v u Q I rx ry h
  obtain ⟨a, b, cs, rfl, rfl, ha, hb, ok, q⟩ := h
  refine op_neD hu pins s σ H _ _ v u Q I rx ry ⟨.list (cs.map PyData.str), .list [], .lst ha (strs_dp cs), .lst hb .nil, strs_shaped cs ok, by decide, ?_⟩
  rw [strs_nil]
  exact q
end
end Gr
/-! lists of texts compared -/
namespace Gr
open PySem PySem.Spec PyProof.Rows L2
theorem strs_eqv : ∀ cs ds : List Str, PyData.eqv (.list (cs.map PyData.str)) (.list (ds.map PyData.str)) = decide (cs = ds)
  | [], [] => by decide
  | [], d :: ds => by simp [PyData.eqv, PyData.eqvAll]
  | c :: cs, [] => by simp [PyData.eqv, PyData.eqvAll]
  | c :: cs, d :: ds => by
    have ih := strs_eqv cs ds
    simp only [PyData.eqv] at ih
    simp only [List.map_cons, PyData.eqv, PyData.eqvAll, ih]
    by_cases h1 : c = d
    · subst h1
      simp
    · simp [h1]
def rEqS (K : PySem.W.Frag) : R2 := fun x y H Q => ∃ (a b : Addr) (cs ds : List Str), x = .ref a ∧ y = .ref b ∧ SqL K H a (cs.map V.str) ∧ SqL K H b (ds.map V.str) ∧ (∀ c ∈ cs, PyData.strOk c = true) ∧ (∀ c ∈ ds, PyData.strOk c = true) ∧ Q (.bl (decide (cs = ds))) H
theorem op_eqS {X : Cx} (hu : X.A.units + 64 < cLine) : OpR X (compareOp .Eq) (rEqS X.K) := by
  intro pins s σ H x y v u Q I rx ry h
  obtain ⟨a, b, cs, ds, rfl, rfl, ha, hb, ok, ok2, q⟩ := h
  refine op_eqD hu pins s σ H _ _ v u Q I rx ry ⟨.list (cs.map PyData.str), .list (ds.map PyData.str), .lst ha (strs_dp cs), .lst hb (strs_dp ds), strs_shaped cs ok, strs_shaped ds ok2, ?_⟩
  rw [strs_eqv]
  exact q
end Gr
namespace K18
open PySem PySem.Spec PyProof.Rows L2 Gr 
def spRight : Sp := fun vs H Q _ => ∃ (st : Addr) (n : Nat), vs = [.ref st] ∧ StB H st (n + 345) ∧ ∀ G, TurnB st n H G → Q (.bl true) G
theorem scRight : FnScope ["_law_box_here", "_law_way", "_law_thing_here", "_law_due", "_law_low", "_law_high", "_law_found"] ["_law_box_here"] (defScope lRight) := ⟨rfl, rfl, rfl, by decide +kernel, rfl, by decide +kernel, by decide +kernel⟩
section
variable {P : Program} {w : World} {K : PySem.W.Frag} {mg : Str → Option Value} {base : Heap} {f fT fD fE fN fF fG CD CT CN EP : Addr} {fd fdT fdD fdE fdN fdF fdG : FuncData}
theorem ok_right (F : Fun K "_law_right" "_law_right" lRight f fd) (TA : Cal P w K mg base 1 "_law_take" ["_law_box_here", "_law_many"] spTake fT fdT) (BD : Cal P w K mg base 3 "_law_bad_deeds" ["_law_box_here"] spBadD fD fdD) (BT : Cal P w K mg base 4 "_law_bad_tests" ["_law_box_here"] spBadT fE fdE) (BN : Cal P w K mg base 2 "_law_bad_number" ["_law_box_here", "_law_low", "_law_high"] spBadN fN fdN) (TR : Cal P w K mg base 10 "_law_tried" ["_law_way", "_law_thing_here"] (spTried K) fF fdF) (GO : Cal P w K mg base 4 "_law_good" ["_law_box_here", "_law_way"] (spGood K) fG fdG) (m_repr : mg "repr" = none) (m_isinstance : mg "isinstance" = none) (m_list : mg "list" = none) : FnQ P w K mg base CX0 11 f fd ["_law_box_here"] spRight := by
  refine fun_q F scRight (fun vs H Q E h => ?_) (fun cdv A outer s0 H vs Q E hg hr h => ?_)
  · obtain ⟨st, n, rfl, _⟩ := h
    rfl
  obtain ⟨st, n, rfl, hS, q⟩ := h
  have hgD : (A.deeper (envOfC "_law_right" (defScope lRight) s0.heap.objs.size f cdv)).guards = some [] := guards_in hg
  have rp {X : Cx} (e1 : X.A.guards = some []) (e2 : X.A.units + 64 < cLine) (e3 : X.K = K) : CallR X (.builtin "repr") (rShowN K) := e3 ▸ call_reprN e1 e2
  refine ⟨_, (pss_cons (ps_set (i := 1) scRight.nd rfl (Or.inl rfl) (pe_cal TA hr rfl (pa_cons (pv 0) (pa_cons pe_int pa_nil))))
 (C8.pss_cut (ps_if (pt_cmpR op_lt (pv 1) pe_int (nomark _))
 (pss_cons (ps_par (i := 2) (j := 3) rfl scRight.nd rfl rfl (by decide) rfl rfl (pa_cons (pe_cal BD hr rfl (pa_cons (pv 0) pa_nil)) (pa_cons pe_str pa_nil)) (by rfl))
 (pss_one (ps_set (i := 3) scRight.nd rfl (Or.inl rfl) (pe_ifExp (pt_cmpR (op_eqU hr.units) (pv 2) (pe_tup pa_nil) (nomark _)) pe_str (pv 3)))))
 (pss_one (ps_if (pt_cmpR op_lt (pv 1) pe_int (nomark _))
 (pss_one (ps_par (i := 2) (j := 3) rfl scRight.nd rfl rfl (by decide) rfl rfl (pa_cons (pe_cal BT hr rfl (pa_cons (pv 0) pa_nil)) (pa_cons pe_str pa_nil)) (by rfl)))
 (pss_cons (ps_asg (pe_ix ix_list (pe_lst (pa_cons (pe_tup (pa_cons pe_int (pa_cons pe_int pa_nil))) (pa_cons (pe_tup (pa_cons pe_int (pa_cons pe_int pa_nil))) (pa_cons (pe_tup (pa_cons pe_int (pa_cons pe_int pa_nil))) (pa_cons (pe_tup (pa_cons pe_int (pa_cons pe_int pa_nil))) pa_nil))))) (pe_op op_sub (pv 1) pe_int) (fun _ _ => rfl)) (pg_tup rfl (pgs_cons (pg_name (i := 4) scRight.nd rfl (Or.inl rfl)) (pgs_cons (pg_name (i := 5) scRight.nd rfl (Or.inl rfl)) pgs_nil))))
 (pss_one (ps_par (i := 2) (j := 3) rfl scRight.nd rfl rfl (by decide) rfl rfl (pa_cons (pe_cal BN hr rfl (pa_cons (pv 0) (pa_cons (pv 4) (pa_cons (pv 5) pa_nil)))) (pa_cons pe_str pa_nil)) (by rfl)))))))
 (pss_cons (ps_set (i := 6) scRight.nd rfl (Or.inl rfl) (pe_cal TR hr rfl (pa_cons (pv 1) (pa_cons (pv 2) pa_nil))))
 (C8.pss_cut (ps_if (pt_val (pe_callB (call_isN kit_list) rfl m_isinstance boot_isi (pa_cons (pv 2) (pa_cons (pe_bltn (v := .ty "list") rfl m_list boot_list rfl) pa_nil))))
 (pss_one (ps_expr (pe_bm PySem.F.plainAttrs_list PySem.F.slot_list_append PySem.F.type_list_append mt_append (pv 2) (pa_cons pe_str pa_nil))))
 pss_nil)
 (pss_cons (ps_if (pt_cmpR op_ne (pe_callB (rp hgD hr.units rfl) rfl m_repr Gr.boot_repr (pa_cons (pv 6) pa_nil)) (pe_callB (rp hgD hr.units rfl) rfl m_repr Gr.boot_repr (pa_cons (pe_ifExp (pt_cmpR op_eq (pv 3) pe_str (nomark _)) (pe_lst (pa_cons pe_str pa_nil)) (pe_lst (pa_cons (pv 3) (pa_cons (pv 2) (pa_cons pe_bl pa_nil))))) pa_nil)) (nomark _))
 (pss_one (ps_ret pe_bl))
 pss_nil)
 (pss_one (ps_ret (pe_cmpR (op_eqS hr.units) (pe_cal TR hr rfl (pa_cons (pv 1) (pa_cons (pe_cal GO hr rfl (pa_cons (pv 0) (pa_cons (pv 1) pa_nil))) pa_nil))) (pe_lst (pa_cons pe_str pa_nil)) (nomark _))))))))), ?_⟩
  have zl := sizeLine_eq
  have big : ∀ k : Nat, k ≤ 20 → k ≤ sizeLine := fun k h => by omega
  refine ⟨_, rfl, st, 12, n + 344, rfl, hS, by decide, by decide, fun way G1 w0 w12 t1 => ?_⟩
  refine ⟨fun σ G => ∃ (v : V) (d : PyData) (o4 o5 : Option V), σ = [some (.ref st), some (.int way), some v, some (.str (wordW way)), o4, o5, none] ∧ TurnB st (n + 170) H G ∧ Bd (offB G st) v d ∧ Fit 400 6 d ∧ goodW way d = false ∧ (isT "list" d = true → ∀ a, v = .ref a → H a = none), ?_, ?_⟩
  · refine ⟨_, rfl, _, _, rfl, rfl, _, rfl, ?_⟩
    refine ite2 (fun c1 => ?_) (fun c1 => ?_)
    · have c1 := of_decide_eq_true c1
      have g : ∀ d, goodW way d = isDeeds d := fun d => by unfold goodW; rw [if_pos (by omega)]
      have wd : wordW way = "deeds" := by unfold wordW; rw [if_pos (by omega)]
      refine ⟨_, rfl, st, n + 170, rfl, t1.now.mono (by omega), fun v d G2 t2 bd ft nd nt fr => ?_⟩
      refine ⟨_, _, rfl, _, rfl, big 0 (by decide), fun T hT => ?_⟩
      have t3 := TurnB.new t2.now hT (.tup [])
      have eT : (upd G2 T (.tup [])) T = some (.tup []) := upd_same
      generalize upd G2 T (HO.tup []) = G3 at t3 eT ⊢
      have bd3 := bd.turn t3
      have fin : { nx := fun σ G => ∃ (v : V) (d : PyData) (o4 o5 : Option V), σ = [some (.ref st), some (.int way), some v, some (.str (wordW way)), o4, o5, none] ∧ TurnB st (n + 170) H G ∧ Bd (offB G st) v d ∧ Fit 400 6 d ∧ goodW way d = false ∧ (isT "list" d = true → ∀ a, v = .ref a → H a = none), rt := fun _ _ => True : Ends }.nx [some (.ref st), some (.int way), some v, some (.str "deeds"), none, none, none] G3 :=
        ⟨v, d, none, none, by rw [wd], (t1.trans (t2.trans t3)).mono (by omega), bd3, ft.mono (by decide) (by decide), (g d).trans nd, fun z a e => t1.grows (fr z a e)⟩
      refine ⟨T, rfl, SqT.of eT, ?_⟩
      have sh : (∃ a xs, v = .ref a ∧ SqT K G3 a xs ∧ xs.isEmpty = false) ∨ NoTup K G3 v := by
        cases bd3 with
        | lst a xs ds e k => exact .inr (.lst (SqL.of (offB_le _ _ e)))
        | dic a e => exact .inr (.dic (offB_le _ _ e))
        | oth v d k nl =>
          cases k with
          | non => exact .inr .non
          | bl b => exact .inr (.bl b)
          | int i => exact .inr (.int i)
          | str z => exact .inr (.str z)
          | lst e _ => cases nl
          | @tup a xs ds e ha =>
            refine .inl ⟨a, xs, rfl, SqT.of (offB_le _ _ e), ?_⟩
            cases ha with
            | nil => exact absurd rfl nt
            | cons _ _ => rfl
          | dic e _ => exact .inr (.dic (offB_le _ _ e))
      rcases sh with ⟨a, xs, rfl, e1, e2⟩ | nt2
      · refine .inl ⟨a, xs, rfl, e1, ?_⟩
        rw [e2]
        exact ⟨_, rfl, iteF ⟨_, rfl, fin⟩⟩
      · exact .inr ⟨nt2, ⟨_, rfl, iteF ⟨_, rfl, fin⟩⟩⟩
    have c1 := of_decide_eq_false (Bool.eq_false_iff.mpr c1)
    refine ⟨_, rfl, _, _, rfl, rfl, _, rfl, ?_⟩
    refine ite2 (fun c2 => ?_) (fun c2 => ?_)
    · have c2 := of_decide_eq_true c2
      have g : ∀ d, goodW way d = isTests d := fun d => by unfold goodW; rw [if_neg (by omega), if_pos (by omega)]
      have wd : wordW way = "tests" := by unfold wordW; rw [if_neg (by omega), if_pos (by omega)]
      refine ⟨_, rfl, st, n + 170, rfl, t1.now.mono (by omega), fun v d G2 t2 bd ft nd fr => ?_⟩
      exact ⟨_, _, rfl, v, d, none, none, by rw [wd]; rfl, t1.trans t2, bd, ft, (g d).trans nd, fun z a e => t1.grows (fr z a e)⟩
    have c2 := of_decide_eq_false (Bool.eq_false_iff.mpr c2)
    have wd : wordW way = "number" := by unfold wordW; rw [if_neg (by omega), if_neg (by omega)]
    refine ⟨big 2 (by decide), fun a1 h1 => ?_⟩
    have e1 : (upd G1 a1 (HO.tup [V.int 0, V.int 60])) a1 = some (HO.tup [V.int 0, V.int 60]) := upd_same
    have s1 := same_new h1 (HO.tup [V.int 0, V.int 60])
    generalize upd G1 a1 (HO.tup [V.int 0, V.int 60]) = H1 at e1 s1 ⊢
    refine ⟨big 2 (by decide), fun a2 h2 => ?_⟩
    have e2 : (upd H1 a2 (HO.tup [V.int 0, V.int 60])) a2 = some (HO.tup [V.int 0, V.int 60]) := upd_same
    have s2 := same_new h2 (HO.tup [V.int 0, V.int 60])
    generalize upd H1 a2 (HO.tup [V.int 0, V.int 60]) = H2 at e2 s2 ⊢
    refine ⟨big 2 (by decide), fun a3 h3 => ?_⟩
    have e3 : (upd H2 a3 (HO.tup [V.int 1, V.int 8])) a3 = some (HO.tup [V.int 1, V.int 8]) := upd_same
    have s3 := same_new h3 (HO.tup [V.int 1, V.int 8])
    generalize upd H2 a3 (HO.tup [V.int 1, V.int 8]) = H3 at e3 s3 ⊢
    refine ⟨big 2 (by decide), fun a4 h4 => ?_⟩
    have e4 : (upd H3 a4 (HO.tup [V.int 1, V.int 8])) a4 = some (HO.tup [V.int 1, V.int 8]) := upd_same
    have s4 := same_new h4 (HO.tup [V.int 1, V.int 8])
    generalize upd H3 a4 (HO.tup [V.int 1, V.int 8]) = H4 at e4 s4 ⊢
    refine ⟨big 4 (by decide), fun L hL => ?_⟩
    have eL : (upd H4 L (HO.lst [V.ref a1, V.ref a2, V.ref a3, V.ref a4])) L = some (HO.lst [V.ref a1, V.ref a2, V.ref a3, V.ref a4]) := upd_same
    have sL := same_new hL (HO.lst [V.ref a1, V.ref a2, V.ref a3, V.ref a4])
    generalize upd H4 L (HO.lst [V.ref a1, V.ref a2, V.ref a3, V.ref a4]) = HL at eL sL ⊢
    have tL : TurnB st (n + 344) G1 HL := TurnB.of_same t1.now (s1.trans (s2.trans (s3.trans (s4.trans sL))))
    have go : ∀ (a : Addr) (lo hi : Int), HL a = some (.tup [.int lo, .int hi]) → 0 ≤ lo → lo ≤ 1 → 8 ≤ hi → hi ≤ 60 → (∀ d, goodW way d = isWh (some lo) (some hi) d) → ∀ (v : V) (d : PyData) (G : Hp), TurnB st (n + 170) HL G → Bd (offB G st) v d → Fit 8 3 d → isWh (some lo) (some hi) d = false → (isT "list" d = true → ∀ a, v = .ref a → HL a = none) → ∃ (v' : V) (d : PyData) (o4 o5 : Option V), [some (.ref st), some (.int way), some v, some (.str "number"), some (.int lo), some (.int hi), none] = [some (.ref st), some (.int way), some v', some (.str (wordW way)), o4, o5, none] ∧ TurnB st (n + 170) H G ∧ Bd (offB G st) v' d ∧ Fit 400 6 d ∧ goodW way d = false ∧ (isT "list" d = true → ∀ a, v' = .ref a → H a = none) := fun a lo hi _ _ _ _ _ g v d G t bd ft nd fr =>
      ⟨v, d, _, _, by rw [wd], (t1.trans tL).trans t, bd, ft.mono (by decide) (by decide), (g d).trans nd, fun z a e => (t1.trans tL).grows (fr z a e)⟩
    have pick : ∃ (a : Addr) (lo hi : Int), atI [V.ref a1, V.ref a2, V.ref a3, V.ref a4] (way - 8) = some (.ref a) ∧ HL a = some (.tup [.int lo, .int hi]) ∧ 0 ≤ lo ∧ lo ≤ 1 ∧ 8 ≤ hi ∧ hi ≤ 60 ∧ (∀ d, goodW way d = isWh (some lo) (some hi) d) := by
      have : way = 8 ∨ way = 9 ∨ way = 10 ∨ way = 11 := by omega
      rcases this with rfl | rfl | rfl | rfl
      · exact ⟨a1, 0, 60, rfl, sL _ _ (s4 _ _ (s3 _ _ (s2 _ _ e1))), by decide, by decide, by decide, by decide, fun d => rfl⟩
      · exact ⟨a2, 0, 60, rfl, sL _ _ (s4 _ _ (s3 _ _ e2)), by decide, by decide, by decide, by decide, fun d => rfl⟩
      · exact ⟨a3, 1, 8, rfl, sL _ _ (s4 _ _ e3), by decide, by decide, by decide, by decide, fun d => rfl⟩
      · exact ⟨a4, 1, 8, rfl, sL _ _ e4, by decide, by decide, by decide, by decide, fun d => rfl⟩
    obtain ⟨a, lo, hi, ea, eH, l0, l1, h8, h60, g⟩ := pick
    refine ⟨_, rfl, _, _, rfl, rfl, L, _, _, _, rfl, rfl, SqL.of eL, ea, a, _, rfl, SqT.of eH, rfl, _, _, rfl, _, _, rfl, rfl, ?_⟩
    refine ⟨_, rfl, _, rfl, _, rfl, st, n + 170, lo, hi, rfl, l0, l1, h8, h60, tL.now.mono (by omega), fun v d G t bd ft nd _ fr => ?_⟩
    exact ⟨_, _, rfl, go a lo hi eH l0 l1 h8 h60 g v d G t bd ft nd fr⟩
  rintro σ G ⟨v, d, o4, o5, rfl, t2, bd, ft, nd, fr⟩
  have bdG : Dn K G v d := bd.dn.le offB_le
  refine ⟨_, rfl, _, rfl, way, v, d, rfl, w0, w12, bdG, fun L G2 s2 hL eL => ?_⟩
  unfold outW at eL
  rw [nd, if_neg (by decide)] at eL
  have t3 := t2.trans (TurnB.of_same t2.now s2)
  have bd2 := bd.turn (TurnB.of_same t2.now s2)
  have nLst : L ≠ st := t2.now.ne hL
  -- the list grows
  refine ⟨fun σ G => ∃ d', σ = [some (.ref st), some (.int way), some v, some (.str (wordW way)), o4, o5, some (.ref L)] ∧ TurnB st (n + 170) H G ∧ Dn K G v d' ∧ Fit 401 7 d' ∧ G L = some (.lst [.str (wordW way), v, .bl true]), ?_, ?_⟩
  · refine ⟨_, rfl, v, d, rfl, bd2.dn.le offB_le, _, rfl, ?_⟩
    cases hl : isT "list" d with
    | false => exact iteF ⟨d, rfl, t3, bd2.dn.le offB_le, ft.mono (by decide) (by decide), eL⟩
    | true =>
      refine iteT ?_
      obtain ⟨ds, rfl⟩ : ∃ ds, d = .list ds := by
        cases d with
        | list ds => exact ⟨ds, rfl⟩
        | _ => simp [isT, isN, tyn] at hl
      obtain ⟨a, rfl⟩ : ∃ a, v = .ref a := by
        cases bd2 with
        | lst a xs ds e k => exact ⟨a, rfl⟩
        | oth v d k n => cases n
      have hHa := fr hl a rfl
      have nst : a ≠ st := fun z => by
        obtain ⟨xs, e, _⟩ := bd2.more (K := K) "more"
        rw [z, offB_st] at e
        cases e
      obtain ⟨xs, e, lx, dn⟩ := bd2.more (K := K) "more"
      have e2 := offB_le _ _ e
      have nLa : L ≠ a := fun z => by
        obtain ⟨ys, e3, _⟩ := bd.more (K := K) "more"
        rw [← z] at e3
        have := offB_le _ _ e3
        rw [hL] at this
        cases this
      have few := ft.few
      have l9 : xs.length ≤ 400 := by
        rw [lx]
        have : ∀ ds : List PyData, ds.length ≤ nodesAll ds := fun ds => by
          induction ds with
          | nil => simp
          | cons x xs ih => cases x <;> simp [nodesAll, nodes] <;> omega
        have := this ds
        simp only [nodes] at few
        omega
      refine ⟨_, rfl, .inl ⟨rfl, _, SqL.of e2⟩, a, xs, _, rfl, rfl, e2, by omega, ?_⟩
      refine ⟨.list (ds ++ [.str "more"]), rfl, turn_put t3 hHa nst _, dn.le fun b o eb => ?_, ?_, by rw [upd_ne nLa]; exact eL⟩
      · by_cases c : b = a
        · rw [c, upd_same] at eb ⊢
          exact eb
        · rw [upd_ne c] at eb ⊢
          exact offB_le _ _ eb
      · have fa : FitAll 399 5 ds := ⟨by simpa only [fine] using ft.ok, by have := ft.few; simp only [nodes] at this; omega, by have := ft.deep; simp only [PyData.depth] at this; omega⟩
        have fm : Fit 1 0 (.str "more") := Fit.of (by decide +kernel)
        have f1 : FitAll (399 + 1) 5 (ds ++ [.str "more"]) := FitAll.snoc fa (fm.mono (Nat.le_refl 1) (Nat.zero_le 5))
        exact (FitAll.list f1).mono (by decide) (by decide)
  · rintro σ G3 ⟨d', rfl, t4, dn, ft', eL3⟩
    have w5 : wordW way ∈ (["deeds", "tests", "number"] : List Str) := by
      unfold wordW
      split
      · simp
      · split <;> simp
    have fw : Fit 1 0 (.str (wordW way)) := by
      simp only [List.mem_cons, List.not_mem_nil, or_false] at w5
      rcases w5 with h | h | h <;> rw [h] <;> exact Fit.of (by decide +kernel)
    have fo : Fit 404 8 (.list [.str (wordW way), d', .bool true]) := by
      have h1 : FitAll 1 7 [.str (wordW way)] := (FitAll.snoc (n := 0) (m := 1) FitAll.nil (fw.mono (Nat.le_refl 1) (Nat.zero_le 7)))
      exact FitAll.list (FitAll.snoc (FitAll.snoc h1 ft') (show Fit 1 7 (.bool true) from Fit.of (by decide +kernel)))
    have dL : ∀ {F : Hp} {L : Addr}, Same G3 F → F L = some (.lst [.str (wordW way), v, .bl true]) → Dn K F (.ref L) (.list [.str (wordW way), d', .bool true]) := fun s e => .lst (SqL.of e) (.cons (.str _) (.cons (dn.le s) (.cons (.bl _) .nil)))
    refine ⟨_, rfl, _, _, rfl, dL (Same.refl _) eL3, showable_fine _ fo.ok, fo.shown (by decide), Nat.le_trans fo.deep (by decide), _, rfl, rfl, _, rfl, ?_⟩
    have ne : decide (V.str (wordW way) = V.str "made") = false := by
      simp only [List.mem_cons, List.not_mem_nil, or_false] at w5
      rcases w5 with h | h | h <;> rw [h] <;> decide +kernel
    rw [ne]
    refine iteF ⟨_, rfl, _, rfl, big 3 (by decide), fun L2 hL2 => ?_⟩
    have s6 := same_new hL2 (.lst [.str (wordW way), v, .bl true])
    refine ⟨_, _, rfl, dL s6 upd_same, showable_fine _ fo.ok, fo.shown (by decide), Nat.le_trans fo.deep (by decide), rfl, _, rfl, ?_⟩
    have t6 := TurnB.new t4.now hL2 (.lst [.str (wordW way), v, .bl true])
    refine ite2 (fun c => by rw [decide_eq_true rfl] at c; cases c) (fun _ => ?_)
    refine ⟨_, rfl, _, rfl, _, rfl, st, n, way, rfl, w0, w12, t6.now, fun v2 d2 G4 t5 dn2 g2 => ?_⟩
    refine ⟨way, v2, d2, rfl, w0, w12, dn2, fun L3 G5 s5 hL3 eL3' => ?_⟩
    unfold outW at eL3'
    rw [g2, if_pos rfl] at eL3'
    refine ⟨big 1 (by decide), fun L4 hL4 => ?_⟩
    have s7 := same_new hL4 (.lst [.str "made"])
    have t7 : TurnB st n H (upd G5 L4 (.lst [.str "made"])) := ((t4.trans t6).trans t5).trans (TurnB.of_same t5.now (s5.trans s7))
    have okM : PyData.strOk "made" = true := by decide +kernel
    refine ⟨L3, L4, ["made"], ["made"], rfl, rfl, SqL.of (s7 _ _ eL3'), SqL.of upd_same, fun c hc => by rw [List.mem_singleton.mp hc]; exact okM, fun c hc => by rw [List.mem_singleton.mp hc]; exact okM, ?_⟩
    rw [decide_eq_true rfl]
    exact q _ t7
end
end K18
/-! xs != [], whatever the items; d != {}, d != e for dicts of flat values -/
namespace Gr
open PySem PySem.Spec PyProof.Rows L2
section
variable {X : Cx}
def rNeNilL (K : PySem.W.Frag) : R2 := fun x y H Q => ∃ (a b : Addr) (xs : List V), x = .ref a ∧ y = .ref b ∧ SqL K H a xs ∧ SqL K H b [] ∧ Q (.bl (!xs.isEmpty)) H
theorem op_neNilL (hu : X.A.units + 64 < cLine) : OpR X (compareOp .NotEq) (rNeNilL X.K) := by
  intro pins s σ H x y v u Q I rx ry h
  obtain ⟨a, b, xs, rfl, rfl, ha, hb, q⟩ := h
  cases xs with
  | nil =>
    exact op_neD hu pins s σ H _ _ v u Q I rx ry ⟨.list [], .list [], .lst ha .nil, .lst hb .nil, by decide, by decide, q⟩
  | cons z zs =>
    cases rx
    cases ry
    obtain ⟨its, rv, pl, _⟩ := I.list ha
    obtain ⟨its2, rv2, pl2, _⟩ := I.list hb
    cases rv2
    cases rv with
    | cons r1 r2 =>
      exact SeqAt.RcNeAt.lists_lengths pl.isList pl2.isList (by simp) (by omega) _ _ _ _ ⟨.bl true, H, I, rfl, q⟩
/-- d != {} -/
def rNeDE : R2 := fun x y H Q => ∃ (a b : Addr) (ks : List (Key × V)), x = .ref a ∧ y = .ref b ∧ H a = some (.dK ks) ∧ H b = some (.dK []) ∧ Q (.bl (!ks.isEmpty)) H
theorem op_neDE (hu : X.A.units < cLine) : OpR X (compareOp .NotEq) rNeDE := by
  intro pins s σ H x y v u Q I rx ry h
  obtain ⟨a, b, ks, rfl, rfl, ea, eb, q⟩ := h
  obtain rfl : v = Value.ref a := rx
  obtain rfl : u = Value.ref b := ry
  obtain ⟨_, ya, va, ra, da⟩ := (show ObjOk X.prog X.w H s.heap a (.dK ks) from I.hok a _ ea)
  obtain ⟨_, yb, vb, rb, db⟩ := (show ObjOk X.prog X.w H s.heap b (.dK []) from I.hok b _ eb)
  cases rb
  have hl := ra.length
  cases ks with
  | nil =>
    cases ra
    exact PySem.W.keq_ne (knd := mixKind X.prog X.w) (r := true) ya yb da db hu (fun _ => .nil) (fin_bl I q rfl)
  | cons p ps =>
    cases ra with
    | cons r1 r2 =>
      exact PySem.W.keq_ne (knd := mixKind X.prog X.w) (r := true) ya yb da db hu (fun z => by cases z) (fin_bl I q rfl)
theorem hits_any {A : Around} {s : Shared} {ls : List (Key × V)} {vb : List (Key × Value)} (rb : KV ls vb) (fl : ∀ k v, valV ls k = some v → flatV v = true) : ∀ {ks : List (Key × V)} {va : List (Key × Value)}, KV ks va → (∀ p ∈ ks, flatV p.2 = true) → ∃ r, PySem.W.KeqHits A s vb va r
  | [], _, .nil, _ => ⟨true, .nil⟩
  | p :: ps, _, .cons (b := q) r1 r2, hf => by
    obtain ⟨r, hr⟩ := hits_any rb fl r2 fun p hp => hf p (List.mem_cons_of_mem _ hp)
    obtain ⟨k, v⟩ := q
    have fv := hf p (List.mem_cons_self ..)
    have rl := rb.val p.1
    obtain ⟨e1, e2⟩ := r1
    simp only at e1 e2
    subst e1
    cases hv : valV ls p.1 with
    | none =>
      rw [hv] at rl
      cases hw : PySem.valueAt vb p.1 with
      | none => exact ⟨false, .miss hw⟩
      | some y => rw [hw] at rl; exact False.elim rl
    | some y0 =>
      rw [hv] at rl
      cases hw : PySem.valueAt vb p.1 with
      | none => rw [hw] at rl; exact False.elim rl
      | some y =>
        rw [hw] at rl
        exact ⟨_, .hit hw (eqAt_V (A := A) (s := s) e2 rl fv (fl _ _ hv)) hr⟩
/-- dicts of flat values: some answer -/
def rNeDF : R2 := fun x y H Q => ∃ (a b : Addr) (ks ls : List (Key × V)), x = .ref a ∧ y = .ref b ∧ H a = some (.dK ks) ∧ H b = some (.dK ls) ∧ (∀ p ∈ ks, flatV p.2 = true) ∧ (∀ k v, valV ls k = some v → flatV v = true) ∧ ∀ r, Q (.bl r) H
theorem op_neDF (hu : X.A.units < cLine) : OpR X (compareOp .NotEq) rNeDF := by
  intro pins s σ H x y v u Q I rx ry h
  obtain ⟨a, b, ks, ls, rfl, rfl, ea, eb, f1, f2, q⟩ := h
  obtain rfl : v = Value.ref a := rx
  obtain rfl : u = Value.ref b := ry
  obtain ⟨_, ya, va, ra, da⟩ := (show ObjOk X.prog X.w H s.heap a (.dK ks) from I.hok a _ ea)
  obtain ⟨_, yb, vb, rb, db⟩ := (show ObjOk X.prog X.w H s.heap b (.dK ls) from I.hok b _ eb)
  obtain ⟨r, hr⟩ := hits_any (A := X.A.in1) (s := s) rb f2 ra f1
  exact PySem.W.keq_ne (knd := mixKind X.prog X.w) (r := r) ya yb da db hu (fun _ => hr) (fin_bl I (q _) rfl)
end
end Gr
namespace K18
open PySem PySem.Spec PyProof.Rows L2 Gr 
structure CalQ (P : Program) (w : World) (K : PySem.W.Frag) (mg : Str → Option Value) (base : Heap) (k : Nat) (x : Str) (ps : List Str) (sp : Sp) (f : Addr) (fd : FuncData) : Prop where
  ok : FnQ P w K mg base CX0 k f fd ps sp
  bd : Binds K fd ps []
  kp : PySem.W.keepIn K (.ref f) = true
  at_ : mg x = some (.ref f)
theorem passE {X : Cx} {P : Program} {w : World} : Passes (L2N.CX P w) X E0 := fun _ _ _ _ _ _ _ h => by
  obtain ⟨_, _, _, _, _, _, _, _, _, _, _, _, z⟩ := h
  exact z.elim
def spLaw (K : PySem.W.Frag) : Sp := fun vs H Q _ => ∃ (a : Addr) (ns : List Int), vs = [.ref a] ∧ SqL K H a (ns.map V.int) ∧ ∀ H', Q (.bl true) H'
/-- a machine with nothing ready, in the heap -/
def Ins0 (P : Program) (w : World) (K : PySem.W.Frag) (mg : Str → Option Value) (base : Heap) (CO : Addr) (G : Hp) (x : Addr) : Prop := ∃ (C dx L : Addr) (fs : List Str) (ex : List (Str × V)), G x = some (.ins C dx (("lying", .ref L) :: ex)) ∧ ex.lookup ("gives" : Str) = none ∧ McC K C fs ∧ G L = some (.lst []) ∧ MOk P w K mg base (L2N.CX P w) 1 C "gives" (spGives K CO)
theorem Ins0.le {P : Program} {w : World} {K : PySem.W.Frag} {mg : Str → Option Value} {base : Heap} {CO : Addr} {G F : Hp} {x : Addr} (h : Ins0 P w K mg base CO G x) (s : Same G F) : Ins0 P w K mg base CO F x := by
  obtain ⟨C, dx, L, fs, ex, e1, e2, e3, e4, e5⟩ := h
  exact ⟨C, dx, L, fs, ex, s _ _ e1, e2, e3, s _ _ e4, e5⟩
theorem Ins0.turn {P : Program} {w : World} {K : PySem.W.Frag} {mg : Str → Option Value} {base : Heap} {CO st : Addr} {n m : Nat} {G F : Hp} {x : Addr} (h : Ins0 P w K mg base CO G x) (hs : StB G st m) (t : TurnB st n G F) : Ins0 P w K mg base CO F x := by
  obtain ⟨C, dx, L, fs, ex, e1, e2, e3, e4, e5⟩ := h
  obtain ⟨_, _, _, eb, _⟩ := hs.ex
  exact ⟨C, dx, L, fs, ex, t.keep (fun z => by rw [z, eb] at e1; cases e1) e1, e2, e3, t.keep (fun z => by rw [z, eb] at e4; cases e4) e4, e5⟩
/-- Sums, Flat -/
structure MsC (P : Program) (w : World) (K : PySem.W.Frag) (mg : Str → Option Value) (base : Heap) (CS CF fS fF : Addr) (fdS fdF : FuncData) : Prop where
  mkS : Mk K CS fS
  atS : mg "Sums" = some (.ref CS)
  okS : FnOk P w K mg base CX0 2 fS fdS ["self"] (spSums K (· = CS))
  bdS : Binds K fdS ["self"] []
  mcS : McC K CS ["_total"]
  mkF : Mk K CF fF
  atF : mg "Flat" = some (.ref CF)
  okF : FnOk P w K mg base CX0 1 fF fdF ["self"] (spM0 K)
  bdF : Binds K fdF ["self"] []
  mcF : McC K CF []
theorem new_mkR {K : PySem.W.Frag} {H : Hp} {v : V} {d : PyData} {R : Hp → Prop} {E : XK} {C CE : Addr} {good cut : PyData → Bool} {ex : Addr → V → List (Str × V)} {kept : Bool} {nf : List Str} (mc : McC K C nf) (hd : Dn K H v d) (hg : good d = true) {x dx : Addr} (hx : H x = none) (hdx : H dx = none) (ne : dx ≠ x)
    (ok : ∀ L M G, Same H G → H L = none → L ≠ x → G L = some (.lst []) → G x = some (.ins C dx (mF L (cut d) ++ ex M v)) → R G) :
    spMk K CE good cut ex kept nf (· = C) [.ref x, v] (upd (upd H dx (.own x)) x (.ins C dx [])) (fun r H3 => r = .non ∧ R H3) E := by
  have s1 : Same H (upd (upd H dx (.own x)) x (.ins C dx [])) := (same_new hdx _).trans (same_new (by rw [upd_ne (Ne.symm ne)]; exact hx) _)
  refine ⟨x, C, dx, v, d, rfl, upd_same, rfl, mc, hd.le s1, fun hb => (by rw [hg] at hb; cases hb), fun _ L M G kG hL nL eL hM eX => ⟨rfl, ?_⟩⟩
  exact ok L M G (fun b o e => kG b o (fun z => by rw [z, hx] at e; cases e) (s1 _ _ e)) (none_of_same s1 hL) nL eL eX
theorem scLaw : FnScope ["_law_script", "_law_k", "_law_box_here", "_law_turn", "_law_some", "_law_machine"] ["_law_script"] (defScope lLaw) := ⟨rfl, rfl, rfl, by decide +kernel, rfl, by decide +kernel, by decide +kernel⟩
section
variable {P : Program} {w : World} {K : PySem.W.Frag} {mg : Str → Option Value} {base : Heap} {f fC fB fT fR fA CD CT CN CO CS CF fS fF : Addr} {fd fdC fdB fdT fdR fdA fdS fdF : FuncData} {c fi : _root_.Fin 8 → Addr} {fdi : _root_.Fin 8 → FuncData}
theorem ok_law (F : Fun K "law" "law" lLaw f fd) (CE : Cal P w K mg base 1 "_law_cell" ["_law_script", "_law_k"] (spCell K) fC fdC) (BX : Cal P w K mg base 1 "_law_box" ["_law_cell_here"] spBox fB fdB) (TE : Cal P w K mg base 3 "_law_tests" ["_law_box_here"] spTe fT fdT)
    (RI : CalQ P w K mg base 11 "_law_right" ["_law_box_here"] spRight fR fdR) (BA : Cal P w K mg base 2 "_law_bare" ["_law_machine"] (spBare P w K mg base CO) fA fdA) (M : Mcs P w K mg base CD CT CN c fi fdi) (MS : MsC P w K mg base CS CF fS fF fdS fdF) (mo : ∀ i, MOk P w K mg base (L2N.CX P w) 1 (c i) "gives" (spGives K CO)) (moS : MOk P w K mg base (L2N.CX P w) 1 CS "gives" (spGives K CO)) (moF : MOk P w K mg base (L2N.CX P w) 1 CF "gives" (spGives K CO))
    (m_range : mg "range" = none) (m_len : mg "len" = none) (m_max : mg "max" = none) (m_min : mg "min" = none) : FnQ P w K mg base CX0 12 f fd ["_law_script"] (spLaw K) := by
  refine fun_q F scLaw (fun vs H Q E h => ?_) (fun cdv A outer s H vs Q E hg hr h => ?_)
  · obtain ⟨a, ns, rfl, _⟩ := h
    rfl
  obtain ⟨a, ns, rfl, hS, q⟩ := h
  have hgD : (A.deeper (envOfC "law" (defScope lLaw) s.heap.objs.size f cdv)).guards = some [] := guards_in hg
  refine ⟨_, (pss_cons (ps_for PassesOwn.never rfl (pi_range1 rfl m_range (pa_cons (pe_callB (call_max2 rfl) rfl m_max (by decide +kernel) (pa_cons pe_int (pa_cons (pe_callB (call_min2 rfl) rfl m_min (by decide +kernel) (pa_cons pe_int (pa_cons (pe_callB call_len_seq rfl m_len PySem.boot_len (pa_cons (pv 0) pa_nil)) pa_nil))) pa_nil))) pa_nil)) (pg_name (i := 1) scLaw.nd rfl (Or.inl rfl))
 (pss_cons (ps_set (i := 2) scLaw.nd rfl (Or.inl rfl) (pe_cal BX hr rfl (pa_cons (pe_cal CE hr rfl (pa_cons (pv 0) (pa_cons (pv 1) pa_nil))) pa_nil)))
 (pss_cons (ps_for PassesOwn.never rfl (pi_range1 rfl m_range (pa_cons pe_int pa_nil)) (pg_name (i := 3) scLaw.nd rfl (Or.inl rfl))
 (pss_one (ps_if (pt_not (pt_val (pe_callQ RI.ok hgD (hr.mono (by omega)) rfl RI.at_ RI.kp RI.bd .nil pass0 (pa_cons (pv 2) pa_nil))))
 (pss_one (ps_ret pe_bl))
 pss_nil)))
 (pss_cons (ps_set (i := 4) scLaw.nd rfl (Or.inl rfl) (pe_lst (pa_cons (pe_make (E := E0) M.turned.mkC M.turned.ok (hr.mono (by omega)) rfl M.turned.at_ M.turned.bd .nil passE (pa_cons (pe_tup pa_nil) pa_nil)) (pa_cons (pe_make (E := E0) M.chosen.mkC M.chosen.ok (hr.mono (by omega)) rfl M.chosen.at_ M.chosen.bd .nil passE (pa_cons (pe_cal TE hr rfl (pa_cons (pv 2) pa_nil)) pa_nil)) (pa_cons (pe_make (E := E0) M.first.mkC M.first.ok (hr.mono (by omega)) rfl M.first.at_ M.first.bd .nil passE (pa_cons pe_int pa_nil)) (pa_cons (pe_make (E := E0) M.first.mkC M.first.ok (hr.mono (by omega)) rfl M.first.at_ M.first.bd .nil passE (pa_cons pe_int pa_nil)) (pa_cons (pe_make (E := E0) M.skip.mkC M.skip.ok (hr.mono (by omega)) rfl M.skip.at_ M.skip.bd .nil passE (pa_cons pe_int pa_nil)) (pa_cons (pe_make (E := E0) M.windows.mkC M.windows.ok (hr.mono (by omega)) rfl M.windows.at_ M.windows.bd .nil passE (pa_cons pe_int pa_nil)) (pa_cons (pe_make (E := E0) M.groups.mkC M.groups.ok (hr.mono (by omega)) rfl M.groups.at_ M.groups.bd .nil passE (pa_cons (pe_tup pa_nil) pa_nil)) pa_nil)))))))))
 (pss_cons (ps_set (i := 4) scLaw.nd rfl (Or.inl rfl) (pe_op op_cat (pv 4) (pe_lst (pa_cons (pe_make0 MS.mkS MS.okS (hr.mono (by omega)) rfl MS.atS MS.bdS .nil pass0) (pa_cons (pe_make0 MS.mkF MS.okF (hr.mono (by omega)) rfl MS.atF MS.bdF .nil pass0) pa_nil)))))
 (pss_one (ps_if (pt_cmpR (op_neNilL hr.units) (pe_lc (own := [("_law_machine", 5)]) (g := gName 5) rfl scLaw.nd (pi_list (pv 4)) (blkOk_by (N := ["_law_script", "_law_k", "_law_box_here", "_law_turn", "_law_some", "_law_machine"]) (sc := defScope lLaw) (by decide +kernel)) (fun _ _ _ _ _ => (pg_name (i := 5) scLaw.nd rfl (Or.inl rfl))) (fun _ _ _ _ _ => pts_one (pt_not (pt_val (pe_cal BA hr rfl (pa_cons (pv 5) pa_nil))))) (fun _ _ _ _ _ => (pv 5))) (pe_lst pa_nil) (nomark _))
 (pss_one (ps_ret pe_bl))
 pss_nil)))))))
 (pss_one (ps_ret pe_bl))), ?_⟩
  have zl := sizeLine_eq
  have big : ∀ k : Nat, k ≤ 20 → k ≤ sizeLine := fun k h => by omega
  refine ⟨_, rfl, a, _, rfl, .inl hS, _, _, rfl, _, _, rfl, _, rfl, by (repeat' split) <;> omega, by (repeat' split) <;> omega, ?_⟩
  refine for_range (fun i σ G => Same H G ∧ ∃ o1 o2 o3 o4 o5, σ = [some (.ref a), o1, o2, o3, o4, o5]) ⟨Same.refl _, _, _, _, _, _, rfl⟩ (fun i σ G hi pv => ?_) (fun σ G pv => ?_)
  rotate_left
  · obtain ⟨sG, o1, o2, o3, o4, o5, rfl⟩ := pv
    exact q G
  obtain ⟨sG, o1, o2, o3, o4, o5, rfl⟩ := pv
  refine ⟨_, rfl, _, rfl, a, ns, _, rfl, sG.seq hS, by omega, fun c => ⟨c, rfl, fun st G1 nst s1 b1 => ?_⟩⟩
  have hst : H st = none := none_of_same sG nst
  have sG1 := sG.trans s1
  refine ⟨8, rfl, by decide, by decide, ?_⟩
  refine for_range (fun j σ G => TurnB st (4000 - 400 * j) G1 G ∧ ∃ p3 p4 p5, σ = [some (.ref a), some (.int (0 + i)), some (.ref st), p3, p4, p5]) ⟨.refl (b1.mono (by decide)), _, _, _, rfl⟩ (fun j σ G hj pv => ?_) (fun σ G pv => ?_)
  · obtain ⟨t, p3, p4, p5, rfl⟩ := pv
    have hj8 : j < 8 := hj
    refine ⟨_, rfl, st, 4000 - 400 * (j + 1), rfl, t.now.mono (by omega), fun G2 t2 => ⟨_, rfl, ?_⟩⟩
    exact iteF ⟨t.trans t2, _, _, _, rfl⟩
  obtain ⟨t, p3, p4, p5, rfl⟩ := pv
  -- the machines
  have ins : ∀ {C dx L x : Addr} {G : Hp} {b : Bool} {ex : List (Str × V)} {nf : List Str}, McC K C nf → MOk P w K mg base (L2N.CX P w) 1 C "gives" (spGives K CO) → ex.lookup ("gives" : Str) = none → G L = some (.lst []) → G x = some (.ins C dx (mF L b ++ ex)) → Ins0 P w K mg base CO G x := fun {C dx L x G b ex nf} mc m hl eL eX =>
    ⟨C, dx, L, nf, ("is_done", .bl b) :: ("is_cut", .bl b) :: ex, eX, by
      have h1 : (("gives" : Str) == "is_done") = false := by decide
      have h2 : (("gives" : Str) == "is_cut") = false := by decide
      rw [List.lookup_cons, h1, List.lookup_cons, h2]
      exact hl, mc, eL, m⟩
  have b0 : StB G1 st 4000 := b1.mono (by decide)
  refine ⟨big 0 (by decide), fun T1 hT1 => ?_⟩
  have u1 := TurnB.new t.now hT1 (.tup [])
  have eT1 : (upd G T1 (.tup [])) T1 = some (.tup []) := upd_same
  generalize upd G T1 (HO.tup []) = E1 at u1 eT1 ⊢
  refine fun x1 dx hx hdx ne => new_mkR (good := isDeeds) M.turned.mc (.tup (SqT.of eT1) .nil) (by decide +kernel) hx hdx ne fun L M' F1 s1' hL nL eL eX => ?_
  have i1 := ins M.turned.mc (mo 0) rfl eL eX
  clear hx hdx ne hL nL eL eX
  have v1 := u1.trans (TurnB.of_same u1.now s1')
  refine ⟨_, rfl, st, 600, rfl, v1.now.mono (by decide), fun vT ts E2 u2 dT l1 l8 al _ => ?_⟩
  have i1' := i1.turn v1.now u2
  have v2 := v1.trans u2
  refine fun x2 dx hx hdx ne => new_mkR (good := isTests) M.chosen.mc (dT.le tups_le).dq.dn (by simp [isTests, l1, l8, al]) hx hdx ne fun L M' F2 s2 hL nL eL eX => ?_
  have i2 := ins M.chosen.mc (mo 1) rfl eL eX
  clear hx hdx ne hL nL eL eX
  refine fun x3 dx hx hdx ne => new_mkR (good := isWh (some 0) (some 60)) M.first.mc (.int 0) (by decide +kernel) hx hdx ne fun L M' F3 s3 hL nL eL eX => ?_
  have i3 := ins M.first.mc (mo 4) rfl eL eX
  clear hx hdx ne hL nL eL eX
  refine fun x4 dx hx hdx ne => new_mkR (good := isWh (some 0) (some 60)) M.first.mc (.int 60) (by decide +kernel) hx hdx ne fun L M' F4 s4 hL nL eL eX => ?_
  have i4 := ins M.first.mc (mo 4) rfl eL eX
  clear hx hdx ne hL nL eL eX
  refine fun x5 dx hx hdx ne => new_mkR (good := isWh (some 0) (some 60)) M.skip.mc (.int 0) (by decide +kernel) hx hdx ne fun L M' F5 s5 hL nL eL eX => ?_
  have i5 := ins M.skip.mc (mo 5) rfl eL eX
  clear hx hdx ne hL nL eL eX
  refine fun x6 dx hx hdx ne => new_mkR (good := isWh (some 1) (some 8)) M.windows.mc (.int 8) (by decide +kernel) hx hdx ne fun L M' F6 s6 hL nL eL eX => ?_
  have i6 := ins M.windows.mc (mo 6) rfl eL eX
  clear hx hdx ne hL nL eL eX
  refine ⟨big 0 (by decide), fun T2 hT2 => ?_⟩
  have s6' := same_new hT2 (.tup [])
  have eT2 : (upd F6 T2 (.tup [])) T2 = some (.tup []) := upd_same
  generalize upd F6 T2 (HO.tup []) = E3 at s6' eT2 ⊢
  refine fun x7 dx hx hdx ne => new_mkR (good := isDeeds) M.groups.mc (.tup (SqT.of eT2) .nil) (by decide +kernel) hx hdx ne fun L M' F7 s7 hL nL eL eX => ?_
  have i7 := ins M.groups.mc (mo 7) rfl eL eX
  clear hx hdx ne hL nL eL eX
  refine ⟨big 7 (by decide), fun A1 hA1 => ?_⟩
  have s8 := same_new hA1 (.lst [.ref x1, .ref x2, .ref x3, .ref x4, .ref x5, .ref x6, .ref x7])
  have eA1 : (upd F7 A1 (.lst [.ref x1, .ref x2, .ref x3, .ref x4, .ref x5, .ref x6, .ref x7])) A1 = some (.lst [.ref x1, .ref x2, .ref x3, .ref x4, .ref x5, .ref x6, .ref x7]) := upd_same
  generalize upd F7 A1 (HO.lst [V.ref x1, .ref x2, .ref x3, .ref x4, .ref x5, .ref x6, .ref x7]) = E4 at s8 eA1 ⊢
  refine ⟨_, rfl, fun x8 dx hx hdx ne => ?_⟩
  have sn : ∀ {x dx : Addr} {C : Addr} {E : Hp}, E x = none → E dx = none → dx ≠ x → Same E (upd (upd E dx (.own x)) x (.ins C dx [])) := fun hx hdx ne => (same_new hdx _).trans (same_new (by rw [upd_ne (Ne.symm ne)]; exact hx) _)
  refine ⟨x8, CS, dx, rfl, upd_same, rfl, MS.mcS, fun L F8 kG hL nL eL eX => ⟨rfl, ?_⟩⟩
  have s9 : Same E4 F8 := fun b o e => kG b o (fun z => by rw [z, hx] at e; cases e) (sn hx hdx ne _ _ e)
  have i8 := ins MS.mcS moS rfl eL eX
  clear hx hdx ne hL nL eL eX kG
  refine fun x9 dx hx hdx ne => ⟨x9, CF, dx, [], rfl, upd_same, MS.mcF, fun L F9 hL nL kG eL eX => ⟨rfl, ?_⟩⟩
  have s10 : Same F8 F9 := fun b o e => kG b o (fun z => by rw [z, hx] at e; cases e) (sn hx hdx ne _ _ e)
  have i9 := ins (ex := []) MS.mcF moF rfl eL eX
  clear hx hdx ne hL nL eL eX kG
  refine ⟨big 2 (by decide), fun A2 hA2 => ?_⟩
  have s11 := same_new hA2 (.lst [.ref x8, .ref x9])
  have eA2 : (upd F9 A2 (.lst [.ref x8, .ref x9])) A2 = some (.lst [.ref x8, .ref x9]) := upd_same
  generalize upd F9 A2 (HO.lst [V.ref x8, .ref x9]) = E5 at s11 eA2 ⊢
  refine ⟨A1, A2, _, _, rfl, rfl, s11 _ _ (s10 _ _ (s9 _ _ eA1)), eA2, big 9 (by decide), fun A3 hA3 => ?_⟩
  have s12 := same_new hA3 (.lst [.ref x1, .ref x2, .ref x3, .ref x4, .ref x5, .ref x6, .ref x7, .ref x8, .ref x9])
  have eA3 : (upd E5 A3 (.lst [.ref x1, .ref x2, .ref x3, .ref x4, .ref x5, .ref x6, .ref x7, .ref x8, .ref x9])) A3 = some (.lst [.ref x1, .ref x2, .ref x3, .ref x4, .ref x5, .ref x6, .ref x7, .ref x8, .ref x9]) := upd_same
  refine (show ∀ Z : Hp → Prop, Z (upd E5 A3 (HO.lst [V.ref x1, .ref x2, .ref x3, .ref x4, .ref x5, .ref x6, .ref x7, .ref x8, .ref x9])) → Z (upd E5 A3 (HO.lst [V.ref x1, .ref x2, .ref x3, .ref x4, .ref x5, .ref x6, .ref x7, .ref x8, .ref x9])) from fun _ z => z) _ ?_
  generalize upd E5 A3 (HO.lst [V.ref x1, .ref x2, .ref x3, .ref x4, .ref x5, .ref x6, .ref x7, .ref x8, .ref x9]) = E6 at s12 eA3 ⊢
  have d9 := s11.trans s12
  have d8 := s10.trans d9
  have d7 := s8.trans (s9.trans d8)
  have d6 := s6'.trans (s7.trans d7)
  have d5 := s6.trans d6
  have d4 := s5.trans d5
  have d3 := s4.trans d4
  have d2 := s3.trans d3
  have d1 := s2.trans d2
  have all : ∀ x ∈ [x1, x2, x3, x4, x5, x6, x7, x8, x9], Ins0 P w K mg base CO E6 x := by
    intro x m
    simp only [List.mem_cons, List.not_mem_nil, or_false] at m
    rcases m with rfl | rfl | rfl | rfl | rfl | rfl | rfl | rfl | rfl
    · exact i1'.le d1
    · exact i2.le d2
    · exact i3.le d3
    · exact i4.le d4
    · exact i5.le d5
    · exact i6.le d6
    · exact i7.le d7
    · exact i8.le d8
    · exact i9.le d9
  have dAll : Same H E6 := by
    refine fun b o e => d1 _ _ (v2.keep ?_ (t.keep ?_ (sG1 _ _ e)))
    all_goals exact fun z => by rw [z, hst] at e; cases e
  refine ⟨_, rfl, A3, rfl, ⟨_, SqL.of eA3⟩, fun D hD => ?_⟩
  refine lc_list (K := K) (a := A3) (xs := [V.ref x1, .ref x2, .ref x3, .ref x4, .ref x5, .ref x6, .ref x7, .ref x8, .ref x9]) (fun j G => Same E6 G ∧ G D = some (.lst [])) ⟨same_new hD _, upd_same⟩ (fun j G hj p => SqL.of (p.1 _ _ eA3)) (fun j x G ex p => ?_) (fun G p => ?_)
  · obtain ⟨sE, eD⟩ := p
    obtain ⟨y, my, rfl⟩ : ∃ y ∈ [x1, x2, x3, x4, x5, x6, x7, x8, x9], x = .ref y := by
      have := List.mem_of_getElem? ex
      simpa using this
    obtain ⟨C, dx, L, fs, ex2, e1, e2, e3, e4, e5⟩ := (all y my).le sE
    refine ⟨rfl, ?_⟩
    refine ⟨_, rfl, y, C, dx, L, fs, ex2, rfl, e1, e2, e3, e4, e5, fun G2 s => ⟨_, rfl, ?_⟩⟩
    exact (if_neg (by decide)).mpr ⟨sE.trans s, s _ _ eD⟩
  · obtain ⟨sE, eD⟩ := p
    refine ⟨big 0 (by decide), fun N0 hN0 => ?_⟩
    have sN := same_new hN0 (.lst [])
    refine ⟨D, N0, [], rfl, rfl, SqL.of (sN _ _ eD), SqL.of upd_same, ?_⟩
    refine ⟨_, rfl, iteF ⟨dAll.trans (sE.trans sN), _, _, _, _, _, rfl⟩⟩
end
end K18
namespace K18
open PySem PySem.Spec PyProof.Rows L2 Gr
def cI (K : PySem.W.Frag) : _root_.Fin 8 → Addr
  | 0 => He.ga K "Turned"
  | 1 => He.ga K "Chosen"
  | 2 => He.ga K "While"
  | 3 => He.ga K "Until"
  | 4 => He.ga K "First"
  | 5 => He.ga K "Skip"
  | 6 => He.ga K "Windows"
  | 7 => He.ga K "Groups"
def fI (K : PySem.W.Frag) : _root_.Fin 8 → Addr
  | 0 => He.ma K (He.ga K "Turned") "__init__"
  | 1 => He.ma K (He.ga K "Chosen") "__init__"
  | 2 => He.ma K (He.ga K "While") "__init__"
  | 3 => He.ma K (He.ga K "Until") "__init__"
  | 4 => He.ma K (He.ga K "First") "__init__"
  | 5 => He.ma K (He.ga K "Skip") "__init__"
  | 6 => He.ma K (He.ga K "Windows") "__init__"
  | 7 => He.ma K (He.ga K "Groups") "__init__"
def fdI (a b c d e f g h : FuncData) : _root_.Fin 8 → FuncData
  | 0 => a
  | 1 => b
  | 2 => c
  | 3 => d
  | 4 => e
  | 5 => f
  | 6 => g
  | 7 => h
theorem facts {P : Program} {w : World} {K : PySem.W.Frag} {h : Heap} {mg : Str → Option Value} {f : Addr} (X : K.In h) (G : h.Ns mainGlobals mg) (hfa : mg ("law" : Str) = some (.ref f)) (cT : He.SaysT fa fn tabs w K) (cm : more K = true) (cS : (fs.map fun d => fnC K d.at_) = fs.map DefC.val) (hP : P.main.file = fileS) (hT : (P.main.scope.names.lookup ("super" : Str)).isSome = false) :
    ∃ fd : FuncData, (∀ (s : Shared) (v : Value), BindsTo s fd ⟨[v], []⟩ [("_law_script", v)]) ∧ ∀ base : Heap, K.In base → base.Ns mainGlobals mg → FnQ P w K mg base CX0 12 f fd ["_law_script"] (spLaw K) := by
  have c := cT.d
  obtain ⟨fd_is_whole, F_is_whole⟩ := c.def_ 0 (d := d_is_whole) rfl
  have F_is_whole : FnD K "is_whole" sWhole (He.ga K "is_whole") fd_is_whole := F_is_whole
  have g_is_whole : mg "is_whole" = some (.ref (He.ga K "is_whole")) := He.glo_ok X G (c.fact 0 (f := .glo "is_whole") rfl)
  have b_is_whole : Binds K fd_is_whole ["thing", "low", "high"] [] := F_is_whole.bindsN fun _ _ _ _ _ _ us hl => match us, hl with | [_, _, _], _ => rfl
  obtain ⟨fd_is_deeds, F_is_deeds⟩ := c.def_ 1 (d := d_is_deeds) rfl
  have F_is_deeds : FnD K "is_deeds" sDeeds (He.ga K "is_deeds") fd_is_deeds := F_is_deeds
  have g_is_deeds : mg "is_deeds" = some (.ref (He.ga K "is_deeds")) := He.glo_ok X G (c.fact 1 (f := .glo "is_deeds") rfl)
  have b_is_deeds : Binds K fd_is_deeds ["thing"] [] := F_is_deeds.bindsN fun _ _ _ _ _ _ us hl => match us, hl with | [_], _ => rfl
  obtain ⟨fd_is_tests, F_is_tests⟩ := c.def_ 2 (d := d_is_tests) rfl
  have F_is_tests : FnD K "is_tests" sTests (He.ga K "is_tests") fd_is_tests := F_is_tests
  have g_is_tests : mg "is_tests" = some (.ref (He.ga K "is_tests")) := He.glo_ok X G (c.fact 2 (f := .glo "is_tests") rfl)
  have b_is_tests : Binds K fd_is_tests ["thing"] [] := F_is_tests.bindsN fun _ _ _ _ _ _ us hl => match us, hl with | [_], _ => rfl
  obtain ⟨fd_p_is_deed, F_p_is_deed⟩ := c.def_ 3 (d := d_p_is_deed) rfl
  have F_p_is_deed : FnD K "_is_deed" sDeed (He.ga K "_is_deed") fd_p_is_deed := F_p_is_deed
  have g_p_is_deed : mg "_is_deed" = some (.ref (He.ga K "_is_deed")) := He.glo_ok X G (c.fact 3 (f := .glo "_is_deed") rfl)
  have b_p_is_deed : Binds K fd_p_is_deed ["thing"] [] := F_p_is_deed.bindsN fun _ _ _ _ _ _ us hl => match us, hl with | [_], _ => rfl
  obtain ⟨fd_p_is_test, F_p_is_test⟩ := c.def_ 4 (d := d_p_is_test) rfl
  have F_p_is_test : FnD K "_is_test" sTest (He.ga K "_is_test") fd_p_is_test := F_p_is_test
  have g_p_is_test : mg "_is_test" = some (.ref (He.ga K "_is_test")) := He.glo_ok X G (c.fact 4 (f := .glo "_is_test") rfl)
  have b_p_is_test : Binds K fd_p_is_test ["thing"] [] := F_p_is_test.bindsN fun _ _ _ _ _ _ us hl => match us, hl with | [_], _ => rfl
  obtain ⟨fd_p_check_deeds, F_p_check_deeds⟩ := c.def_ 5 (d := d_p_check_deeds) rfl
  have F_p_check_deeds : FnD K "_check_deeds" sCheckDeeds (He.ga K "_check_deeds") fd_p_check_deeds := F_p_check_deeds
  have g_p_check_deeds : mg "_check_deeds" = some (.ref (He.ga K "_check_deeds")) := He.glo_ok X G (c.fact 5 (f := .glo "_check_deeds") rfl)
  have b_p_check_deeds : Binds K fd_p_check_deeds ["thing"] [] := F_p_check_deeds.bindsN fun _ _ _ _ _ _ us hl => match us, hl with | [_], _ => rfl
  obtain ⟨fd_p_check_tests, F_p_check_tests⟩ := c.def_ 6 (d := d_p_check_tests) rfl
  have F_p_check_tests : FnD K "_check_tests" sCheckTests (He.ga K "_check_tests") fd_p_check_tests := F_p_check_tests
  have g_p_check_tests : mg "_check_tests" = some (.ref (He.ga K "_check_tests")) := He.glo_ok X G (c.fact 6 (f := .glo "_check_tests") rfl)
  have b_p_check_tests : Binds K fd_p_check_tests ["thing"] [] := F_p_check_tests.bindsN fun _ _ _ _ _ _ us hl => match us, hl with | [_], _ => rfl
  obtain ⟨fd_p_check_number, F_p_check_number⟩ := c.def_ 7 (d := d_p_check_number) rfl
  have F_p_check_number : FnD K "_check_number" sCheckNumber (He.ga K "_check_number") fd_p_check_number := F_p_check_number
  have g_p_check_number : mg "_check_number" = some (.ref (He.ga K "_check_number")) := He.glo_ok X G (c.fact 7 (f := .glo "_check_number") rfl)
  have b_p_check_number : Binds K fd_p_check_number ["thing", "low", "high"] [] := F_p_check_number.bindsN fun _ _ _ _ _ _ us hl => match us, hl with | [_, _, _], _ => rfl
  obtain ⟨fd_law_cell, F_law_cell⟩ := c.def_ 8 (d := d_law_cell) rfl
  have F_law_cell : FnD K "_law_cell" lCell (He.ga K "_law_cell") fd_law_cell := F_law_cell
  have g_law_cell : mg "_law_cell" = some (.ref (He.ga K "_law_cell")) := He.glo_ok X G (c.fact 8 (f := .glo "_law_cell") rfl)
  have b_law_cell : Binds K fd_law_cell ["_law_script", "_law_k"] [] := F_law_cell.bindsN fun _ _ _ _ _ _ us hl => match us, hl with | [_, _], _ => rfl
  obtain ⟨fd_law_box, F_law_box⟩ := c.def_ 9 (d := d_law_box) rfl
  have F_law_box : FnD K "_law_box" lBox (He.ga K "_law_box") fd_law_box := F_law_box
  have g_law_box : mg "_law_box" = some (.ref (He.ga K "_law_box")) := He.glo_ok X G (c.fact 9 (f := .glo "_law_box") rfl)
  have b_law_box : Binds K fd_law_box ["_law_cell_here"] [] := F_law_box.bindsN fun _ _ _ _ _ _ us hl => match us, hl with | [_], _ => rfl
  obtain ⟨fd_law_take, F_law_take⟩ := c.def_ 10 (d := d_law_take) rfl
  have F_law_take : FnD K "_law_take" lTake (He.ga K "_law_take") fd_law_take := F_law_take
  have g_law_take : mg "_law_take" = some (.ref (He.ga K "_law_take")) := He.glo_ok X G (c.fact 10 (f := .glo "_law_take") rfl)
  have b_law_take : Binds K fd_law_take ["_law_box_here", "_law_many"] [] := F_law_take.bindsN fun _ _ _ _ _ _ us hl => match us, hl with | [_, _], _ => rfl
  obtain ⟨fd_law_deeds, F_law_deeds⟩ := c.def_ 11 (d := d_law_deeds) rfl
  have F_law_deeds : FnD K "_law_deeds" lDeeds (He.ga K "_law_deeds") fd_law_deeds := F_law_deeds
  have g_law_deeds : mg "_law_deeds" = some (.ref (He.ga K "_law_deeds")) := He.glo_ok X G (c.fact 11 (f := .glo "_law_deeds") rfl)
  have b_law_deeds : Binds K fd_law_deeds ["_law_box_here"] [] := F_law_deeds.bindsN fun _ _ _ _ _ _ us hl => match us, hl with | [_], _ => rfl
  obtain ⟨fd_law_tests, F_law_tests⟩ := c.def_ 12 (d := d_law_tests) rfl
  have F_law_tests : FnD K "_law_tests" lTests (He.ga K "_law_tests") fd_law_tests := F_law_tests
  have g_law_tests : mg "_law_tests" = some (.ref (He.ga K "_law_tests")) := He.glo_ok X G (c.fact 12 (f := .glo "_law_tests") rfl)
  have b_law_tests : Binds K fd_law_tests ["_law_box_here"] [] := F_law_tests.bindsN fun _ _ _ _ _ _ us hl => match us, hl with | [_], _ => rfl
  obtain ⟨fd_law_odd, F_law_odd⟩ := c.def_ 13 (d := d_law_odd) rfl
  have F_law_odd : FnD K "_law_odd" lOdd (He.ga K "_law_odd") fd_law_odd := F_law_odd
  have g_law_odd : mg "_law_odd" = some (.ref (He.ga K "_law_odd")) := He.glo_ok X G (c.fact 13 (f := .glo "_law_odd") rfl)
  have b_law_odd : Binds K fd_law_odd ["_law_box_here"] [] := F_law_odd.bindsN fun _ _ _ _ _ _ us hl => match us, hl with | [_], _ => rfl
  obtain ⟨fd_law_bad_deeds, F_law_bad_deeds⟩ := c.def_ 14 (d := d_law_bad_deeds) rfl
  have F_law_bad_deeds : FnD K "_law_bad_deeds" lBadDeeds (He.ga K "_law_bad_deeds") fd_law_bad_deeds := F_law_bad_deeds
  have g_law_bad_deeds : mg "_law_bad_deeds" = some (.ref (He.ga K "_law_bad_deeds")) := He.glo_ok X G (c.fact 14 (f := .glo "_law_bad_deeds") rfl)
  have b_law_bad_deeds : Binds K fd_law_bad_deeds ["_law_box_here"] [] := F_law_bad_deeds.bindsN fun _ _ _ _ _ _ us hl => match us, hl with | [_], _ => rfl
  obtain ⟨fd_law_bad_tests, F_law_bad_tests⟩ := c.def_ 15 (d := d_law_bad_tests) rfl
  have F_law_bad_tests : FnD K "_law_bad_tests" lBadTests (He.ga K "_law_bad_tests") fd_law_bad_tests := F_law_bad_tests
  have g_law_bad_tests : mg "_law_bad_tests" = some (.ref (He.ga K "_law_bad_tests")) := He.glo_ok X G (c.fact 15 (f := .glo "_law_bad_tests") rfl)
  have b_law_bad_tests : Binds K fd_law_bad_tests ["_law_box_here"] [] := F_law_bad_tests.bindsN fun _ _ _ _ _ _ us hl => match us, hl with | [_], _ => rfl
  obtain ⟨fd_law_bad_number, F_law_bad_number⟩ := c.def_ 16 (d := d_law_bad_number) rfl
  have F_law_bad_number : FnD K "_law_bad_number" lBadNumber (He.ga K "_law_bad_number") fd_law_bad_number := F_law_bad_number
  have g_law_bad_number : mg "_law_bad_number" = some (.ref (He.ga K "_law_bad_number")) := He.glo_ok X G (c.fact 16 (f := .glo "_law_bad_number") rfl)
  have b_law_bad_number : Binds K fd_law_bad_number ["_law_box_here", "_law_low", "_law_high"] [] := F_law_bad_number.bindsN fun _ _ _ _ _ _ us hl => match us, hl with | [_, _, _], _ => rfl
  obtain ⟨fd_law_by_place, F_law_by_place⟩ := c.def_ 17 (d := d_law_by_place) rfl
  have F_law_by_place : FnD K "_law_by_place" lByPlace (He.ga K "_law_by_place") fd_law_by_place := F_law_by_place
  have g_law_by_place : mg "_law_by_place" = some (.ref (He.ga K "_law_by_place")) := He.glo_ok X G (c.fact 17 (f := .glo "_law_by_place") rfl)
  have b_law_by_place : Binds K fd_law_by_place ["_law_way", "_law_thing_here"] [] := F_law_by_place.bindsN fun _ _ _ _ _ _ us hl => match us, hl with | [_, _], _ => rfl
  obtain ⟨fd_law_tried, F_law_tried⟩ := c.def_ 18 (d := d_law_tried) rfl
  have F_law_tried : FnD K "_law_tried" lTried (He.ga K "_law_tried") fd_law_tried := F_law_tried
  have g_law_tried : mg "_law_tried" = some (.ref (He.ga K "_law_tried")) := He.glo_ok X G (c.fact 18 (f := .glo "_law_tried") rfl)
  have b_law_tried : Binds K fd_law_tried ["_law_way", "_law_thing_here"] [] := F_law_tried.bindsN fun _ _ _ _ _ _ us hl => match us, hl with | [_, _], _ => rfl
  obtain ⟨fd_law_good, F_law_good⟩ := c.def_ 19 (d := d_law_good) rfl
  have F_law_good : FnD K "_law_good" lGood (He.ga K "_law_good") fd_law_good := F_law_good
  have g_law_good : mg "_law_good" = some (.ref (He.ga K "_law_good")) := He.glo_ok X G (c.fact 19 (f := .glo "_law_good") rfl)
  have b_law_good : Binds K fd_law_good ["_law_box_here", "_law_way"] [] := F_law_good.bindsN fun _ _ _ _ _ _ us hl => match us, hl with | [_, _], _ => rfl
  obtain ⟨fd_law_bare, F_law_bare⟩ := c.def_ 20 (d := d_law_bare) rfl
  have F_law_bare : FnD K "_law_bare" lBare (He.ga K "_law_bare") fd_law_bare := F_law_bare
  have g_law_bare : mg "_law_bare" = some (.ref (He.ga K "_law_bare")) := He.glo_ok X G (c.fact 20 (f := .glo "_law_bare") rfl)
  have b_law_bare : Binds K fd_law_bare ["_law_machine"] [] := F_law_bare.bindsN fun _ _ _ _ _ _ us hl => match us, hl with | [_], _ => rfl
  obtain ⟨fd_law_right, F_law_right⟩ := c.def_ 21 (d := d_law_right) rfl
  have F_law_right : FnD K "_law_right" lRight (He.ga K "_law_right") fd_law_right := F_law_right
  have g_law_right : mg "_law_right" = some (.ref (He.ga K "_law_right")) := He.glo_ok X G (c.fact 21 (f := .glo "_law_right") rfl)
  have b_law_right : Binds K fd_law_right ["_law_box_here"] [] := F_law_right.bindsN fun _ _ _ _ _ _ us hl => match us, hl with | [_], _ => rfl
  obtain ⟨fd_law, F_law⟩ := c.def_ 22 (d := d_law) rfl
  have F_law : FnD K "law" lLaw (He.ga K "law") fd_law := F_law
  have g_law : mg "law" = some (.ref (He.ga K "law")) := He.glo_ok X G (c.fact 22 (f := .glo "law") rfl)
  have b_law : Binds K fd_law ["_law_script"] [] := F_law.bindsN fun _ _ _ _ _ _ us hl => match us, hl with | [_], _ => rfl
  obtain ⟨fd_iNoNumber, F_iNoNumber⟩ := c.def_ 23 (d := d_initNoNumber) rfl
  have F_iNoNumber : FunD K "__init__" "NoNumber.__init__" (defArgs sNoNumberInit) (defBody sNoNumberInit) (defScope sNoNumberInit) [] [] (He.ma K (He.ga K "NoNumber") "__init__") fd_iNoNumber := F_iNoNumber
  have b_iNoNumber : Binds K fd_iNoNumber ["self", "found"] [] := F_iNoNumber.bindsN fun _ _ _ _ _ _ us hl => match us, hl with | [_, _], _ => rfl
  obtain ⟨fd_iNoDeeds, F_iNoDeeds⟩ := c.def_ 24 (d := d_initNoDeeds) rfl
  have F_iNoDeeds : FunD K "__init__" "NoDeeds.__init__" (defArgs sNoDeedsInit) (defBody sNoDeedsInit) (defScope sNoDeedsInit) [] [] (He.ma K (He.ga K "NoDeeds") "__init__") fd_iNoDeeds := F_iNoDeeds
  have b_iNoDeeds : Binds K fd_iNoDeeds ["self", "found"] [] := F_iNoDeeds.bindsN fun _ _ _ _ _ _ us hl => match us, hl with | [_, _], _ => rfl
  obtain ⟨fd_iNoTests, F_iNoTests⟩ := c.def_ 25 (d := d_initNoTests) rfl
  have F_iNoTests : FunD K "__init__" "NoTests.__init__" (defArgs sNoTestsInit) (defBody sNoTestsInit) (defScope sNoTestsInit) [] [] (He.ma K (He.ga K "NoTests") "__init__") fd_iNoTests := F_iNoTests
  have b_iNoTests : Binds K fd_iNoTests ["self", "found"] [] := F_iNoTests.bindsN fun _ _ _ _ _ _ us hl => match us, hl with | [_, _], _ => rfl
  obtain ⟨fd_iMachine, F_iMachine⟩ := c.def_ 26 (d := d_initMachine) rfl
  have F_iMachine : FunD K "__init__" "Machine.__init__" (defArgs sMachineInit) (defBody sMachineInit) (defScope sMachineInit) [] [] (He.ma K (He.ga K "Machine") "__init__") fd_iMachine := F_iMachine
  have b_iMachine : Binds K fd_iMachine ["self"] [] := F_iMachine.bindsN fun _ _ _ _ _ _ us hl => match us, hl with | [_], _ => rfl
  obtain ⟨fd_mgives, F_mgives⟩ := c.def_ 27 (d := d_mgives) rfl
  have F_mgives : FunD K "gives" "Machine.gives" (defArgs sMachineGives) (defBody sMachineGives) (defScope sMachineGives) [] [] (He.ma K (He.ga K "Machine") "gives") fd_mgives := F_mgives
  have b_mgives : Binds K fd_mgives ["self"] [] := F_mgives.bindsN fun _ _ _ _ _ _ us hl => match us, hl with | [_], _ => rfl
  obtain ⟨fd_mstop, F_mstop⟩ := c.def_ 28 (d := d_mstop) rfl
  have F_mstop : FunD K "stop" "Machine.stop" (defArgs sMachineStop) (defBody sMachineStop) (defScope sMachineStop) [] [] (He.ma K (He.ga K "Machine") "stop") fd_mstop := F_mstop
  have b_mstop : Binds K fd_mstop ["self"] [] := F_mstop.bindsN fun _ _ _ _ _ _ us hl => match us, hl with | [_], _ => rfl
  have g_PlanError : mg "PlanError" = some (.ref (He.ga K "PlanError")) := He.glo_ok X G (c.fact 23 (f := .glo "PlanError") rfl)
  have g_NoNumber : mg "NoNumber" = some (.ref (He.ga K "NoNumber")) := He.glo_ok X G (c.fact 24 (f := .glo "NoNumber") rfl)
  have g_NoDeeds : mg "NoDeeds" = some (.ref (He.ga K "NoDeeds")) := He.glo_ok X G (c.fact 25 (f := .glo "NoDeeds") rfl)
  have g_NoTests : mg "NoTests" = some (.ref (He.ga K "NoTests")) := He.glo_ok X G (c.fact 26 (f := .glo "NoTests") rfl)
  have g_Barred : mg "Barred" = some (.ref (He.ga K "Barred")) := He.glo_ok X G (c.fact 27 (f := .glo "Barred") rfl)
  have g_Over : mg "Over" = some (.ref (He.ga K "Over")) := He.glo_ok X G (c.fact 28 (f := .glo "Over") rfl)
  have g_Machine : mg "Machine" = some (.ref (He.ga K "Machine")) := He.glo_ok X G (c.fact 29 (f := .glo "Machine") rfl)
  have g_Turned : mg "Turned" = some (.ref (He.ga K "Turned")) := He.glo_ok X G (c.fact 30 (f := .glo "Turned") rfl)
  have g_Chosen : mg "Chosen" = some (.ref (He.ga K "Chosen")) := He.glo_ok X G (c.fact 31 (f := .glo "Chosen") rfl)
  have g_While : mg "While" = some (.ref (He.ga K "While")) := He.glo_ok X G (c.fact 32 (f := .glo "While") rfl)
  have g_Until : mg "Until" = some (.ref (He.ga K "Until")) := He.glo_ok X G (c.fact 33 (f := .glo "Until") rfl)
  have g_First : mg "First" = some (.ref (He.ga K "First")) := He.glo_ok X G (c.fact 34 (f := .glo "First") rfl)
  have g_Skip : mg "Skip" = some (.ref (He.ga K "Skip")) := He.glo_ok X G (c.fact 35 (f := .glo "Skip") rfl)
  have g_Windows : mg "Windows" = some (.ref (He.ga K "Windows")) := He.glo_ok X G (c.fact 36 (f := .glo "Windows") rfl)
  have g_Groups : mg "Groups" = some (.ref (He.ga K "Groups")) := He.glo_ok X G (c.fact 37 (f := .glo "Groups") rfl)
  have g_Sums : mg "Sums" = some (.ref (He.ga K "Sums")) := He.glo_ok X G (c.fact 38 (f := .glo "Sums") rfl)
  have g_Flat : mg "Flat" = some (.ref (He.ga K "Flat")) := He.glo_ok X G (c.fact 39 (f := .glo "Flat") rfl)
  have g_LEAST_OF_DEED : mg "LEAST_OF_DEED" = some (.ref (He.ga K "LEAST_OF_DEED")) := He.glo_ok X G (c.fact 40 (f := .glo "LEAST_OF_DEED") rfl)
  have g_LEAST_OF_TEST : mg "LEAST_OF_TEST" = some (.ref (He.ga K "LEAST_OF_TEST")) := He.glo_ok X G (c.fact 41 (f := .glo "LEAST_OF_TEST") rfl)
  have m_LookupError : mg "LookupError" = none := He.free_ok X G (c.fact 42 (f := .free "LookupError") rfl)
  have m_ValueError : mg "ValueError" = none := He.free_ok X G (c.fact 43 (f := .free "ValueError") rfl)
  have m_all : mg "all" = none := He.free_ok X G (c.fact 44 (f := .free "all") rfl)
  have m_bool : mg "bool" = none := He.free_ok X G (c.fact 45 (f := .free "bool") rfl)
  have m_int : mg "int" = none := He.free_ok X G (c.fact 46 (f := .free "int") rfl)
  have m_isinstance : mg "isinstance" = none := He.free_ok X G (c.fact 47 (f := .free "isinstance") rfl)
  have m_len : mg "len" = none := He.free_ok X G (c.fact 48 (f := .free "len") rfl)
  have m_list : mg "list" = none := He.free_ok X G (c.fact 49 (f := .free "list") rfl)
  have m_max : mg "max" = none := He.free_ok X G (c.fact 50 (f := .free "max") rfl)
  have m_min : mg "min" = none := He.free_ok X G (c.fact 51 (f := .free "min") rfl)
  have m_range : mg "range" = none := He.free_ok X G (c.fact 52 (f := .free "range") rfl)
  have m_repr : mg "repr" = none := He.free_ok X G (c.fact 53 (f := .free "repr") rfl)
  have m_str : mg "str" = none := He.free_ok X G (c.fact 54 (f := .free "str") rfl)
  have m_sum : mg "sum" = none := He.free_ok X G (c.fact 55 (f := .free "sum") rfl)
  have m_tuple : mg "tuple" = none := He.free_ok X G (c.fact 56 (f := .free "tuple") rfl)
  obtain ⟨t_MOST_DEEDS, mi_MOST_DEEDS⟩ := He.int_ok X G (c.fact 57 (f := .int "MOST_DEEDS" 8) rfl)
  obtain ⟨t_MOST_TESTS, mi_MOST_TESTS⟩ := He.int_ok X G (c.fact 58 (f := .int "MOST_TESTS" 8) rfl)
  have c_0 := c.fact 59 (f := .cls "Turned") rfl
  have c_1 := c.fact 60 (f := .mkr "Turned") rfl
  have c_2 := c.fact 61 (f := .noat "Turned" "lying") rfl
  have c_3 := c.fact 62 (f := .noat "Turned" "is_done") rfl
  have c_4 := c.fact 63 (f := .noat "Turned" "is_cut") rfl
  have c_5 := c.fact 64 (f := .noat "Turned" "_deeds") rfl
  have c_6 := c.fact 65 (f := .meth "Turned" "gives") rfl
  have c_7 := c.fact 66 (f := .cls "Chosen") rfl
  have c_8 := c.fact 67 (f := .mkr "Chosen") rfl
  have c_9 := c.fact 68 (f := .noat "Chosen" "lying") rfl
  have c_10 := c.fact 69 (f := .noat "Chosen" "is_done") rfl
  have c_11 := c.fact 70 (f := .noat "Chosen" "is_cut") rfl
  have c_12 := c.fact 71 (f := .noat "Chosen" "_tests") rfl
  have c_13 := c.fact 72 (f := .meth "Chosen" "gives") rfl
  have c_14 := c.fact 73 (f := .cls "While") rfl
  have c_15 := c.fact 74 (f := .mkr "While") rfl
  have c_16 := c.fact 75 (f := .noat "While" "lying") rfl
  have c_17 := c.fact 76 (f := .noat "While" "is_done") rfl
  have c_18 := c.fact 77 (f := .noat "While" "is_cut") rfl
  have c_19 := c.fact 78 (f := .noat "While" "_tests") rfl
  have c_20 := c.fact 79 (f := .meth "While" "gives") rfl
  have c_21 := c.fact 80 (f := .cls "Until") rfl
  have c_22 := c.fact 81 (f := .mkr "Until") rfl
  have c_23 := c.fact 82 (f := .noat "Until" "lying") rfl
  have c_24 := c.fact 83 (f := .noat "Until" "is_done") rfl
  have c_25 := c.fact 84 (f := .noat "Until" "is_cut") rfl
  have c_26 := c.fact 85 (f := .noat "Until" "_tests") rfl
  have c_27 := c.fact 86 (f := .meth "Until" "gives") rfl
  have c_28 := c.fact 87 (f := .cls "First") rfl
  have c_29 := c.fact 88 (f := .mkr "First") rfl
  have c_30 := c.fact 89 (f := .noat "First" "lying") rfl
  have c_31 := c.fact 90 (f := .noat "First" "is_done") rfl
  have c_32 := c.fact 91 (f := .noat "First" "is_cut") rfl
  have c_33 := c.fact 92 (f := .noat "First" "_many") rfl
  have c_34 := c.fact 93 (f := .noat "First" "_left") rfl
  have c_35 := c.fact 94 (f := .meth "First" "gives") rfl
  have c_36 := c.fact 95 (f := .cls "Skip") rfl
  have c_37 := c.fact 96 (f := .mkr "Skip") rfl
  have c_38 := c.fact 97 (f := .noat "Skip" "lying") rfl
  have c_39 := c.fact 98 (f := .noat "Skip" "is_done") rfl
  have c_40 := c.fact 99 (f := .noat "Skip" "is_cut") rfl
  have c_41 := c.fact 100 (f := .noat "Skip" "_many") rfl
  have c_42 := c.fact 101 (f := .noat "Skip" "_left") rfl
  have c_43 := c.fact 102 (f := .meth "Skip" "gives") rfl
  have c_44 := c.fact 103 (f := .cls "Windows") rfl
  have c_45 := c.fact 104 (f := .mkr "Windows") rfl
  have c_46 := c.fact 105 (f := .noat "Windows" "lying") rfl
  have c_47 := c.fact 106 (f := .noat "Windows" "is_done") rfl
  have c_48 := c.fact 107 (f := .noat "Windows" "is_cut") rfl
  have c_49 := c.fact 108 (f := .noat "Windows" "_many") rfl
  have c_50 := c.fact 109 (f := .noat "Windows" "_kept") rfl
  have c_51 := c.fact 110 (f := .meth "Windows" "gives") rfl
  have c_52 := c.fact 111 (f := .cls "Groups") rfl
  have c_53 := c.fact 112 (f := .mkr "Groups") rfl
  have c_54 := c.fact 113 (f := .noat "Groups" "lying") rfl
  have c_55 := c.fact 114 (f := .noat "Groups" "is_done") rfl
  have c_56 := c.fact 115 (f := .noat "Groups" "is_cut") rfl
  have c_57 := c.fact 116 (f := .noat "Groups" "_deeds") rfl
  have c_58 := c.fact 117 (f := .noat "Groups" "_kept") rfl
  have c_59 := c.fact 118 (f := .meth "Groups" "gives") rfl
  have c_60 := c.fact 119 (f := .cls "Sums") rfl
  have c_61 := c.fact 120 (f := .mkr "Sums") rfl
  have c_62 := c.fact 121 (f := .noat "Sums" "lying") rfl
  have c_63 := c.fact 122 (f := .noat "Sums" "is_done") rfl
  have c_64 := c.fact 123 (f := .noat "Sums" "is_cut") rfl
  have c_65 := c.fact 124 (f := .noat "Sums" "_total") rfl
  have c_66 := c.fact 125 (f := .meth "Sums" "gives") rfl
  have c_67 := c.fact 126 (f := .cls "Flat") rfl
  have c_68 := c.fact 127 (f := .mkr "Flat") rfl
  have c_69 := c.fact 128 (f := .noat "Flat" "lying") rfl
  have c_70 := c.fact 129 (f := .noat "Flat" "is_done") rfl
  have c_71 := c.fact 130 (f := .noat "Flat" "is_cut") rfl
  have c_72 := c.fact 131 (f := .meth "Flat" "gives") rfl
  have c_73 := c.fact 132 (f := .meth "First" "stop") rfl
  have c_74 := c.fact 133 (f := .exm "NoTests" "NoDeeds" false) rfl
  have c_75 := c.fact 134 (f := .exm "NoNumber" "NoDeeds" false) rfl
  have c_76 := c.fact 135 (f := .exm "NoNumber" "NoTests" false) rfl
  have c_77 := c.fact 136 (f := .exm "Over" "Over" true) rfl
  have c_78 := c.fact 137 (f := .free "super") rfl
  have e := hfa.symm.trans g_law
  cases e
  obtain ⟨m1, cm⟩ := He.ba cm
  obtain ⟨m2, cm⟩ := He.ba cm
  obtain ⟨m3, cm⟩ := He.ba cm
  obtain ⟨m4, cm⟩ := He.ba cm
  obtain ⟨okS, cm⟩ := He.ba cm
  obtain ⟨m5, cm⟩ := He.ba cm
  obtain ⟨m6, m7⟩ := He.ba cm
  obtain ⟨v1, m1⟩ := He.ba m1
  obtain ⟨v2, m1⟩ := He.ba m1
  obtain ⟨v3, m1⟩ := He.ba m1
  obtain ⟨v4, m1⟩ := He.ba m1
  obtain ⟨v5, m1⟩ := He.ba m1
  obtain ⟨v6, v7⟩ := He.ba m1
  obtain ⟨k1, m2⟩ := He.ba m2
  obtain ⟨k2, m2⟩ := He.ba m2
  obtain ⟨k3, m2⟩ := He.ba m2
  obtain ⟨k4, m2⟩ := He.ba m2
  obtain ⟨k5, k6⟩ := He.ba m2
  obtain ⟨g1, m3⟩ := He.ba m3
  obtain ⟨g2, g3⟩ := He.ba m3
  obtain ⟨e1, m5⟩ := He.ba m5
  obtain ⟨e2, e3⟩ := He.ba m5
  have g1' : ∀ C ∈ (["Turned", "Chosen", "While", "Until", "First", "Skip", "Windows", "Groups", "Sums", "Flat"] : List Str), He.ma K (He.ga K C) "gives" = He.ma K (He.ga K "Machine") "gives" := fun C hC => of_decide_eq_true (List.all_eq_true.mp g1 C hC)
  have g2' : He.ma K (He.ga K "First") "stop" = He.ma K (He.ga K "Machine") "stop" := of_decide_eq_true g2
  have g3' : He.ma K (He.ga K "Flat") "__init__" = He.ma K (He.ga K "Machine") "__init__" := of_decide_eq_true g3
  have sup : ∀ C ∈ (["Turned", "Chosen", "While", "Until", "First", "Skip", "Windows", "Groups", "Sums"] : List Str), L2N.Sup P K (cellOf K (C, some "__init__")) (He.codeOf K (C, some "__init__")) (He.ga K C) (He.ga K C) (He.ma K (He.ga K "Machine") "__init__") := fun C hC => supB_ok (List.all_eq_true.mp m4 C hC) hP hT
  have eN := errB_ok X e1
  have eD := errB_ok X e2
  have eT := errB_ok X e3
  have m_super : mg "super" = none := He.free_ok X G c_78
  have OV : OverC K mg (He.ga K "Over") := ⟨v1, g_Over, v2, of_decide_eq_true v3, of_decide_eq_true v4, He.exm_ok c_77⟩
  have TD : Tab K w (He.ga K "LEAST_OF_DEED") deedT := ⟨He.dicW_ok (SaysT_keys cT 0), fun q hq => rowsB_ok m6 hq, fun z hz => tab_absent (SaysT_keys cT 0) hz⟩
  have TT : Tab K w (He.ga K "LEAST_OF_TEST") testT := ⟨He.dicW_ok (SaysT_keys cT 1), fun q hq => rowsB_ok m7 hq, fun z hz => tab_absent (SaysT_keys cT 1) hz⟩
  have CC : CatT K mg (He.ga K "NoDeeds") (He.ga K "NoTests") (He.ga K "NoNumber") (He.ga K "PlanError") := ⟨g_NoDeeds, g_NoTests, g_NoNumber, g_PlanError, eD.ex, eT.ex, eN.ex, eD.no, eT.no, eN.no, eD.take, He.exm_ok c_74, eT.take, He.exm_ok c_75, He.exm_ok c_76, eN.take, eD.is, eT.is, eN.is, of_decide_eq_true k1, of_decide_eq_true k2, of_decide_eq_true k3, of_decide_eq_true k4, of_decide_eq_true k5, of_decide_eq_true k6⟩
  have CO : CatO K mg (He.ga K "Over") (He.ga K "Barred") (He.ga K "PlanError") := ⟨g_Over, g_Barred, g_PlanError, excB_ok v5, He.exm_ok c_77, of_decide_eq_true v6, of_decide_eq_true v7⟩
  obtain ⟨fd_sTurned, F_sTurned⟩ := funS_at cS 0 (d := d_sTurned) (List.all_eq_true.mp okS _ (List.mem_of_getElem? (i := 0) rfl))
  have F_sTurned : FunS K "__init__" "Turned.__init__" (defArgs sTurnedInit) (defBody sTurnedInit) (defScope sTurnedInit) (He.ma K (He.ga K "Turned") "__init__") (cellOf K ("Turned", some "__init__")) (He.codeOf K ("Turned", some "__init__")) fd_sTurned := F_sTurned
  have b_sTurned : Binds K fd_sTurned ["self", "deeds"] [] := F_sTurned.bindsN fun _ _ _ _ _ us hl => match us, hl with | [_, _], _ => rfl
  obtain ⟨fd_sChosen, F_sChosen⟩ := funS_at cS 1 (d := d_sChosen) (List.all_eq_true.mp okS _ (List.mem_of_getElem? (i := 1) rfl))
  have F_sChosen : FunS K "__init__" "Chosen.__init__" (defArgs sChosenInit) (defBody sChosenInit) (defScope sChosenInit) (He.ma K (He.ga K "Chosen") "__init__") (cellOf K ("Chosen", some "__init__")) (He.codeOf K ("Chosen", some "__init__")) fd_sChosen := F_sChosen
  have b_sChosen : Binds K fd_sChosen ["self", "tests"] [] := F_sChosen.bindsN fun _ _ _ _ _ us hl => match us, hl with | [_, _], _ => rfl
  obtain ⟨fd_sWhile, F_sWhile⟩ := funS_at cS 2 (d := d_sWhile) (List.all_eq_true.mp okS _ (List.mem_of_getElem? (i := 2) rfl))
  have F_sWhile : FunS K "__init__" "While.__init__" (defArgs sWhileInit) (defBody sWhileInit) (defScope sWhileInit) (He.ma K (He.ga K "While") "__init__") (cellOf K ("While", some "__init__")) (He.codeOf K ("While", some "__init__")) fd_sWhile := F_sWhile
  have b_sWhile : Binds K fd_sWhile ["self", "tests"] [] := F_sWhile.bindsN fun _ _ _ _ _ us hl => match us, hl with | [_, _], _ => rfl
  obtain ⟨fd_sUntil, F_sUntil⟩ := funS_at cS 3 (d := d_sUntil) (List.all_eq_true.mp okS _ (List.mem_of_getElem? (i := 3) rfl))
  have F_sUntil : FunS K "__init__" "Until.__init__" (defArgs sUntilInit) (defBody sUntilInit) (defScope sUntilInit) (He.ma K (He.ga K "Until") "__init__") (cellOf K ("Until", some "__init__")) (He.codeOf K ("Until", some "__init__")) fd_sUntil := F_sUntil
  have b_sUntil : Binds K fd_sUntil ["self", "tests"] [] := F_sUntil.bindsN fun _ _ _ _ _ us hl => match us, hl with | [_, _], _ => rfl
  obtain ⟨fd_sFirst, F_sFirst⟩ := funS_at cS 4 (d := d_sFirst) (List.all_eq_true.mp okS _ (List.mem_of_getElem? (i := 4) rfl))
  have F_sFirst : FunS K "__init__" "First.__init__" (defArgs sFirstInit) (defBody sFirstInit) (defScope sFirstInit) (He.ma K (He.ga K "First") "__init__") (cellOf K ("First", some "__init__")) (He.codeOf K ("First", some "__init__")) fd_sFirst := F_sFirst
  have b_sFirst : Binds K fd_sFirst ["self", "many"] [] := F_sFirst.bindsN fun _ _ _ _ _ us hl => match us, hl with | [_, _], _ => rfl
  obtain ⟨fd_sSkip, F_sSkip⟩ := funS_at cS 5 (d := d_sSkip) (List.all_eq_true.mp okS _ (List.mem_of_getElem? (i := 5) rfl))
  have F_sSkip : FunS K "__init__" "Skip.__init__" (defArgs sSkipInit) (defBody sSkipInit) (defScope sSkipInit) (He.ma K (He.ga K "Skip") "__init__") (cellOf K ("Skip", some "__init__")) (He.codeOf K ("Skip", some "__init__")) fd_sSkip := F_sSkip
  have b_sSkip : Binds K fd_sSkip ["self", "many"] [] := F_sSkip.bindsN fun _ _ _ _ _ us hl => match us, hl with | [_, _], _ => rfl
  obtain ⟨fd_sWindows, F_sWindows⟩ := funS_at cS 6 (d := d_sWindows) (List.all_eq_true.mp okS _ (List.mem_of_getElem? (i := 6) rfl))
  have F_sWindows : FunS K "__init__" "Windows.__init__" (defArgs sWindowsInit) (defBody sWindowsInit) (defScope sWindowsInit) (He.ma K (He.ga K "Windows") "__init__") (cellOf K ("Windows", some "__init__")) (He.codeOf K ("Windows", some "__init__")) fd_sWindows := F_sWindows
  have b_sWindows : Binds K fd_sWindows ["self", "many"] [] := F_sWindows.bindsN fun _ _ _ _ _ us hl => match us, hl with | [_, _], _ => rfl
  obtain ⟨fd_sGroups, F_sGroups⟩ := funS_at cS 7 (d := d_sGroups) (List.all_eq_true.mp okS _ (List.mem_of_getElem? (i := 7) rfl))
  have F_sGroups : FunS K "__init__" "Groups.__init__" (defArgs sGroupsInit) (defBody sGroupsInit) (defScope sGroupsInit) (He.ma K (He.ga K "Groups") "__init__") (cellOf K ("Groups", some "__init__")) (He.codeOf K ("Groups", some "__init__")) fd_sGroups := F_sGroups
  have b_sGroups : Binds K fd_sGroups ["self", "deeds"] [] := F_sGroups.bindsN fun _ _ _ _ _ us hl => match us, hl with | [_, _], _ => rfl
  obtain ⟨fd_sSums, F_sSums⟩ := funS_at cS 8 (d := d_sSums) (List.all_eq_true.mp okS _ (List.mem_of_getElem? (i := 8) rfl))
  have F_sSums : FunS K "__init__" "Sums.__init__" (defArgs sSumsInit) (defBody sSumsInit) (defScope sSumsInit) (He.ma K (He.ga K "Sums") "__init__") (cellOf K ("Sums", some "__init__")) (He.codeOf K ("Sums", some "__init__")) fd_sSums := F_sSums
  have b_sSums : Binds K fd_sSums ["self"] [] := F_sSums.bindsN fun _ _ _ _ _ us hl => match us, hl with | [_], _ => rfl
  refine ⟨fd_law, fun s v => FunD.bindsA (ps := ["_law_script"]) F_law (fun _ _ _ _ _ _ us hl => match us, hl with | [_], _ => rfl) s [v] rfl, fun base _ _ => ?_⟩
  have mcTurned : McC K (He.ga K "Turned") ["_deeds"] := ⟨He.cls_ok c_0, He.noat_ok c_2, He.noat_ok c_3, He.noat_ok c_4, fun f hf => by simp only [List.mem_cons, List.not_mem_nil, or_false] at hf; obtain rfl := hf; exact He.noat_ok c_5⟩
  have mcChosen : McC K (He.ga K "Chosen") ["_tests"] := ⟨He.cls_ok c_7, He.noat_ok c_9, He.noat_ok c_10, He.noat_ok c_11, fun f hf => by simp only [List.mem_cons, List.not_mem_nil, or_false] at hf; obtain rfl := hf; exact He.noat_ok c_12⟩
  have mcWhile : McC K (He.ga K "While") ["_tests"] := ⟨He.cls_ok c_14, He.noat_ok c_16, He.noat_ok c_17, He.noat_ok c_18, fun f hf => by simp only [List.mem_cons, List.not_mem_nil, or_false] at hf; obtain rfl := hf; exact He.noat_ok c_19⟩
  have mcUntil : McC K (He.ga K "Until") ["_tests"] := ⟨He.cls_ok c_21, He.noat_ok c_23, He.noat_ok c_24, He.noat_ok c_25, fun f hf => by simp only [List.mem_cons, List.not_mem_nil, or_false] at hf; obtain rfl := hf; exact He.noat_ok c_26⟩
  have mcFirst : McC K (He.ga K "First") ["_many", "_left"] := ⟨He.cls_ok c_28, He.noat_ok c_30, He.noat_ok c_31, He.noat_ok c_32, fun f hf => by simp only [List.mem_cons, List.not_mem_nil, or_false] at hf; rcases hf with rfl | rfl <;> first | exact He.noat_ok c_33 | exact He.noat_ok c_34⟩
  have mcSkip : McC K (He.ga K "Skip") ["_many", "_left"] := ⟨He.cls_ok c_36, He.noat_ok c_38, He.noat_ok c_39, He.noat_ok c_40, fun f hf => by simp only [List.mem_cons, List.not_mem_nil, or_false] at hf; rcases hf with rfl | rfl <;> first | exact He.noat_ok c_41 | exact He.noat_ok c_42⟩
  have mcWindows : McC K (He.ga K "Windows") ["_many", "_kept"] := ⟨He.cls_ok c_44, He.noat_ok c_46, He.noat_ok c_47, He.noat_ok c_48, fun f hf => by simp only [List.mem_cons, List.not_mem_nil, or_false] at hf; rcases hf with rfl | rfl <;> first | exact He.noat_ok c_49 | exact He.noat_ok c_50⟩
  have mcGroups : McC K (He.ga K "Groups") ["_deeds", "_kept"] := ⟨He.cls_ok c_52, He.noat_ok c_54, He.noat_ok c_55, He.noat_ok c_56, fun f hf => by simp only [List.mem_cons, List.not_mem_nil, or_false] at hf; rcases hf with rfl | rfl <;> first | exact He.noat_ok c_57 | exact He.noat_ok c_58⟩
  have mcSums : McC K (He.ga K "Sums") ["_total"] := ⟨He.cls_ok c_60, He.noat_ok c_62, He.noat_ok c_63, He.noat_ok c_64, fun f hf => by simp only [List.mem_cons, List.not_mem_nil, or_false] at hf; obtain rfl := hf; exact He.noat_ok c_65⟩
  have mcFlat : McC K (He.ga K "Flat") [] := ⟨He.cls_ok c_67, He.noat_ok c_69, He.noat_ok c_70, He.noat_ok c_71, fun f hf => nomatch hf⟩
  have EN : ErrX P w K mg base "NoNumber" (He.ga K "NoNumber") _ fd_iNoNumber := ⟨g_NoNumber, eN.ox, eN.iC, eN.tI, eN.no, ok_iNoNumber (fun_of F_iNoNumber), b_iNoNumber⟩
  have ED : ErrX P w K mg base "NoDeeds" (He.ga K "NoDeeds") _ fd_iNoDeeds := ⟨g_NoDeeds, eD.ox, eD.iC, eD.tI, eD.no, ok_iNoDeeds (fun_of F_iNoDeeds), b_iNoDeeds⟩
  have ET : ErrX P w K mg base "NoTests" (He.ga K "NoTests") _ fd_iNoTests := ⟨g_NoTests, eT.ox, eT.iC, eT.tI, eT.no, ok_iNoTests (fun_of F_iNoTests), b_iNoTests⟩
  have CE : Cal P w K mg base 1 "_law_cell" ["_law_script", "_law_k"] (spCell K) _ fd_law_cell := ⟨ok_cell (fun_of F_law_cell) m_len, b_law_cell, F_law_cell.kp, g_law_cell⟩
  have BX : Cal P w K mg base 1 "_law_box" ["_law_cell_here"] spBox _ fd_law_box := ⟨ok_box (fun_of F_law_box) m_max, b_law_box, F_law_box.kp, g_law_box⟩
  have TA : Cal P w K mg base 1 "_law_take" ["_law_box_here", "_law_many"] spTake _ fd_law_take := ⟨ok_take (fun_of F_law_take), b_law_take, F_law_take.kp, g_law_take⟩
  have WH : Cal P w K mg base 1 "is_whole" ["thing", "low", "high"] (spWhole K) _ fd_is_whole := ⟨ok_whole (fun_of F_is_whole) m_isinstance m_int m_bool, b_is_whole, F_is_whole.kp, g_is_whole⟩
  have DE1 : Cal P w K mg base 2 "_is_deed" ["thing"] (spDeed K) _ fd_p_is_deed := ⟨ok_isDeed (fun_of F_p_is_deed) WH TD g_LEAST_OF_DEED m_isinstance m_tuple m_str m_len, b_p_is_deed, F_p_is_deed.kp, g_p_is_deed⟩
  have DE : Cal P w K mg base 3 "is_deeds" ["thing"] (spDeeds K) _ fd_is_deeds := ⟨ok_isDeeds (fun_of F_is_deeds) DE1 m_isinstance m_tuple m_len m_all mi_MOST_DEEDS, b_is_deeds, F_is_deeds.kp, g_is_deeds⟩
  have TE1 : Cal P w K mg base 4 "_is_test" ["thing"] (spTest K) _ fd_p_is_test := ⟨ok_isTest (fun_of F_p_is_test) WH DE TT g_LEAST_OF_TEST m_isinstance m_tuple m_str m_bool m_len, b_p_is_test, F_p_is_test.kp, g_p_is_test⟩
  have TES : Cal P w K mg base 5 "is_tests" ["thing"] (spTests K) _ fd_is_tests := ⟨ok_isTests (fun_of F_is_tests) TE1 m_isinstance m_tuple m_len m_all mi_MOST_TESTS, b_is_tests, F_is_tests.kp, g_is_tests⟩
  have CKD : CalE P w K mg base 4 "_check_deeds" ["thing"] (spCk K (He.ga K "NoDeeds") isDeeds) _ fd_p_check_deeds := ⟨ok_ckD (fun_of F_p_check_deeds) DE ED, b_p_check_deeds, F_p_check_deeds.kp, g_p_check_deeds⟩
  have CKT : CalE P w K mg base 6 "_check_tests" ["thing"] (spCk K (He.ga K "NoTests") isTests) _ fd_p_check_tests := ⟨ok_ckT (fun_of F_p_check_tests) TES ET, b_p_check_tests, F_p_check_tests.kp, g_p_check_tests⟩
  have CKN : CalE P w K mg base 3 "_check_number" ["thing", "low", "high"] (spCkN K (He.ga K "NoNumber")) _ fd_p_check_number := ⟨ok_ckN (fun_of F_p_check_number) WH EN, b_p_check_number, F_p_check_number.kp, g_p_check_number⟩
  have M0 := ok_m0 (P := P) (w := w) (mg := mg) (base := base) (fun_of F_iMachine)
  have STO := ok_stop (P := P) (w := w) (mg := mg) (base := base) (fun_of F_mstop)
  have GI := ok_gives (P := P) (w := w) (base := base) (fun_of F_mgives) OV
  have okTurned := ok_turned (P := P) (w := w) (base := base) F_sTurned (sup "Turned" (by simp)) M0 b_iMachine m_super CKD
  have okChosen := ok_chosen (P := P) (w := w) (base := base) F_sChosen (sup "Chosen" (by simp)) M0 b_iMachine m_super CKT
  have okWhile := ok_while (P := P) (w := w) (base := base) F_sWhile (sup "While" (by simp)) M0 b_iMachine m_super CKT
  have okUntil := ok_until (P := P) (w := w) (base := base) F_sUntil (sup "Until" (by simp)) M0 b_iMachine m_super CKT
  have okFirst := ok_first (P := P) (w := w) (base := base) F_sFirst (sup "First" (by simp)) M0 b_iMachine m_super CKN STO b_mstop (g2' ▸ He.meth_ok c_73)
  have okSkip := ok_skip (P := P) (w := w) (base := base) F_sSkip (sup "Skip" (by simp)) M0 b_iMachine m_super CKN
  have okWindows := ok_windows (P := P) (w := w) (base := base) F_sWindows (sup "Windows" (by simp)) M0 b_iMachine m_super CKN
  have okGroups := ok_groups (P := P) (w := w) (base := base) F_sGroups (sup "Groups" (by simp)) M0 b_iMachine m_super CKD
  have okSums := ok_sums (P := P) (w := w) (mg := mg) (base := base) F_sSums (sup "Sums" (by simp)) M0 b_iMachine m_super
  have M : Mcs P w K mg base (He.ga K "NoDeeds") (He.ga K "NoTests") (He.ga K "NoNumber") (cI K) (fI K) (fdI fd_sTurned fd_sChosen fd_sWhile fd_sUntil fd_sFirst fd_sSkip fd_sWindows fd_sGroups) := ⟨⟨He.mkr_ok c_1, g_Turned, okTurned, b_sTurned, mcTurned⟩, ⟨He.mkr_ok c_8, g_Chosen, okChosen, b_sChosen, mcChosen⟩, ⟨He.mkr_ok c_15, g_While, okWhile, b_sWhile, mcWhile⟩, ⟨He.mkr_ok c_22, g_Until, okUntil, b_sUntil, mcUntil⟩, ⟨He.mkr_ok c_29, g_First, okFirst, b_sFirst, mcFirst⟩, ⟨He.mkr_ok c_37, g_Skip, okSkip, b_sSkip, mcSkip⟩, ⟨He.mkr_ok c_45, g_Windows, okWindows, b_sWindows, mcWindows⟩, ⟨He.mkr_ok c_53, g_Groups, okGroups, b_sGroups, mcGroups⟩⟩
  have MS : MsC P w K mg base (He.ga K "Sums") (He.ga K "Flat") _ _ fd_sSums fd_iMachine := ⟨He.mkr_ok c_61, g_Sums, okSums, b_sSums, mcSums, g3' ▸ He.mkr_ok c_68, g_Flat, M0, b_iMachine, mcFlat⟩
  have mo : ∀ C ∈ (["Turned", "Chosen", "While", "Until", "First", "Skip", "Windows", "Groups", "Sums", "Flat"] : List Str), Cls K (He.ga K C) → Meth K (He.ga K C) "gives" (He.ma K (He.ga K C) "gives") → MOk P w K mg base (L2N.CX P w) 1 (He.ga K C) "gives" (spGives K (He.ga K "Over")) := fun C hC hc hm => ⟨hc, _, _, _, (g1' C hC ▸ hm), b_mgives, GI⟩
  have moI : ∀ i, MOk P w K mg base (L2N.CX P w) 1 (cI K i) "gives" (spGives K (He.ga K "Over")) := fun i => match i with
    | 0 => mo "Turned" (by simp) mcTurned.cls (He.meth_ok c_6)
    | 1 => mo "Chosen" (by simp) mcChosen.cls (He.meth_ok c_13)
    | 2 => mo "While" (by simp) mcWhile.cls (He.meth_ok c_20)
    | 3 => mo "Until" (by simp) mcUntil.cls (He.meth_ok c_27)
    | 4 => mo "First" (by simp) mcFirst.cls (He.meth_ok c_35)
    | 5 => mo "Skip" (by simp) mcSkip.cls (He.meth_ok c_43)
    | 6 => mo "Windows" (by simp) mcWindows.cls (He.meth_ok c_51)
    | 7 => mo "Groups" (by simp) mcGroups.cls (He.meth_ok c_59)
  have LDE : Cal P w K mg base 2 "_law_deeds" ["_law_box_here"] spDe _ fd_law_deeds := ⟨ok_lde (fun_of F_law_deeds) TA m_range m_tuple, b_law_deeds, F_law_deeds.kp, g_law_deeds⟩
  have LTE : Cal P w K mg base 3 "_law_tests" ["_law_box_here"] spTe _ fd_law_tests := ⟨ok_lte (fun_of F_law_tests) TA LDE m_range m_tuple, b_law_tests, F_law_tests.kp, g_law_tests⟩
  have OD : Cal P w K mg base 2 "_law_odd" ["_law_box_here"] spOdd _ fd_law_odd := ⟨ok_odd (fun_of F_law_odd) TA, b_law_odd, F_law_odd.kp, g_law_odd⟩
  have BD : Cal P w K mg base 3 "_law_bad_deeds" ["_law_box_here"] spBadD _ fd_law_bad_deeds := ⟨ok_badD (fun_of F_law_bad_deeds) TA LDE OD m_len m_list, b_law_bad_deeds, F_law_bad_deeds.kp, g_law_bad_deeds⟩
  have BT : Cal P w K mg base 4 "_law_bad_tests" ["_law_box_here"] spBadT _ fd_law_bad_tests := ⟨ok_badT (fun_of F_law_bad_tests) TA LTE OD m_len m_list, b_law_bad_tests, F_law_bad_tests.kp, g_law_bad_tests⟩
  have BN : Cal P w K mg base 2 "_law_bad_number" ["_law_box_here", "_law_low", "_law_high"] spBadN _ fd_law_bad_number := ⟨ok_badN (fun_of F_law_bad_number) TA, b_law_bad_number, F_law_bad_number.kp, g_law_bad_number⟩
  have PL : CalE P w K mg base 9 "_law_by_place" ["_law_way", "_law_thing_here"] (spPlace K (He.ga K "NoDeeds") (He.ga K "NoTests") (He.ga K "NoNumber")) _ fd_law_by_place := ⟨ok_place (fun_of F_law_by_place) M, b_law_by_place, F_law_by_place.kp, g_law_by_place⟩
  have kbT : KBn K fd_sTurned ["self", "deeds"] 1 ["deeds"] (fun us ws => us ++ ws) (fun vs zs => vs ++ zs) := F_sTurned.kb 1 ["deeds"] fun _ _ _ _ _ us ws l1 l2 => match us, ws, l1, l2 with | [_], [_], _, _ => rfl
  have kbW : KBn K fd_sWhile ["self", "tests"] 1 ["tests"] (fun us ws => us ++ ws) (fun vs zs => vs ++ zs) := F_sWhile.kb 1 ["tests"] fun _ _ _ _ _ us ws l1 l2 => match us, ws, l1, l2 with | [_], [_], _, _ => rfl
  have TR : Cal P w K mg base 10 "_law_tried" ["_law_way", "_law_thing_here"] (spTried K) _ fd_law_tried := ⟨ok_tried (fun_of F_law_tried) M PL CC kbT kbW m_isinstance, b_law_tried, F_law_tried.kp, g_law_tried⟩
  have GO : Cal P w K mg base 4 "_law_good" ["_law_box_here", "_law_way"] (spGood K) _ fd_law_good := ⟨ok_good (fun_of F_law_good) TA LDE LTE, b_law_good, F_law_good.kp, g_law_good⟩
  have BA : Cal P w K mg base 2 "_law_bare" ["_law_machine"] (spBare P w K mg base (He.ga K "Over")) _ fd_law_bare := ⟨ok_bare (fun_of F_law_bare) CO m_isinstance, b_law_bare, F_law_bare.kp, g_law_bare⟩
  have RI : CalQ P w K mg base 11 "_law_right" ["_law_box_here"] spRight _ fd_law_right := ⟨ok_right (fun_of F_law_right) TA BD BT BN TR GO m_repr m_isinstance m_list, b_law_right, F_law_right.kp, g_law_right⟩
  exact ok_law (fun_of F_law) CE BX LTE RI BA M MS moI (mo "Sums" (by simp) mcSums.cls (He.meth_ok c_66)) (mo "Flat" (by simp) mcFlat.cls (He.meth_ok c_72)) m_range m_len m_max m_min
end K18
open PySem PySem.W PySem.Calls PyProof.Rows
theorem PySem.Challenge.cw_greatrows_k18_machines_refused_holds : PySem.Challenge.rw_greatrows_k18_machines_refused.Holds := by
  w_on; o_law
  refine HandSHeadRun.head_any (r := OpenLaw.row PySem.Challenge.rw_greatrows_k18_machines_refused) (q := view (OpenLaw.row PySem.Challenge.rw_greatrows_k18_machines_refused).prog [54]) (H := Gr.hookS 4 K18.fa K18.fn K18.fs K18.tabs K18.more) (ob := Gr.obS 4 K18.fa K18.fn K18.fs K18.tabs K18.more) (M := 12000) (loose := K18.loose)
    (d := HandSHeadRun.topDef (OpenLaw.row PySem.Challenge.rw_greatrows_k18_machines_refused).prog 54) (kwd := []) (fun s => Gr.obS_eq s)
    (by kernel_rfl) (fun s => by kernel_rfl) K18.run (by kernel_rfl) (by kernel_rfl) (by kernel_rfl) (by rfl) (by first | assumption | decide +kernel) (by decide +kernel) ⟨rfl, rfl, rfl, rfl, rfl, by decide +kernel⟩ ?hw ?hc
  case hw => w_witness2
  case hc =>
    refine Gr.walkQ (l := PySem.Challenge.rw_greatrows_k18_machines_refused) (n := 63) (k := 12) (x := "_law_script") (CX := L2.CX0) rfl (by decide) (by kernel_rfl) ⟨rfl, by decide, by decide⟩ ?F (fun _ _ _ _ z => z)
    intro w mg fa h Y G hmg0
    obtain ⟨K, KX, c, cm, cS⟩ := Y
    have hmg : mg ("law" : PySem.Str) = some (.ref fa) := by
      have e : (HandSHeadRun.topDef (OpenLaw.row PySem.Challenge.rw_greatrows_k18_machines_refused).prog 54).name = ("law" : PySem.Str) := by kernel_rfl
      rw [← e]
      exact hmg0
    obtain ⟨fd, hb, hF⟩ := K18.facts (P := (PySem.Challenge.rw_greatrows_k18_machines_refused).prog) (w := w) KX G hmg c cm cS (by kernel_rfl) (by kernel_rfl)
    exact ⟨K, fd, K18.spLaw K, KX, hb, fun H a ns hl _ hS => ⟨a, ns, rfl, hS, fun _ => rfl⟩, hF⟩
