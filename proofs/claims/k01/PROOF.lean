import PyProof.Rows.All
import Wide.All
import OpenK.AllK
import Wide.FinOn
import HandS.ForMost
import HandS.ForExc
import HandS.ExcInit
import HandS.ExcField
import HandS.ExcIs
import HandS.ExcValue
import HandS.IsInst
import HandS.Wide
import HandS.WideMore
import HandS.Property
import HandS.ClsMeth
import HandS.Gcd
import HandS.Flow
import HandS.More
import HandS.Small
import HandS.RaiseMore
import HandS.StrMore
import HandS.StrSplit
import HandS.FStr
import HandS.SetKeys
import HandS.DictComp
import HandS.Defaults
import HandS.MakeKw
import HandS.Deep
import HandS.SortKw
import HandS.Evl
import HandS.Steps
import HandS.Head2
import HandS.HeadEnd
import HandS.EndBits
import HandS.HeadHook2
import PySem.Challenge.RW_fairbatches_k01_errors
set_option Elab.async false
set_option linter.all false
set_option maxRecDepth 100000
set_option maxHeartbeats 4000000
namespace My
open PySem PySem.Spec PyProof.Rows L2
/-! ## defs that are called while no object is being shown (repr's own guards are known to be none) -/
structure FnG (P : Program) (w : World) (K : PySem.W.Frag) (mg : Str → Option Value)
    (base : Heap) (CX : CXT) (k : Nat) (f : Addr) (fd : FuncData) (ps : List Str) (sp : Sp) : Prop where
  len : ∀ vs H Q E, sp vs H Q E → vs.length = ps.length
  run : ∀ (A : Around) (outer : List Env) (s : Shared) (H : Hp) (args : Args) (us : List Value)
    (vs : List V) (Q : VK) (E : XK), A.guards = some [] → Room k A →
    Env0 P w K mg base A outer s H → BindsTo s fd args (ps.zip us) → Vals vs us → sp vs H Q E →
    codeAny (model P w) A (.call (.ref f) args) (CR CX outer P w H s Q E) s
section
variable {P : Program} {w : World} {K : PySem.W.Frag} {mg : Str → Option Value} {base : Heap}
variable {CX : CXT} {j k : Nat} {f : Addr} {fd : FuncData} {ps : List Str} {sp : Sp}
theorem FnG.of (F : FnOk P w K mg base CX k f fd ps sp) : FnG P w K mg base CX k f fd ps sp :=
  ⟨F.len, fun A outer s H args us vs Q E _ => F.run A outer s H args us vs Q E⟩
theorem FnG.up (F : FnG P w K mg base CX j f fd ps sp) (h : j ≤ k) : FnG P w K mg base CX k f fd ps sp :=
  ⟨F.len, fun A outer s H args us vs Q E hg hr => F.run A outer s H args us vs Q E hg (hr.mono h)⟩
end
section
variable {X : Cx} {CX : CXT} {k : Nat} {f C : Addr} {fd : FuncData} {ps : List Str} {sp : Sp}
variable {dvs : List V} {ds : List Value} {E : XK} {x m : Str} {p pos apos : Pos} {e o : Expr}
variable {es : List Expr} {ta : TE} {t : TA}
theorem run_g {pins : List (Addr × Obj)} {σ : L2.St} {H : Hp} {s : Shared} {Q : VK} {us : List Value} {vs : List V}
    (hg : X.A.guards = some []) (F : FnG X.prog X.w X.K X.mg X.base CX k f fd ps sp) (hr : Room k X.A)
    (hb : L2.Binds X.K fd ps ds) (hd : Vals dvs ds) (hx : Passes CX X E)
    (I : L2.Inv X pins σ H s) (r : Vals vs us) (h : sp (vs ++ dvs) H Q E) :
    wpAny (model X.prog X.w) X.A (call (.ref f) us) (EP X pins σ Q) X.xe s := by
  have rr : Vals (vs ++ dvs) (us ++ ds) := r.append hd
  have hl : (us ++ ds).length = ps.length := by
    rw [← rr.length]
    exact F.len _ _ _ _ h
  refine wpAny_call (codeAny_mono (F.run X.A X.stack s H ⟨us, []⟩ (us ++ ds) (vs ++ dvs) Q E hg hr
    I.env0 (hb s us I.kIn hl) rr h) ?_)
  intro res s' hq
  match res, hq with
  | .error er, hq => exact hx pins σ H s er s' I hq
  | .ok (.ret u), hq => exact I.after hq
  | .ok .next, hq => exact hq.elim
  | .ok .brk, hq => exact hq.elim
  | .ok .cont, hq => exact hq.elim
theorem pe_callG (hgd : X.A.guards = some []) (F : FnG X.prog X.w X.K X.mg X.base CX k f fd ps sp) (hr : Room k X.A)
    (hg : Gl X x) (hm : X.mg x = some (.ref f)) (hk : PySem.W.keepIn X.K (.ref f) = true)
    (hb : L2.Binds X.K fd ps ds) (hd : Vals dvs ds) (hx : Passes CX X E) (ha : PA X (e :: es) t)
    (hdb : (x == ("__debug__" : Str)) = false := by decide)
    (he : starEach (e :: es) X.env = (false, eval e X.env) :: starEach es X.env := by rfl)
    (hpl : (backTo pos (starEach es X.env)).any (·.1) = false := by rfl) :
    PE X (.Call (.Name x p) (e :: es) [] pos) (tCall sp dvs E t) := by
  constructor
  intro pins s σ H Q I h
  refine wpAny_Call_Name_kw (ld_glob I hg hm ?_ hdb)
  refine PySem.W.callWith_K (h₀ := X.base) I.ok.mod.kin hk ?_ he hpl
  refine thn (ha.run pos pins s σ H _ I h) ?_
  rintro us s1 ⟨vs, H1, I1, r, q⟩
  exact ⟨I1.kIn, run_g hgd F hr hb hd hx I1 r q⟩
theorem pe_callG0 (hgd : X.A.guards = some []) (F : FnG X.prog X.w X.K X.mg X.base CX k f fd ps sp) (hr : Room k X.A)
    (hg : Gl X x) (hm : X.mg x = some (.ref f)) (hk : PySem.W.keepIn X.K (.ref f) = true)
    (hb : L2.Binds X.K fd ps ds) (hd : Vals dvs ds) (hx : Passes CX X E)
    (hdb : (x == ("__debug__" : Str)) = false := by decide) :
    PE X (.Call (.Name x p) [] [] pos) (tCall sp dvs E tNil) := by
  constructor
  intro pins s σ H Q I h
  refine wpAny_Call_Name_kw (ld_glob I hg hm ?_ hdb)
  exact PySem.W.callWith_K0 I.kIn hk (run_g (us := []) hgd F hr hb hd hx I .nil h)
end
/-- a def of the text by its body, called while nothing is being shown -/
theorem fnG_of {CX : CXT} {P : Program} {w : World} {K : PySem.W.Frag} {mg : Str → Option Value} {base : Heap} {k : Nat}
    {f : Addr} {name qual : Str} {params : Arguments} {body : List Stmt} {scope : Scope}
    {dV kV doc pm cdv ct oc : Value} {an od : Option Addr} {osl : Array (Option Value)} {N ps : List Str} {sp : Sp}
    (lk : K.lookup f = some ⟨oc, od, .func (PySem.W.fnOf name qual params body scope dV kV doc pm an cdv ct), osl⟩)
    (hcd : PySem.W.codeIn K cdv qual = true) (S : FnScope N ps scope)
    (len : ∀ vs H Q E, sp vs H Q E → vs.length = ps.length)
    (hbody : ∀ (A : Around) (outer : List Env) (s : Shared) (H : Hp) (vs : List V) (Q : VK) (E : XK),
      A.guards = some [] → Room k (A.deeper (envOfC qual scope s.heap.objs.size f cdv)) → sp vs H Q E →
      ∃ t, PSs (cxOf CX P w K mg base N qual scope f cdv A outer s H E) body t ∧
        t { nx := fun _ H' => Q .non H', rt := Q } (start N vs) H) :
    FnG P w K mg base CX (k + 1) f (PySem.W.fnOf name qual params body scope dV kV doc pm an cdv ct) ps sp := by
  refine ⟨len, ?_⟩
  intro A outer s H args us vs Q E hgd hr e0 hb r hsp
  have KX : K.In s.heap := e0.mod.kin.keeps (fun b o e => (e0.bs b o e).1)
  have lim : s.heap.NoLimit := e0.mod.nolimit.keeps (fun b o e => (e0.bs b o e).1)
  have hkind : ∀ y ∈ ps.zip us, scope.names.lookup y.1 = some .local ∨
      (scope.names.lookup y.1 = some .cell ∧
        ((cellsFrom (s.heap.objs.size + 1) scope.names []).lookup y.1).isSome = true) := by
    rintro ⟨n, v⟩ hy
    rcases S.par n (List.of_mem_zip hy).1 with q | q
    · exact Or.inl q
    · exact Or.inr ⟨q, PySem.W.cellsFrom_some _ _ _ (Or.inl q)⟩
  refine codeAny_call_function hr.depth (KX _ _ lk) rfl S.co S.gen rfl (PySem.W.codeRec_of KX hcd) (hb _ _ _ _ ?_)
  refine wpAny_newFunctionEnv_cells S.kind hkind ?_
  intro env he s1 x
  subst he
  refine ⟨lim.keeps x.toInCall.keep, codeAny_func ?_⟩
  obtain ⟨t, ht, hq⟩ := hbody A outer s H vs Q E hgd (hr.deeper _) hsp
  have I := inv_start (CX := CX) (E := E) S hr.hd e0 (len _ _ _ _ hsp) r x
  refine wpAny_mono (ht.run [] s1 (start N vs) H _ I hq) ?_ (fun e s' hs => hs)
  intro fl s' hs
  match fl, hs with
  | .ret u, ⟨v, σ', H', J, rv, q⟩ => exact ⟨v, H', J.os, J.bare, J.base, J.hok, rv, q⟩
  | .next, ⟨σ', H', J, q⟩ => exact ⟨V.non, H', J.os, J.bare, J.base, J.hok, rfl, q⟩
  | .brk, ⟨_, _, _, q⟩ => exact q.elim
  | .cont, ⟨_, _, _, q⟩ => exact q.elim
theorem guards_deeper {A : Around} {env : Env} (h : A.guards = some []) : (A.deeper env).guards = some [] := h
/-- the law's own call: as the layer's law_call, for a promise kept while nothing is being shown -/
theorem law_callG {P : Program} {w : World} {K : PySem.W.Frag} {mg mb : Str → Option Value} {CX : CXT} {k : Nat}
    {fa a : Addr} {fd : FuncData} {x : Str} {sp : Sp} {s₁ : Shared} {vs : List Value} {ns : List Int}
    (KX : K.In s₁.heap) (hns : s₁.heap.Ns mainGlobals mg) (hb : s₁.heap.Ns builtinsNs mb)
    (hbb : ∀ x : Str, x ≠ "__name__" → mb x = bootBuiltins x) (hlim : s₁.heap.NoLimit) (hg : s₁.gens = #[])
    (ha : s₁.heap.get? a = some { cls := .type "list", data := .seq vs.toArray }) (hi : IntsAre vs ns)
    (hl : ns.length ≤ sizeLine) (hr : Room k callerA)
    (F : ∀ base : Heap, K.In base → base.Ns mainGlobals mg → FnG P w K mg base CX k fa fd [x] sp)
    (hbind : ∀ (s : Shared) (u : Value), BindsTo s fd ⟨[u], []⟩ [(x, u)])
    (hsp : ∀ H : Hp, Only H → SqL K H a (ns.map V.int) → sp [.ref a] H (fun v _ => v = .bl true) fun _ _ _ => False)
    (hCX : ∀ H e s', CX [] H s₁ (fun _ _ _ => False) e s' → False) :
    codeAny (model P w) callerA (.call (.ref fa) ⟨[.ref a], []⟩)
      (fun r s' => r = .ok (.ret (.bool true)) ∧ OldK s₁.heap s'.heap ∧ s'.os = s₁.os ∧ AllBare s'.gens) s₁ := by
  have rv := vals_ints hi
  have lenV := hi.length
  have core : ∀ H : Hp, Only H → SqL K H a (ns.map V.int) → HOk P w H s₁.heap → (∀ b, H b ≠ none → b = a) →
      (H a ≠ none → K.lookup a = none) →
      codeAny (model P w) callerA (.call (.ref fa) ⟨[.ref a], []⟩)
        (fun r s' => r = .ok (.ret (.bool true)) ∧ OldK s₁.heap s'.heap ∧ s'.os = s₁.os ∧ AllBare s'.gens) s₁ := by
    intro H hO hS hok hA hK
    have none_or : ∀ b, H b = none ∨ b = a := by
      intro b
      by_cases h : H b = none
      · exact Or.inl h
      · exact Or.inr (hA b h)
    have noA : ∀ {b : Addr} {o : Obj} {es : Array DictEntry} {ep : Nat}, s₁.heap.get? b = some o →
        o.data = .dict es ep → H b = none := by
      intro b o es ep e d
      rcases none_or b with h | h
      · exact h
      · rw [h, ha] at e
        cases e
        cases d
    have nsK : ∀ {b : Addr} {m : Str → Option Value}, s₁.heap.Ns b m → (hidT s₁.heap H).Ns b m := by
      rintro b m ⟨o, es, ep, e, d, r⟩
      exact ⟨o, es, ep, hidT_get e (noA e d), d, r⟩
    have hKb : K.In (hidT s₁.heap H) := by
      intro b o e
      refine hidT_get (KX b o e) ?_
      by_cases h : H b = none
      · exact h
      · have eb := hA b h
        subst eb
        rw [hK h] at e
        cases e
    obtain ⟨mc, hc1, hc2⟩ := hlim
    have hM : L2.Mod K mg (hidT s₁.heap H) := ⟨hKb, nsK hns, ⟨mb, nsK hb, hbb⟩, ⟨mc, nsK hc1, hc2⟩⟩
    have e0 : Env0 P w K mg (hidT s₁.heap H) callerA [] s₁ H :=
      { frames := rfl, mod := hM, bs := fun b o e => of_hidT e, bsz := Nat.le_of_eq (hidT_size _ _), funs := trivial,
        frf := (fun b z => nomatch (show b ∈ ([] : List Addr) from z)), hok := hok, bare := .of_eq hg }
    refine codeAny_mono ((F _ hKb (nsK hns)).run callerA [] s₁ H ⟨[.ref a], []⟩ [.ref a] [.ref a] _ _ rfl hr e0
      (hbind s₁ (.ref a)) (.cons rfl .nil) (hsp H hO hS)) ?_
    intro r s' h
    match r, h with
    | .error er, h => exact (hCX H er s' h).elim
    | .ok .next, h => exact h.elim
    | .ok .brk, h => exact h.elim
    | .ok .cont, h => exact h.elim
    | .ok (.ret u), ⟨v, H', os, bare, un, hok', r', q⟩ =>
      have q' : v = .bl true := q
      subst q'
      obtain rfl : u = Value.bool true := r'
      refine ⟨rfl, OldK.of_keep ?_, os, bare⟩
      intro b o e
      rcases hO b with z | ⟨ob, xs, z⟩
      · exact un.keep b o e z (fun y => nomatch (show b ∈ ([] : List Addr) from y)) (fun y => nomatch y)
      · have e1 := (hok b _ z).1
        have e2 := (hok' b _ (un.frzs b ob _ z)).1
        rw [e] at e1
        cases e1
        exact e2
  cases hk : K.lookup a with
  | some o =>
    have e := KX a o hk
    rw [ha] at e
    cases e
    have hsz : vs.toArray.size ≤ sizeLine := by
      rw [List.size_toArray, lenV]
      exact hl
    exact core (fun _ => none) (fun _ => Or.inl rfl) (Or.inr ⟨_, vs.toArray, _, hk, rfl, rfl, rfl, hsz, by simpa using rv⟩)
      (fun b u z => nomatch (show (none : Option HO) = some u from z)) (fun b z => (z rfl).elim) (fun z => (z rfl).elim)
  | none =>
    have at_a : ∀ b, b ≠ a → (fun b => if b = a then some (HO.frz { cls := .type "list", data := .seq vs.toArray } (.lst (ns.map V.int))) else none : Hp) b = none :=
      fun b hb => if_neg hb
    refine core (fun b => if b = a then some (.frz { cls := .type "list", data := .seq vs.toArray } (.lst (ns.map V.int))) else none)
      (fun b => ?_) (Or.inl (Or.inr ⟨{ cls := .type "list", data := .seq vs.toArray }, if_pos rfl⟩)) (fun b u z => ?_) (fun b z => ?_) fun _ => hk
    · by_cases hba : b = a
      · exact Or.inr ⟨_, _, if_pos hba⟩
      · exact Or.inl (if_neg hba)
    · by_cases hba : b = a
      · have z2 := (if_pos hba).symm.trans z
        cases z2
        subst hba
        have hln : (ns.map V.int).length ≤ sizeLine := by
          rw [List.length_map]
          exact hl
        exact ⟨ha, hln, vs, _, rv, ha⟩
      · have z2 := (if_neg hba).symm.trans z
        cases z2
    · by_cases hba : b = a
      · exact hba
      · exact (z (if_neg hba)).elim
theorem walk_ofG {l : PySem.W.OpenLaw} {n k : Nat} {q : Program} {loose : List Str}
    {XP : (Str → Option Value) → Heap → Prop} {YP : World → Heap → Prop} {d : DefRec} {CX : World → CXT} {x : Str}
    (hn : l.most = some n) (hn2 : n ≤ sizeLine) (hdf : d.params.defaults = []) (hr : Room k callerA)
    (F : ∀ (w : World) (mg : Str → Option Value) (fa : Addr) (h : Heap), YP w h → h.Ns mainGlobals mg → mg d.name = some (.ref fa) →
      ∃ (K : PySem.W.Frag) (fd : FuncData) (sp : Sp), K.In h ∧ (∀ (s : Shared) (u : Value), BindsTo s fd ⟨[u], []⟩ [(x, u)]) ∧
        (∀ (H : Hp) (a : Addr) (ns : List Int), ns.length ≤ n → (∀ z ∈ ns, Builtin.Int.intBits z ≤ 1048576) → Only H → SqL K H a (ns.map V.int) →
          sp [.ref a] H (fun v _ => v = .bl true) fun _ _ _ => False) ∧
        ∀ base : Heap, K.In base → base.Ns mainGlobals mg → FnG l.prog w K mg base (CX w) k fa fd [x] sp)
    (hCX : ∀ (w : World) (H : Hp) (s : Shared) (e : Value) (s' : Shared), CX w [] H s (fun _ _ _ => False) e s' → False) :
    PySem.W.WalkO q loose XP YP l.row.toRowW d [] (fun f vs => PySem.call f vs) := by
  refine Att.attach_callB hn hdf ?_
  intro w s₀ s₁ mg mb fa o pm cd doc a vs ns G Y ho hd hcd hmg hobj hints hlen hbits hg
  obtain ⟨K, fd, sp, KX, hb, hsp, hF⟩ := F w mg fa _ Y G.T.g hmg
  exact law_callG KX G.T.g G.T.b G.T.builtins G.T.nolimit hg hobj hints (Nat.le_trans hlen hn2) hr hF hb
    (fun H hO hS => hsp H a ns hlen hbits hO hS) (fun H e s' => hCX w H s₁ e s')
end My

set_option Elab.async false
set_option linter.all false
set_option maxRecDepth 100000
set_option maxHeartbeats 4000000
namespace My
open PySem PySem.Spec PyProof.Rows L2
/-! ## data, a dict of flat values among it; repr of data -/
def flatD : V → Option PyData
  | .non => some .none
  | .bl b => some (.bool b)
  | .int i => some (.int i)
  | .str x => some (.str x)
  | _ => none
def keyD : Key → PyData
  | .inl i => .int i
  | .inr x => .str x
def pairsD : List (Key × V) → Option (List (PyData × PyData))
  | [] => some []
  | (k, v) :: r => (flatD v).bind fun d => (pairsD r).map fun l => (keyD k, d) :: l
/-- v is the data d: any data without a dict, or a dict of flat values -/
inductive Dv (K : PySem.W.Frag) (H : Hp) : V → PyData → Prop
  | of {v : V} {d : PyData} (h : Dp K H v d) (n : d.hasDict = false) : Dv K H v d
  | dic {a : Addr} {kvs : List (Key × V)} {l : List (PyData × PyData)} (h : H a = some (.dK kvs)) (e : pairsD kvs = some l) : Dv K H (.ref a) (.dict l)
theorem flatD_reads {h : Heap} {v : V} {u : Value} {d : PyData} (e : flatD v = some d) (r : L2.RelV v u) : Reads h u d [] := by
  cases v with
  | non => cases e; cases r; exact .none
  | bl b => cases e; cases r; exact .bool b
  | int i => cases e; obtain ⟨t, rfl⟩ := r; exact .int i t
  | str x => cases e; obtain ⟨t, rfl⟩ := r; exact .str x t
  | _ => cases e
theorem keyD_reads {h : Heap} {k : Key} {u : Value} (r : keyIs k u = true) : Reads h u (keyD k) [] := by
  rcases keyIs_shape r with ⟨i, t, rfl, rfl⟩ | ⟨x, t, rfl, rfl⟩
  · exact .int i t
  · exact .str x t
theorem pairs_reads {P : Program} {w : World} {h : Heap} : ∀ {kvs : List (Key × V)} {l : List (PyData × PyData)} {es : List DictEntry} {vs : List (Key × Value)},
    pairsD kvs = some l → KV kvs vs → PySem.Pairs (mixKind P w) es vs → ReadsAll h (es.map (·.key)) (l.map (·.1)) [] ∧ ReadsAll h (es.map (·.val)) (l.map (·.2)) []
  | [], l, es, vs, e, r, p => by
    cases e
    cases r
    cases p
    exact ⟨.nil, .nil⟩
  | (k, v) :: kvs, l, es, vs, e, r, p => by
    unfold pairsD at e
    cases e1 : flatD v with
    | none =>
      rw [e1] at e
      cases e
    | some d =>
      rw [e1] at e
      cases e2 : pairsD kvs with
      | none =>
        rw [e2] at e
        cases e
      | some l' =>
        rw [e2] at e
        cases e
        cases r with
        | cons r1 r2 =>
          cases p with
          | cons p1 p2 p3 =>
            obtain ⟨q1, q2⟩ := pairs_reads (h := h) e2 r2 p3
            obtain ⟨rk, rv⟩ := r1
            have z1 := keyD_reads (h := h) (by rw [← rk] at p1; exact p1)
            have z2 := flatD_reads (h := h) e1 rv
            rw [← p2] at z2
            exact ⟨ReadsAll.cons (as := []) (bs := []) z1 q1, ReadsAll.cons (as := []) (bs := []) z2 q2⟩
section
variable {X : Cx} {pins : List (Addr × Obj)} {σ : L2.St} {H : Hp} {s : Shared}
theorem Dv.reads (I : L2.Inv X pins σ H s) {v : V} {u : Value} {d : PyData} (h : Dv X.K H v d) (r : L2.RelV v u) :
    ∃ as, Reads s.heap u d as ∧ (d.hasDict = true → sysModules ∉ as) := by
  cases h with
  | of h n =>
    obtain ⟨as, q⟩ := Dp.reads I d v u h r
    exact ⟨as, q, fun z => by rw [n] at z; cases z⟩
  | @dic a kvs l h e =>
    cases r
    obtain ⟨_, hs, vs, rv, o, es, ep, h1, h2, h3, _, h5, _⟩ := (show ObjOk X.prog X.w H s.heap a (.dK kvs) from I.hok a _ h)
    obtain ⟨q1, q2⟩ := pairs_reads (h := s.heap) e rv h5
    refine ⟨_, Reads.dict h1 h2.1 h3 q1 q2, fun _ z => ?_⟩
    have z2 : sysModules = a := by simpa using z
    rw [← z2] at hs
    simp at hs
end
/-- repr(x) of data that can be shown -/
def rRepr (K : PySem.W.Frag) : List V → Hp → VK → Prop := fun vs H Q => ∃ x d, vs = [x] ∧ Dv K H x d ∧ d.showable = true ∧ d.depth ≤ 40 ∧ d.shown.length ≤ sizeLine ∧ Q (.str d.shown) H
section
variable {X : Cx}
theorem call_reprD (hg : X.A.guards = some []) (hu : X.A.units + 64 < cLine) : CallR X (.builtin "repr") (rRepr X.K) := by
  intro pins s σ H xs us Q I r h
  obtain ⟨x, d, rfl, hd, hs, hdp, hz, q⟩ := h
  obtain ⟨u, rfl, rx⟩ := Vals.one r
  obtain ⟨as, hr, hsm⟩ := Dv.reads I hd rx
  have fin : ∀ h' tk t, (∀ b o, s.heap.get? b = some o → h'.get? b = some o) → EP X pins σ Q (.str d.shown t) { s with heap := h', toks := tk } :=
    fun h' tk t k => ⟨.str _, H, I.kept k, ⟨_, rfl⟩, q⟩
  cases hr with
  | none => exact PySem.P.repr_of_none (fin s.heap _ _ fun _ _ e => e)
  | bool b => exact PySem.P.repr_of_bool (fin s.heap _ _ fun _ _ e => e)
  | int i t => exact PySem.P.repr_of_int (by simpa [PyData.showable] using hs) (fin s.heap _ _ fun _ _ e => e)
  | str y t => exact PySem.P.repr_of_str (fin s.heap _ _ fun _ _ e => e) hz
  | list h1 h2 h3 h4 => exact repr_of_reads' (.list h1 h2 h3 h4) hs hsm hg (by omega) (fun _ _ e => e) (fun h' u tk k => fin h' tk u k) hz
  | tuple h1 h2 h3 h4 => exact repr_of_reads' (.tuple h1 h2 h3 h4) hs hsm hg (by omega) (fun _ _ e => e) (fun h' u tk k => fin h' tk u k) hz
  | dict h1 h2 h3 h4 h5 => exact repr_of_reads' (.dict h1 h2 h3 h4 h5) hs hsm hg (by omega) (fun _ _ e => e) (fun h' u tk k => fin h' tk u k) hz
end
end My

set_option Elab.async false
set_option linter.all false
set_option maxRecDepth 100000
set_option maxHeartbeats 4000000
/-! ## C(.., k = v) of an own exception class: the making with keywords -/
namespace My
open PySem PySem.W PySem.Calls PyProof.Rows PySem.HandSPX
section
variable {M : Model} {A : Around} {E : Value → Shared → Prop} {h : Heap} {g : Array GenState} {d : Drawn} {t : Nat} {os : OsState}
variable {nm q : Str} {C N : Addr} {bs bm bmB : List Value} {hdct : Bool} {sn : List Str} {sub : List Value} {ab : Bool}
variable {col : Option Bool} {dd : Option Addr} {k0 k1 k2 k3 k5 : Option Value} {B newId initId : String} {kw : List (Str × Value)}
theorem check_newK (F : ExcBaseFacts B newId initId bmB) (hT : ∀ X : String, bm.contains (.type X) = bmB.contains (.type X))
    {rest : List Value} {Q : Unit → Shared → Prop}
    (hC : h.get? C = some (excClassObj nm q C N bs bm hdct sn sub ab col dd k0 k1 k2 k3 k5 newId)) (hq : Q () ⟨h, g, d, t, os⟩) :
    wpAny M A (checkBuiltinCall newId ⟨.ref C :: rest, kw⟩) Q E ⟨h, g, d, t, os⟩ := by
  have hB : (Value.ref C :: bm).contains (.type B) = true := by
    rw [List.contains_cons, hT, F.hasB, Bool.or_true]
  have hstar := F.noStar
  simp only [checkBuiltinCall, F.newKind, F.newSplit, F.newRow]
  repeat (first
    | refine wpAny_loadPart_at hC ?_
    | (refine wpAny_isSubtype_exc hC ?_; rw [hB])
    | refine wpAny_staticBase_exc hC ?_
    | refine wpAny_madeBy_exc hC ?_
    | simp only [bne_self_eq_false, Bool.false_eq_true, if_false]
    | wp_step)
  exact hq
end
section
variable {prog : Program} {w : World} {A : Around} {E : Value → Shared → Prop} {R : Result → Shared → Prop} {h : Heap}
variable {g : Array GenState} {d : Drawn} {t : Nat} {os : OsState} {kw : List (Str × Value)}
variable {nm q : Str} {C N : Addr} {bs bm bmB : List Value} {hdct : Bool} {sn : List Str} {sub : List Value} {ab : Bool}
variable {col : Option Bool} {dd : Option Addr} {k0 k1 k2 k3 k5 : Option Value} {B newId initId : String}
theorem newK (F : ExcBaseFacts B newId initId bmB) (hT : ∀ X : String, bm.contains (.type X) = bmB.contains (.type X)) {rest : List Value}
    (hC : h.get? C = some (excClassObj nm q C N bs bm hdct sn sub ab col dd k0 k1 k2 k3 k5 newId))
    (hq : R (.ok (.ret (.ref (h.objs.size + 1)))) ⟨(h.push (kdv_tup rest)).push (excO C h.objs.size), g, d, t, os⟩) (hrest : rest.length ≤ sizeLine) :
    codeAny (model prog w) A (.builtin newId ⟨.ref C :: rest, kw⟩) R ⟨h, g, d, t, os⟩ := by
  have hends := F.ends
  have cB : (Value.ref C :: bm).contains (.type B) = true := by
    rw [List.contains_cons, hT, F.hasB, Bool.or_true]
  have cA : (Value.ref C :: bm).contains (.type "AttributeError") = false := by
    rw [List.contains_cons, hT, F.noAttr]
    rfl
  have cN : (Value.ref C :: bm).contains (.type "NameError") = false := by
    rw [List.contains_cons, hT, F.noName]
    rfl
  refine codeAny_builtinAt F.entry ?_
  unfold Builtin.«BaseException.__new__»
  refine PySem.wpAt_bind ?_
  show PySem.wpAt _ _ _ (stack >>= _) _ _ _
  refine PySem.wpAt_bind (PySem.wpAt_stack (fun p below => PySem.wpAt_of_wpAny ?_))
  wp_walk
  refine PySem.wpAt_of_wpAny ?_
  rw [F.owner]
  repeat (first
    | with_reducible refine wpAny_madeHere_exc F.canon hC ?_
    | with_reducible refine wpAny_loadPart_at hC ?_
    | (with_reducible refine wpAny_isSubtype_exc hC ?_; first | rw [cB] | rw [cA] | rw [cN])
    | wp_step)
  show R _ _
  rw [Heap.size_push]
  exact hq
theorem type_callK (F : ExcBaseFacts B newId initId bmB) (hT : ∀ X : String, bm.contains (.type X) = bmB.contains (.type X))
    {rest : List Value} {fI : Addr} {Q : Fin → Shared → Prop}
    (hC : h.get? C = some (excClassObj nm q C N bs bm hdct sn sub ab col dd k0 k1 k2 k3 k5 newId))
    (hi : W.Looks (model prog w) h (typeLookup (.ref C) "__init__") (some (.ref fI)))
    (hb : ∀ self, W.Looks (model prog w) h (bindSpecial (.ref fI) self) (.ref fI, [self])) (hrest : rest.length ≤ sizeLine)
    (hq : codeAny (model prog w) A (.call (.ref fI) ⟨.ref (h.objs.size + 1) :: rest, kw⟩)
      (fun r s' => match r with
        | .ok (.ret v) => v = .none ∧ Q (.done (.ret (.ref (h.objs.size + 1)))) s'
        | .ok _ => False
        | .error e => E e s')
      ⟨(h.push (W.kdv_tup rest)).push (excO C h.objs.size), g, d, t, os⟩) :
    wpAny (model prog w) A (Builtin.«type.__call__» ⟨.ref C :: rest, kw⟩) Q E ⟨h, g, d, t, os⟩ := by
  repeat (first
    | with_reducible refine wpAny_loadPart_at hC ?_
    | with_reducible refine wpAny_madeBy_exc hC ?_
    | wp_step)
  refine codeAny_call_builtin_code (Code.quiet_builtin _ F.quiet) (check_newK F hT hC ?_)
  refine newK F hT hC ?_ hrest
  show wpAny _ _ _ _ _ _
  have kk : ∀ b o, h.get? b = some o → ((h.push (W.kdv_tup rest)).push (excO C h.objs.size)).get? b = some o :=
    fun b o e => Heap.get?_push_of_some _ (Heap.get?_push_of_some _ e)
  have hC1 := kk _ _ hC
  have hget1 : ((h.push (W.kdv_tup rest)).push (excO C h.objs.size)).get? (h.objs.size + 1) = some (excO C h.objs.size) := by
    heap_get
  have hself : (Value.ref C :: bm).contains (.ref C) = true := by simp
  have i1 := hi.keeps kk
  have b1 := (hb (.ref (h.objs.size + 1))).keeps kk
  unfold isInstance
  repeat (first
    | with_reducible refine wpAny_loadPart_at hget1 ?_
    | (with_reducible refine wpAny_isSubtype_exc hC1 ?_; rw [hself])
    | wp_step)
  show wpAny _ _ (typeLookup (.ref C) _) _ _ _
  refine i1.at ?_
  refine wpAny_holding (wpAny_bind (b1.at ?_))
  refine wpAny_bind (wpAny_call (codeAny_mono hq ?_))
  intro r s' z
  rcases r with e | (v | _ | _ | _) <;> first | exact z | exact z.elim | skip
  obtain ⟨rfl, z⟩ := z
  first
    | exact wpAny_pure (wpAny_pure z)
    | (wp_walk; exact z)
theorem check_tcallK {rest : List Value} {Q : Unit → Shared → Prop} {M : Model}
    (hC : h.get? C = some (excClassObj nm q C N bs bm hdct sn sub ab col dd k0 k1 k2 k3 k5 newId))
    (hq : Q () ⟨h, g, d, t, os⟩) : wpAny M A (checkBuiltinCall "type.__call__" ⟨.ref C :: rest, kw⟩) Q E ⟨h, g, d, t, os⟩ := by
  have f3 := tc_sub
  have hT : (⟨h, g, d, t, os⟩ : Shared).TypeIs (.ref C) "type" := ⟨_, hC, rfl⟩
  simp only [checkBuiltinCall, tc_kind, tc_split]
  repeat (any_goals (first
    | assumption
    | with_reducible refine wpAny_loadPart_at hC ?_
    | with_reducible refine wpAny_onRaise ?_
    | with_reducible refine wpAny_map ?_
    | wp_step))
theorem call_ownK (F : ExcBaseFacts B newId initId bmB) (hT : ∀ X : String, bm.contains (.type X) = bmB.contains (.type X))
    {rest : List Value} {fI : Addr} (hC : h.get? C = some (excClassObj nm q C N bs bm hdct sn sub ab col dd k0 k1 k2 k3 k5 newId))
    (hi : W.Looks (model prog w) h (typeLookup (.ref C) "__init__") (some (.ref fI)))
    (hb : ∀ self, W.Looks (model prog w) h (bindSpecial (.ref fI) self) (.ref fI, [self])) (hrest : rest.length ≤ sizeLine)
    (hq : codeAny (model prog w) (A.under (.builtin "type.__call__" ⟨.ref C :: rest, kw⟩))
      (.call (.ref fI) ⟨.ref (h.objs.size + 1) :: rest, kw⟩) (W.InitBack (h.objs.size + 1) R)
      ⟨(h.push (W.kdv_tup rest)).push (excO C h.objs.size), g, d, t, os⟩) :
    codeAny (model prog w) A (.call (.ref C) ⟨rest, kw⟩) R ⟨h, g, d, t, os⟩ := by
  have f1 := tc_lookup
  have f2 := tc_bind (.ref C)
  have hTy : (⟨h, g, d, t, os⟩ : Shared).TypeIs (.ref C) "type" := ⟨_, hC, rfl⟩
  refine codeAny_of_tree ?_
  show wpAny _ _ (callAny (.ref C) _) _ _ _
  repeat (any_goals (first
    | assumption
    | with_reducible refine wpAny_loadPart_at hC ?_
    | wp_step))
  refine ⟨rfl, ?_⟩
  refine codeAny_call_builtin_at (Code.quiet_builtin _ (by decide +kernel)) entry_typeCall (check_tcallK hC (type_callK F hT hC hi hb hrest ?_))
  refine codeAny_mono hq ?_
  intro r s' z
  rcases r with e | (v | _ | _ | _) <;> exact z
end
/-! ## isinstance of an exception that has its own dict (or none) -/
section
variable {prog : Program} {w : World} {A : Around} {E : Value → Shared → Prop} {s : Shared} {K : Frag} {x D : Addr} {ox : Obj} {od : Option Obj}
theorem findObj_data {C : Addr} {name : Str} {a g : Value} (hc : (clsIn K C).isSome = true) (ha : findIn K (.ref C) name = some (some a))
    (hg : specialIn K a "__get__" = some (some g)) (ht : takesIn K a = some true) : findObj K C od name = some (.bind g a) := by
  obtain ⟨cd, hcd⟩ := Option.isSome_iff_exists.mp hc
  unfold findObj
  rw [hcd, Option.bind_some, ha, Option.bind_some]
  simp [hg, ht]
theorem kin_classX {Q : Option Value → Shared → Prop} (T : L2.ExcC K D) (X : K.In s.heap) (I : InstAt s.heap x ox D od)
    (h : Q (some (.ref D)) { s with toks := s.toks + 1 }) : wpAny (model prog w) A (getAttr? (.ref x) "__class__") Q E s := by
  have hsome : (clsIn K D).isSome = true := by
    obtain ⟨cd, hc, _⟩ := any_some T.hd
    rw [hc]
    rfl
  have hf : findObj K D od "__class__" = some (.bind (.builtin "getset_descriptor.__get__") (.builtin "object.__class__")) :=
    findObj_data hsome T.ha T.hn T.ht
  obtain ⟨hp, g, d, t, os⟩ := s
  have l0 := I.type (M := model prog w)
  have l1 := looks_findIn (M := model prog w) X T.hg
  have l2 := looks_findIn (M := model prog w) X T.hk
  have l3 := looks_find (M := model prog w) X I hf
  have sub : Looks (model prog w) hp (isInstance (.ref x) (.type "BaseException")) true := l0.andThen (looks_subIn X T.hs)
  have n0 : (false && onTheHeap (Value.builtin "BaseException.__getattribute__")) = false := rfl
  have n2 : (Value.builtin "BaseException.__getattribute__" == Value.builtin "object.__getattribute__") = false := by
    decide +kernel
  have n1 : (onTheHeap (Value.ref D) && Value.builtin "BaseException.__getattribute__" == Value.builtin "object.__getattribute__") = false := by
    rw [n2]
    rfl
  unfold getAttr? getAttrBy? getAttrBy
  refine wpAny_bind (wpAny_mkText (wpAny_bind (wpAny_attempt (wpAny_holding (wpAny_bind (l0.at (wpAny_bind (l1.at ?_))))))))
  show wpAny _ _ (if (onTheHeap (Value.ref D) && Value.builtin "BaseException.__getattribute__" == Value.builtin "object.__getattribute__") = true then
    _ else _) _ _ _
  rw [n1, if_neg Bool.false_ne_true]
  unfold getAttrByItsOwn hookBefore
  refine wpAny_bind ?_
  rw [if_pos (show onTheHeap (Value.ref D) = true from rfl)]
  refine l2.at ?_
  refine wpAny_bind (wpAny_attempt (wpAny_holding ?_))
  unfold callGetattribute
  rw [n0, if_neg Bool.false_ne_true]
  unfold boundAndCalled
  rw [PySem.F.excAttr_ValueError.ga.bind (.ref x)]
  refine wpAny_bind (wpAny_pure ?_)
  show wpAny _ _ (call (.builtin "BaseException.__getattribute__") [.ref x, .str "__class__" t]) _ _ _
  refine wpAny_call (codeAny_call_builtin PySem.F.excAttr_ValueError.ga.plain PySem.F.entry_bexc_ga ?_)
  refine @check_slot (model prog w) _ _ ⟨hp, g, d, t + 1, os⟩ "BaseException.__getattribute__" "BaseException" "__getattribute__"
    (.ref x) [.str "__class__" t] [] _ (by decide +kernel) (by decide +kernel) sub (PySem.F.args_bexc_ga (.ref x) (.str "__class__" t)) ?_
  unfold Builtin.«object.__getattribute__»
  refine wpAny_bind (wpAny_of_eq (a := ((Value.ref x : Value), [Value.str "__class__" t]))
    (by first | rfl | (simp only [slotArgs]; rfl)) ?_)
  refine wpAny_bind (wpAny_pure (wpAny_bind (l0.at (wpAny_bind (l3.at ?_)))))
  show wpAny _ _ (holding [Value.builtin "object.__class__"]
    (call (.builtin "getset_descriptor.__get__") [.builtin "object.__class__", .ref x, .ref D]) >>= ret) _ _ _
  refine wpAny_bind (wpAny_holding (wpAny_call (class_get (s := ⟨hp, g, d, t + 1, os⟩) (ox := ox) (od := od) X I T.hm ?_)))
  refine wpAny_pure ?_
  show wpAny _ _ (handedOut (.ref D)) _ _ _
  rw [handedOut_of (v := .ref D) rfl]
  first
    | exact wpAny_pure (wpAny_pure h)
    | exact wpAny_pure h
    | exact wpAny_pure (wpAny_bind (wpAny_pure (wpAny_pure h)))
theorem kitx_excX (T : L2.ExcC K D) : KitX K (.ref x) (.ref D) (fun h => ∃ ox od, InstAt h x ox D od) where
  ty := fun _ _ _ ⟨_, _, I⟩ => I.type
  it := fun _ _ X _ => by
    obtain ⟨cdD, hcD, _⟩ := any_some T.hd
    unfold clsIn at hcD
    split at hcD
    · rename_i c' d' cd' sl' ho
      intro A' Q' E' s' k q
      unfold isType loadHead
      exact wpAny_bind (wpAny_loadPart (k _ _ (X _ _ ho)) (wpAny_pure q))
    · cases hcD
  ne := fun h tp dd its n sl X htp => by
    obtain ⟨cdD, hcD, _⟩ := any_some T.hd
    refine Bool.eq_false_iff.mpr ?_
    intro q
    have e : D = tp := Value.ref.inj (beq_iff_eq.mp q)
    subst e
    unfold clsIn at hcD
    split at hcD
    · rename_i c' d' cd' sl' ho
      cases (X _ _ ho).symm.trans htp
    · cases hcD
  ca := fun X ⟨_, _, I⟩ k => kin_classX T X I k
end
end My

set_option Elab.async false
set_option linter.all false
set_option maxRecDepth 100000
set_option maxHeartbeats 4000000
/-! ## own errors as values -/
namespace My
open PySem PySem.Spec PyProof.Rows L2
/-- what the written part says of an own error class with an __init__ that keeps one field f -/
structure ErrC (K : PySem.W.Frag) (mg : Str → Option Value) (x f : Str) (C fI : Addr) : Prop where
  oex : OexC K C
  xf : XfC K C
  exc : ExcC K C
  noF : PySem.W.findIn K (.ref C) f = some none
  mgC : mg x = some (.ref C)
  iC : PySem.W.findIn K (.ref C) "__init__" = some (some (.ref fI))
  tI : PySem.W.typeIn K (.ref fI) = some (.type "function")
/-- at a stands an error of the class at C whose field f is v -/
def ErrAt (H : Hp) (a C : Addr) (f : Str) (v : V) : Prop :=
  ∃ dx, H a = some (exo a C (some dx)) ∧ H dx = some (exd dx [(f, v)])
theorem ErrAt.same {H H' : Hp} {a C : Addr} {f : Str} {v : V} (e : ErrAt H a C f v) (s : Same H H') : ErrAt H' a C f v := by
  obtain ⟨dx, h1, h2⟩ := e
  exact ⟨dx, s _ _ h1, s _ _ h2⟩
theorem Same.upd {H : Hp} {p : Addr} {o : HO} (h : H p = none) : Same H (L2.upd H p o) := by
  intro b u e
  rw [upd_ne (ne_of_none e h)]
  exact e
/-- the __init__'s promise -/
def spErrI (K : PySem.W.Frag) (C : Addr) (f : Str) : Sp := fun vs H Q _ => ∃ (a : Addr) (v : V), vs = [.ref a, v] ∧ OexC K C ∧
  PySem.W.findIn K (.ref C) f = some none ∧ H a = some (exo a C none) ∧
  ∀ dx, H dx = none → dx ≠ a → Q .non (upd (upd H dx (exd dx [(f, v)])) a (exo a C (some dx)))
section
variable {P : Program} {w : World} {K : PySem.W.Frag} {mg : Str → Option Value} {base : Heap}
theorem ok_given {x qual : Str} {params : Arguments} {body : List Stmt} {scope : Scope} {dvs : List V} {kws : List (Str × V)} {fI C : Addr} {fd : FuncData}
    (F : FunD K x qual params body scope dvs kws fI fd) (S : FnScope ["self", "given"] ["self", "given"] scope)
    (hs : scope = { kind := .function, names := [("self", .local), ("given", .local)], isGenerator := false, isCoroutine := false, more := [] })
    {p1 p2 p3 p4 : Pos} (hb : body = [.Assign [.Attribute (.Name "self" p1) "given" p2] (.Name "given" p3) p4]) :
    FnOk P w K mg base CX0 1 fI fd ["self", "given"] (spErrI K C "given") := by
  subst hs hb
  refine F.ok S ?_ ?_
  · rintro vs H Q E ⟨a, v, rfl, _⟩
    rfl
  · rintro cdv A outer s H vs Q E hr ⟨a, v, rfl, T, hno, ha, k⟩
    refine ⟨_, PSs.nox (pss_one (ps_ost (pv 0) (pv 1))), ?_⟩
    exact ⟨_, rfl, _, rfl, a, C, rfl, T, hno, Or.inl ⟨ha, fun dx h1 h2 => k dx h1 h2⟩⟩
theorem ok_line {x qual : Str} {params : Arguments} {body : List Stmt} {scope : Scope} {dvs : List V} {kws : List (Str × V)} {fI C : Addr} {fd : FuncData}
    (F : FunD K x qual params body scope dvs kws fI fd) (S : FnScope ["self", "line"] ["self", "line"] scope)
    (hs : scope = { kind := .function, names := [("self", .local), ("line", .local)], isGenerator := false, isCoroutine := false, more := [] })
    {p1 p2 p3 p4 : Pos} (hb : body = [.Assign [.Attribute (.Name "self" p1) "line" p2] (.Name "line" p3) p4]) :
    FnOk P w K mg base CX0 1 fI fd ["self", "line"] (spErrI K C "line") := by
  subst hs hb
  refine F.ok S ?_ ?_
  · rintro vs H Q E ⟨a, v, rfl, _⟩
    rfl
  · rintro cdv A outer s H vs Q E hr ⟨a, v, rfl, T, hno, ha, k⟩
    refine ⟨_, PSs.nox (pss_one (ps_ost (pv 0) (pv 1))), ?_⟩
    exact ⟨_, rfl, _, rfl, a, C, rfl, T, hno, Or.inl ⟨ha, fun dx h1 h2 => k dx h1 h2⟩⟩
/-- how the one argument is bound -/
structure ErrB (fd : FuncData) (f : Str) : Prop where
  pos : ∀ (s : Shared) (v u : Value), BindsTo s fd ⟨[v, u], []⟩ [("self", v), (f, u)]
  kw : ∀ (s : Shared) (v u : Value), BindsTo s fd ⟨[v], [(f, u)]⟩ [("self", v), (f, u)]
end
/-- C(e) | C(f = e), an error's making as a value -/
def tErr (C : Addr) (f : Str) (te : TE) : TE := fun σ H Q => te σ H fun v H1 => ∀ a H2, H1 a = none → Same H1 H2 → ErrAt H2 a C f v → Q (.ref a) H2
section
variable {X : Cx} {x f : Str} {C fI : Addr} {fd : FuncData} {e : Expr} {te : TE} {p pos kpos : Pos}
theorem run_err {pins : List (Addr × Obj)} {σ : L2.St} {H : Hp} {s : Shared} {Q : VK} {v : V} {u : Value} {rest : List Value} {kw : List (Str × Value)} {k : Nat}
    (T : ErrC X.K X.mg x f C fI) (F : FnOk X.prog X.w X.K X.mg X.base CX0 k fI fd ["self", f] (spErrI X.K C f)) (hr : Room (k + 1) X.A)
    (hb : ∀ (s : Shared) (z : Value), BindsTo s fd ⟨z :: rest, kw⟩ [("self", z), (f, u)]) (hl : rest.length ≤ 1)
    (I : L2.Inv X pins σ H s) (rv : L2.RelV v u) (h : ∀ a H2, H a = none → Same H H2 → ErrAt H2 a C f v → Q (.ref a) H2) :
    wpAny (model X.prog X.w) X.A (call (.ref C) rest kw) (EP X pins σ Q) X.xe s := by
  obtain ⟨nm, q, N, bs, bm, sn, sub, ab, col, dd, k0, k1, k2, k3, k5, hC, hbm⟩ := T.oex.cls
  obtain ⟨hp, g, dr, tk, os⟩ := s
  have hsz : hp.objs.size ≤ hp.objs.size + 1 := Nat.le_succ _
  have hn : H (hp.objs.size + 1) = none := I.hok.fresh hsz
  have kk : ∀ b o, hp.get? b = some o → ((hp.push (PySem.W.kdv_tup rest)).push (PySem.HandSPX.excO C hp.objs.size)).get? b = some o :=
    fun b o e => Heap.get?_push_of_some _ (Heap.get?_push_of_some _ e)
  have hget : ((hp.push (PySem.W.kdv_tup rest)).push (PySem.HandSPX.excO C hp.objs.size)).get? (hp.objs.size + 1) = some (PySem.HandSPX.excO C hp.objs.size) := by
    heap_get
  have I2 : L2.Inv X pins σ (upd H (hp.objs.size + 1) (exo (hp.objs.size + 1) C none))
      ⟨(hp.push (PySem.W.kdv_tup rest)).push (PySem.HandSPX.excO C hp.objs.size), g, dr, tk, os⟩ :=
    I.laid (t' := tk) (a := hp.objs.size + 1) (o := exo (hp.objs.size + 1) C none)
      (h' := (hp.push (PySem.W.kdv_tup rest)).push (PySem.HandSPX.excO C hp.objs.size)) kk hsz (exo_ok hget)
  have hrl : rest.length ≤ sizeLine := by
    rw [sizeLine_eq]
    omega
  have hq : spErrI X.K C f [.ref (hp.objs.size + 1), v] (upd H (hp.objs.size + 1) (exo (hp.objs.size + 1) C none))
      (fun v' H3 => v' = .non ∧ Q (.ref (hp.objs.size + 1)) H3) (fun _ _ _ => False) := by
    refine ⟨_, v, rfl, T.oex, T.noF, upd_same, fun dx h1 h2 => ⟨rfl, ?_⟩⟩
    have hdx : H dx = none := by
      rw [upd_ne h2] at h1
      exact h1
    refine h _ _ hn (fun b o eb => ?_) ⟨dx, upd_same, ?_⟩
    · rw [upd_ne (ne_of_none eb hn), upd_ne (ne_of_none eb hdx), upd_ne (ne_of_none eb hn)]
      exact eb
    · rw [upd_ne h2, upd_same]
  refine wpAny_call (call_ownK PySem.F.excBase_ValueError (fun Y => PySem.HandSPX.refsVE_contains Y bm hbm) (I.kIn _ _ hC) (PySem.W.looks_findIn I.kIn T.iC)
    (fun self => PySem.W.bind_fn I.kIn self T.tI) hrl
    (codeAny_mono (F.run _ X.stack _ _ ⟨.ref (hp.objs.size + 1) :: rest, kw⟩ [.ref (hp.objs.size + 1), u] _ _ (fun _ _ _ => False) (hr.make C rest kw) (I2.env0.make C rest kw)
      (hb _ _) (.cons (show L2.RelV (.ref (hp.objs.size + 1)) (.ref (hp.objs.size + 1)) from rfl) (.cons rv .nil)) hq) ?_))
  intro r s' hq'
  match r, hq' with
  | .error er, hq' => exact hq'.elim
  | .ok .next, hq' => exact hq'.elim
  | .ok .brk, hq' => exact hq'.elim
  | .ok .cont, hq' => exact hq'.elim
  | .ok (.ret u'), hq' =>
    obtain ⟨v', H3, I3, rv', ev, q2⟩ := I2.after hq'
    subst ev
    exact ⟨rv', .ref (hp.objs.size + 1), H3, I3, rfl, q2⟩
theorem pe_err {k : Nat} (T : ErrC X.K X.mg x f C fI) (F : FnOk X.prog X.w X.K X.mg X.base CX0 k fI fd ["self", f] (spErrI X.K C f)) (hr : Room (k + 1) X.A) (hb : ErrB fd f)
    (hg : Gl X x) (he : PE X e te) (hdb : (x == ("__debug__" : Str)) = false := by decide)
    (hse : starEach (e :: []) X.env = (false, eval e X.env) :: starEach [] X.env := by rfl)
    (hpl : (backTo pos (starEach [] X.env)).any (·.1) = false := by rfl) :
    PE X (.Call (.Name x p) [e] [] pos) (tErr C f te) := by
  constructor
  intro pins s σ H Q I h
  refine wpAny_Call_Name_kw (ld_glob I hg T.mgC ?_ hdb)
  refine PySem.W.callWith_K (h₀ := X.base) I.ok.mod.kin T.oex.kC ?_ hse hpl
  refine thn ((pa_cons he pa_nil hse).run pos pins s σ H (fun vs H1 => ∃ v, vs = [v] ∧ ∀ a H2, H1 a = none → Same H1 H2 → ErrAt H2 a C f v → Q (.ref a) H2) I ?_) ?_
  · show te σ H _
    refine (fun z => z) (show te σ H (fun v H1 => ∃ v', [v] = [v'] ∧ ∀ a H2, H1 a = none → Same H1 H2 → ErrAt H2 a C f v' → Q (.ref a) H2) from ?_)
    have z : (fun (v : V) (H1 : Hp) => ∃ v', [v] = [v'] ∧ ∀ a H2, H1 a = none → Same H1 H2 → ErrAt H2 a C f v' → Q (.ref a) H2) =
        fun v H1 => ∀ a H2, H1 a = none → Same H1 H2 → ErrAt H2 a C f v → Q (.ref a) H2 := by
      funext v H1
      apply propext
      constructor
      · rintro ⟨v', ev, k⟩
        cases ev
        exact k
      · exact fun k => ⟨v, rfl, k⟩
    rw [z]
    exact h
  · rintro us s1 ⟨vs, H1, I1, r, v, rfl, q⟩
    obtain ⟨u, rfl, rv⟩ := Vals.one r
    exact ⟨I1.kIn, run_err (rest := [u]) (kw := []) T F hr (fun s z => hb.pos s z u) (by simp) I1 rv q⟩
theorem pe_errK {k : Nat} (T : ErrC X.K X.mg x f C fI) (F : FnOk X.prog X.w X.K X.mg X.base CX0 k fI fd ["self", f] (spErrI X.K C f)) (hr : Room (k + 1) X.A) (hb : ErrB fd f)
    (hg : Gl X x) (he : PE X e te) (hdb : (x == ("__debug__" : Str)) = false := by decide)
    (hall : (backToKw pos (keywordEach [⟨some f, e, kpos⟩] X.env)).all (·.1.isSome) = true := by rfl)
    (hks : (backToKw pos (keywordEach [⟨some f, e, kpos⟩] X.env)).filterMap (·.1) = [f] := by rfl)
    (hpl : ((backTo pos (starEach [] X.env)).any (·.1) || (backToKw pos (keywordEach [⟨some f, e, kpos⟩] X.env)).any (·.1.isNone)) = false := by rfl) :
    PE X (.Call (.Name x p) [] [⟨some f, e, kpos⟩] pos) (tErr C f te) := by
  constructor
  intro pins s σ H Q I h
  refine wpAny_Call_Name_kw (ld_glob I hg T.mgC ?_ hdb)
  refine PySem.W.callWith_KW0 (h₀ := X.base) I.ok.mod.kin T.oex.kC hall ?_ hpl
  refine thn ((pk_cons he pk_nil).run pos pins s σ H (fun vs H1 => ∃ v, vs = [v] ∧ ∀ a H2, H1 a = none → Same H1 H2 → ErrAt H2 a C f v → Q (.ref a) H2) I ?_) ?_
  · refine (fun z => z) (show te σ H (fun v H1 => ∃ v', [v] = [v'] ∧ ∀ a H2, H1 a = none → Same H1 H2 → ErrAt H2 a C f v' → Q (.ref a) H2) from ?_)
    have z : (fun (v : V) (H1 : Hp) => ∃ v', [v] = [v'] ∧ ∀ a H2, H1 a = none → Same H1 H2 → ErrAt H2 a C f v' → Q (.ref a) H2) =
        fun v H1 => ∀ a H2, H1 a = none → Same H1 H2 → ErrAt H2 a C f v → Q (.ref a) H2 := by
      funext v H1
      apply propext
      constructor
      · rintro ⟨v', ev, k⟩
        cases ev
        exact k
      · exact fun k => ⟨v, rfl, k⟩
    rw [z]
    exact h
  · rintro us s1 ⟨vs, H1, I1, r, v, rfl, q⟩
    obtain ⟨u, rfl, rv⟩ := Vals.one r
    refine ⟨I1.kIn, ?_⟩
    rw [hks]
    exact run_err (rest := []) (kw := [(f, u)]) T F hr (fun s z => hb.kw s z u) (by simp) I1 rv q
/-- e.f, e an error of ours -/
def tErrF (K : PySem.W.Frag) (f : Str) (te : TE) : TE := fun σ H Q => te σ H fun x H1 => ∃ a C v, x = .ref a ∧ ErrAt H1 a C f v ∧ XfC K C ∧ PySem.W.findIn K (.ref C) f = some none ∧ Q v H1
theorem pe_errF (he : PE X e te) (hb : attributeBase e f X.env (eval e X.env) = eval e X.env := by rfl) : PE X (.Attribute e f pos) (tErrF X.K f te) := by
  constructor
  intro pins s σ H Q I h
  refine attr_of hb (thn (he.run pins s σ H _ I h) ?_)
  rintro u s1 ⟨x, H1, I1, rx, a, C, v, rfl, ⟨dx, h1, h2⟩, T, hno, q⟩
  obtain rfl : u = Value.ref a := rx
  obtain ⟨t1, ho⟩ := exo_at I1.hok h1
  obtain ⟨mA, hns, hr⟩ := exd_at I1.hok h2
  obtain ⟨od, hod, hl⟩ := lookIn_ns hns
  have l : List.lookup f [(f, v)] = some v := by simp [List.lookup]
  obtain ⟨w', hw, rw'⟩ := RelO.some_of (v := v) (o := mA f) (by rw [← l]; exact hr f)
  have J : PySem.W.InstAt s1.heap a ({ cls := .ref C, dict := some dx, data := .fields #[.ref t1, .none, .none, .none, .bool false, .none] } : Obj) C (some od) :=
    ⟨ho, rfl, rfl, hod⟩
  exact HandSPX.exc_get I1.kIn J T.ga T.gg T.exC (PySem.W.findObj_own T.hdC hno rfl (by rw [hl, hw])) (handed_of rw') ⟨v, H1, I1.tok _, rw', q⟩
/-- isinstance(e, c), e an error of ours (with its own dict, or a plain one) -/
def rIsErr (K : PySem.W.Frag) : List V → Hp → VK → Prop := fun xs H Q => ∃ (a C : Addr) (c : V) (cv : Value) (b : Bool), xs = [.ref a, c] ∧
  ((∃ f v, ErrAt H a C f v) ∨ H a = some (ExO (.ref C) a)) ∧ ExcC K C ∧ ClsV c cv ∧ PySem.W.kitOne K (.ref C) cv = some b ∧ Q (.bl b) H
theorem inst_err {pins : List (Addr × Obj)} {σ : L2.St} {H : Hp} {s : Shared} {a C : Addr} (I : L2.Inv X pins σ H s) (h : (∃ f v, ErrAt H a C f v) ∨ H a = some (ExO (.ref C) a)) :
    ∃ ox od, PySem.W.InstAt s.heap a ox C od := by
  rcases h with ⟨f, v, dx, h1, h2⟩ | h
  · obtain ⟨t1, ho⟩ := exo_at I.hok h1
    obtain ⟨mA, ⟨od, es, ep, hod, _⟩, _⟩ := exd_at I.hok h2
    exact ⟨_, some od, ho, rfl, rfl, hod⟩
  · obtain ⟨⟨oe, vs, ho, hz, hd, _⟩, _, _⟩ := I.hok a _ h
    exact ⟨oe, none, ho, hz.1, by unfold PySem.W.notCls; rw [hd] <;> rfl, by rw [hz.2] <;> trivial⟩
theorem call_isErr : CallR X (.builtin "isinstance") (rIsErr X.K) := by
  intro pins s σ H xs us Q I r h
  obtain ⟨a, C, c, cv, b, rfl, hE, T, hc, hk, q⟩ := h
  obtain ⟨u, v, rfl, ru, rc⟩ := Vals.two r
  cases ru
  have ec := hc.eq rc
  subst ec
  exact PySem.W.kia_one (kitx_excX T) I.kIn (inst_err I hE) hk (fun z => nomatch z) (fun tk => ⟨.bl b, H, I.tok _, rfl, q⟩)
end
end My

set_option Elab.async false
set_option linter.all false
set_option maxRecDepth 100000
set_option maxHeartbeats 4000000
/-! ## the head's facts: any Bools of the written part, and the defs by name -/
namespace My
open PySem PySem.Spec PyProof.Rows L2
abbrev Fx : Type := PySem.W.Frag → Bool
def obsX (B : List Fx) (fn : List He.DefD) (K : PySem.W.Frag) : He.AlD :=
  (B.all (fun b => b K) && fn.all (fun d => d.ok K), fn.map (fun d => He.fnW K d.at_))
def SaysX (B : List Fx) (fn : List He.DefD) (K : PySem.W.Frag) : Prop := obsX B fn K = He.valD fn
def obsXG (n : Nat) (B : List Fx) (fn : List He.DefD) (g : Addr → Option Obj) : He.AlD := obsX B fn (He.frG g (He.asD g n))
def hookX (n : Nat) (B : List Fx) (fn : List He.DefD) : PySem.W.Hook where
  α := He.AlD
  obs := fun s => obsXG n B fn s.heap.get?
  val := fun _ => He.valD fn
  says := fun _ h => ∃ K : PySem.W.Frag, K.In h ∧ SaysX B fn K
  of := fun _ _ e => ⟨_, He.frG_in, e⟩
  keeps := by
    rintro _ h h' ⟨K, hK, c⟩ k
    exact ⟨K, hK.keeps k, c⟩
theorem obsXG_eq {n : Nat} {B : List Fx} {fn : List He.DefD} {g : Addr → Option Obj} {s : Shared} (h : ∀ a, g a = s.heap.get? a) :
    obsXG n B fn g = (hookX n B fn).obs s := by
  obtain rfl : g = s.heap.get? := funext h
  rfl
section
variable {B : List Fx} {fn : List He.DefD} {K : PySem.W.Frag}
theorem SaysX.two (c : SaysX B fn K) : (∀ b ∈ B, b K = true) ∧ ∀ d ∈ fn, d.ok K = true := by
  have z : (B.all (fun b => b K) && fn.all (fun d => d.ok K)) = true := congrArg Prod.fst c
  obtain ⟨z1, z2⟩ := Bool.and_eq_true_iff.mp z
  exact ⟨List.all_eq_true.mp z1, List.all_eq_true.mp z2⟩
theorem SaysX.fact (c : SaysX B fn K) (i : Nat) {f : Fx} (h : B[i]? = some f := by rfl) : f K = true := c.two.1 f (List.mem_of_getElem? h)
theorem SaysX.fn_ (c : SaysX B fn K) (i : Nat) {d : He.DefD} (h : fn[i]? = some d := by rfl) :
    ∃ fd, FunD K d.name d.qual d.params d.body d.scope (d.dvs K) (d.kws K) (He.fAd K d.at_) fd := by
  have e : fn.map (fun d => He.fnW K d.at_) = fn.map He.DefD.val := congrArg Prod.snd c
  have e2 := congrArg (fun l => l[i]?) e
  simp only [List.getElem?_map, h, Option.map_some, Option.some.injEq] at e2
  exact He.DefD.funD e2 (c.two.2 d (List.mem_of_getElem? h))
end
/-! ### facts -/
def fGlo (x : Str) : Fx := fun K => (He.Fa.glo x).ok K
def fFree (x : Str) : Fx := fun K => (He.Fa.free x).ok K
def fBfun (x : Str) (id : String) : Fx := fun K => decide (PySem.W.nsIn K mainGlobals x = some (some (.builtin id)))
def excObjB (K : PySem.W.Frag) (C : Addr) : Bool := match K.lookup C with
  | some ⟨.type t, _, .cls cd, sl⟩ => (match cd.mro, sl.toList with
    | .ref C' :: bm, [_, _, _, _, some (.builtin n), _] =>
      decide (t = "type") && (decide (C' = C) && (decide (n = "ValueError.__new__") && (!cd.hasDel && (cd.hasDict && PySem.HandSPX.refsVE bm))))
    | _, _ => false)
  | _ => false
theorem excObjB_ok {K : PySem.W.Frag} {C : Addr} (h : excObjB K C = true) :
    ∃ nm q N bs bm sn sub ab col dd k0 k1 k2 k3 k5, K.lookup C = some (excClassObj nm q C N bs bm true sn sub ab col dd k0 k1 k2 k3 k5 "ValueError.__new__") ∧
      PySem.HandSPX.refsVE bm = true := by
  unfold excObjB at h
  split at h
  · rename_i t dd cd sl ho
    split at h
    · rename_i C' bm k0 k1 k2 k3 n k5 hm hs
      simp only [Bool.and_eq_true, decide_eq_true_eq, Bool.not_eq_true'] at h
      obtain ⟨rfl, rfl, rfl, hdel, hdct, hr⟩ := h
      obtain ⟨nm, bs, mro, ns, qn, hd, sn, sub, ab, col, del⟩ := cd
      dsimp only at hm hdel hdct
      subst hm hdel hdct
      obtain ⟨l⟩ := sl
      dsimp only at hs
      subst hs
      exact ⟨nm, qn, ns, bs, bm, sn, sub, ab, col, dd, k0, k1, k2, k3, k5, ho, hr⟩
    · cases h
  · cases h
def oexB (K : PySem.W.Frag) (C : Addr) : Bool :=
  excObjB K C && (decide (PySem.W.findIn K (.ref C) "__setattr__" = some (some (.builtin "object.__setattr__"))) &&
    (decide (PySem.W.subIn K (.ref C) (.type "BaseException") = some true) && (decide (PySem.W.typeIn K (.ref C) = some (.type "type")) && PySem.W.keepIn K (.ref C))))
theorem oexB_ok {K : PySem.W.Frag} {C : Addr} (h : oexB K C = true) : OexC K C := by
  unfold oexB at h
  simp only [Bool.and_eq_true, decide_eq_true_eq] at h
  obtain ⟨h1, h2, h3, h4, h5⟩ := h
  exact ⟨excObjB_ok h1, h2, h3, h4, h5⟩
def excB (K : PySem.W.Frag) (C : Addr) : Bool :=
  decide (PySem.W.findIn K (.ref C) "__getattribute__" = some (some (.builtin "BaseException.__getattribute__"))) &&
  (decide (PySem.W.findIn K (.ref C) "__getattr__" = some none) && (decide (PySem.W.subIn K (.ref C) (.type "BaseException") = some true) &&
  (PySem.W.hasDictIn K C && (decide (PySem.W.findIn K (.ref C) "__class__" = some (some (.builtin "object.__class__"))) &&
  (decide (PySem.W.specialIn K (.builtin "object.__class__") "__get__" = some (some (.builtin "getset_descriptor.__get__"))) &&
  (decide (PySem.W.takesIn K (.builtin "object.__class__") = some true) && decide (PySem.W.mroIn K C (.type "object") = some true)))))))
theorem excB_ok {K : PySem.W.Frag} {C : Addr} (h : excB K C = true) : ExcC K C ∧ XfC K C := by
  unfold excB at h
  simp only [Bool.and_eq_true, decide_eq_true_eq] at h
  obtain ⟨h1, h2, h3, h4, h5, h6, h7, h8⟩ := h
  exact ⟨⟨h1, h2, h3, h4, h5, h6, h7, h8⟩, ⟨h1, h2, h3, h4⟩⟩
/-- an own error class with an __init__ that keeps one field -/
def fErr (x f : Str) : Fx := fun K => oexB K (He.ga K x) && (excB K (He.ga K x) &&
  (decide (PySem.W.findIn K (.ref (He.ga K x)) f = some none) && ((He.Fa.glo x).ok K &&
  (decide (PySem.W.findIn K (.ref (He.ga K x)) "__init__" = some (some (.ref (He.ma K (He.ga K x) "__init__")))) &&
   decide (PySem.W.typeIn K (.ref (He.ma K (He.ga K x) "__init__")) = some (.type "function"))))))
theorem fErr_ok {K : PySem.W.Frag} {x f : Str} {h : Heap} {mg : Str → Option Value} (X : K.In h) (G : h.Ns mainGlobals mg) (c : fErr x f K = true) :
    ErrC K mg x f (He.ga K x) (He.ma K (He.ga K x) "__init__") := by
  unfold fErr at c
  simp only [Bool.and_eq_true, decide_eq_true_eq] at c
  obtain ⟨h1, h2, h3, h4, h5, h6⟩ := c
  exact ⟨oexB_ok h1, (excB_ok h2).2, (excB_ok h2).1, h3, He.glo_ok X G h4, h5, h6⟩
/-- a plain own error class -/
def fExc (x : Str) : Fx := fun K => (He.Fa.exc x).ok K && (excB K (He.ga K x) && (He.Fa.glo x).ok K)
/-- isinstance of an instance of the class x: of the class y; of a built-in type -/
def fIs (x y : Str) (b : Bool) : Fx := fun K => decide (PySem.W.kitOne K (.ref (He.ga K x)) (.ref (He.ga K y)) = some b)
def fIsT (x : Str) (T : String) (b : Bool) : Fx := fun K => decide (PySem.W.kitOne K (.ref (He.ga K x)) (.type T) = some b)
end My

set_option Elab.async false
set_option linter.all false
set_option maxRecDepth 100000
set_option maxHeartbeats 4000000
/-! ## readings, one step each (the heads are found syntactically) -/
namespace My
open PySem PySem.Spec PyProof.Rows L2
/-- all that was tracked at a place other than b is as it was -/
def SameX (b : Addr) (H H' : Hp) : Prop := ∀ c o, c ≠ b → H c = some o → H' c = some o
theorem SameX.refl {b : Addr} {H : Hp} : SameX b H H := fun _ _ _ h => h
theorem SameX.trans {b : Addr} {H H1 H2 : Hp} (s : SameX b H H1) (t : SameX b H1 H2) : SameX b H H2 := fun c o hc h => t c o hc (s c o hc h)
theorem SameX.of {b : Addr} {H H1 : Hp} (s : Same H H1) : SameX b H H1 := fun c o _ h => s c o h
theorem SameX.upd {b : Addr} {H : Hp} {o : HO} : SameX b H (L2.upd H b o) := fun c u hc h => by
  rw [upd_ne hc]
  exact h
theorem Same.get {H H' : Hp} {a : Addr} {o : HO} (s : Same H H') (h : H a = some o) : H' a = some o := s a o h
theorem SameX.get {b : Addr} {H H' : Hp} {a : Addr} {o : HO} (s : SameX b H H') (n : a ≠ b) (h : H a = some o) : H' a = some o := s a o n h
theorem SameX.same {b : Addr} {H H1 H2 : Hp} (s : Same H H1) (n : H b = none) (t : SameX b H1 H2) : Same H H2 := fun c o h => t c o (ne_of_none h n) (s c o h)
theorem Same.none {H H' : Hp} {p : Addr} (s : Same H H') (h : H' p = none) : H p = none := s.free h
theorem Rd.same {H H' : Hp} {a : Addr} {u : HO} (s : Same H H') (h : Rd H a u) : Rd H' a u := by
  rcases h with h | ⟨o, h⟩
  · exact Or.inl (s _ _ h)
  · exact Or.inr ⟨o, s _ _ h⟩
theorem SqT_same {K : PySem.W.Frag} {H H' : Hp} {a : Addr} {xs : List V} (s : Same H H') (h : SqT K H a xs) : SqT K H' a xs := by
  rcases h with h | h
  · exact Or.inl (Rd.same s h)
  · exact Or.inr h
/-- the field f of an error, of an instance -/
def ErrF (K : PySem.W.Frag) (f : Str) (x : V) (H : Hp) (Q : VK) : Prop := ∃ a C v, x = .ref a ∧ ErrAt H a C f v ∧ XfC K C ∧ PySem.W.findIn K (.ref C) f = some none ∧ Q v H
def FldR (K : PySem.W.Frag) (f : Str) (x : V) (H : Hp) (Q : VK) : Prop := ∃ a C dx fs v, x = .ref a ∧ H a = some (.ins C dx fs) ∧ Cls K C ∧ NoAttr K C f ∧ fs.lookup f = some v ∧ Q v H
/-- a new list, a new tuple of the items xs -/
def NewL (xs : List V) (H : Hp) (Q : VK) : Prop := xs.length ≤ sizeLine ∧ ∀ p, H p = none → Q (.ref p) (upd H p (.lst xs))
def NewT (xs : List V) (H : Hp) (Q : VK) : Prop := xs.length ≤ sizeLine ∧ ∀ p, H p = none → Q (.ref p) (upd H p (.tup xs))
section
variable {σ : L2.St} {H : Hp} {Q : VK} {K : PySem.W.Frag} {D : Ends} {ta tb te tc : TE} {t u : TT} {tx ty : TS} {i : Nat} {v x y : V}
theorem r_var (h : σ[i]? = some (some v)) (q : Q v H) : tVar i σ H Q := ⟨v, h, q⟩
theorem r_c (q : Q v H) : tC v σ H Q := q
theorem r_op {r : R2} (h : ta σ H fun x H1 => tb σ H1 fun y H2 => r x y H2 Q) : tOp r ta tb σ H Q := h
theorem r_un {r : V → Hp → VK → Prop} (h : ta σ H fun x H1 => r x H1 Q) : tUn r ta σ H Q := h
theorem r_I0 {g : Int → Int → V} {i j : Int} (q : Q (g i j) H) : rI0 g (.int i) (.int j) H Q := ⟨i, j, rfl, rfl, q⟩
theorem r_I {C : Int → Int → Prop} {g : Int → Int → V} {i j : Int} (c : C i j) (q : Q (g i j) H) : rI C g (.int i) (.int j) H Q := ⟨i, j, rfl, rfl, c, q⟩
theorem r_U {g : Int → V} {i : Int} (q : Q (g i) H) : rU g (.int i) H Q := ⟨i, rfl, q⟩
theorem r_eq (h : scal x y = true) (q : Q (.bl (decide (x = y))) H) : rEq x y H Q := ⟨h, q⟩
theorem r_ne (h : scal x y = true) (q : Q (.bl (!decide (x = y))) H) : rNe x y H Q := ⟨h, q⟩
theorem r_cb {r : List V → Hp → VK → Prop} {ts : TA} (h : ts σ H fun vs H1 => r vs H1 Q) : tCB r ts σ H Q := h
theorem r_call {sp : Sp} {dvs : List V} {E : XK} {ts : TA} (h : ts σ H fun vs H1 => sp (vs ++ dvs) H1 Q E) : tCall sp dvs E ts σ H Q := h
theorem r_nil {R : List V → Hp → Prop} (h : R [] H) : tNil σ H R := h
theorem r_cons {R : List V → Hp → Prop} {tr : TA} (h : te σ H fun x H1 => tr σ H1 fun xs H2 => R (x :: xs) H2) : tCons te tr σ H R := h
theorem r_if {ta tb : TE} (h : t σ H fun c H1 => if c = true then ta σ H1 Q else tb σ H1 Q) : tIf t ta tb σ H Q := h
theorem r_test {R : Bool → Hp → Prop} (h : te σ H fun x H' => ∃ k, x = .bl k ∧ R k H') : tTest te σ H R := h
theorem r_B {R : Bool → Hp → Prop} (h : te σ H fun x H' => ∃ k, x = .bl k ∧ R k H') : tB te σ H R := h
theorem r_and {R : Bool → Hp → Prop} (h : t σ H fun c H1 => if c = true then u σ H1 R else R false H1) : tAnd t u σ H R := h
theorem r_or {R : Bool → Hp → Prop} (h : t σ H fun c H1 => if c = true then R true H1 else u σ H1 R) : tOr t u σ H R := h
theorem r_not {R : Bool → Hp → Prop} (h : t σ H fun c H1 => R (!c) H1) : tNot t σ H R := h
theorem r_andV (h : ta σ H fun x H1 => ∃ c, x = .bl c ∧ if c = true then tb σ H1 Q else Q (.bl false) H1) : tAndV ta tb σ H Q := h
theorem r_orV (h : ta σ H fun x H1 => ∃ c, x = .bl c ∧ if c = true then Q (.bl true) H1 else tb σ H1 Q) : tOrV ta tb σ H Q := h
theorem r_notV (h : ta σ H fun x H1 => ∃ c, x = .bl c ∧ Q (.bl (!c)) H1) : tNotV ta σ H Q := h
theorem r_bl {b : Bool} {R : Bool → Prop} (h : R b) : ∃ k, (V.bl b) = .bl k ∧ R k := ⟨b, rfl, h⟩
theorem r_lst {ts : TA} (h : ts σ H fun xs H1 => NewL xs H1 Q) : tLst ts σ H Q := h
theorem r_tup {ts : TA} (h : ts σ H fun xs H1 => NewT xs H1 Q) : tTup ts σ H Q := h
/-- something new is laid: from then on only what is known of the heap counts -/
theorem r_newL {xs : List V} (hn : xs.length ≤ 100000) (q : ∀ p H', H p = none → Same H H' → H' p = some (.lst xs) → Q (.ref p) H') : NewL xs H Q :=
  ⟨Evl.sz_of hn, fun p hp => q p _ hp (Same.upd hp) upd_same⟩
theorem r_newT {xs : List V} (hn : xs.length ≤ 100000) (q : ∀ p H', H p = none → Same H H' → H' p = some (.tup xs) → Q (.ref p) H') : NewT xs H Q :=
  ⟨Evl.sz_of hn, fun p hp => q p _ hp (Same.upd hp) upd_same⟩
theorem r_dnew (q : ∀ p H', H p = none → Same H H' → H' p = some (.dK []) → Q (.ref p) H') : tDNewK σ H Q := fun p hp => q p _ hp (Same.upd hp) upd_same
theorem r_tFld {f : Str} (h : ta σ H fun x H1 => FldR K f x H1 Q) : tFld K ta f σ H Q := h
theorem r_fld {f : Str} {a C dx : Addr} {fs : List (Str × V)} (h : H a = some (.ins C dx fs)) (c : Cls K C) (n : NoAttr K C f) (l : fs.lookup f = some v) (q : Q v H) :
    FldR K f (.ref a) H Q := ⟨a, C, dx, fs, v, rfl, h, c, n, l, q⟩
theorem r_ixL {p : Addr} {xs : List V} {k : Int} (h : SqL K H p xs) (e : atI xs k = some v) (q : Q v H) : rIxL K (.ref p) (.int k) H Q := ⟨p, xs, k, v, rfl, rfl, h, e, q⟩
theorem r_ixT {p : Addr} {xs : List V} {k : Int} (h : SqT K H p xs) (e : atI xs k = some v) (q : Q v H) : rIxT K (.ref p) (.int k) H Q := ⟨p, xs, k, v, rfl, rfl, h, e, q⟩
theorem r_cat {l b : Addr} {xs zs : List V} (h1 : H l = some (.lst xs)) (h2 : H b = some (.lst zs)) (hn : xs.length + zs.length ≤ 100000)
    (q : ∀ p H', H p = none → Same H H' → H' p = some (.lst (xs ++ zs)) → Q (.ref p) H') : rCat (.ref l) (.ref b) H Q :=
  ⟨l, b, xs, zs, rfl, rfl, h1, h2, Evl.sz_of hn, fun p hp => q p _ hp (Same.upd hp) upd_same⟩
theorem r_tErr {C : Addr} {f : Str} (h : te σ H fun v H1 => ∀ a H2, H1 a = none → Same H1 H2 → ErrAt H2 a C f v → Q (.ref a) H2) : tErr C f te σ H Q := h
theorem r_tErrF {f : Str} (h : te σ H fun x H1 => ErrF K f x H1 Q) : tErrF K f te σ H Q := h
theorem r_errF {f : Str} {a C : Addr} (e : ErrAt H a C f v) (T : XfC K C) (n : PySem.W.findIn K (.ref C) f = some none) (q : Q v H) : ErrF K f (.ref a) H Q :=
  ⟨a, C, v, rfl, e, T, n, q⟩
/-! ### statements -/
theorem r_seq (h : tx { D with nx := ty D } σ H) : tSeq tx ty D σ H := h
theorem r_asg {g : TG} (h : te σ H fun x H1 => g x σ H1 D.nx) : tAsg te g D σ H := h
theorem r_gname {R : L2.St → Hp → Prop} (h : R (σ.set i (some v)) H) : gName i v σ H R := h
theorem r_ret (h : te σ H D.rt) : tRet te D σ H := h
theorem r_retN (h : D.rt .non H) : tRetN D σ H := h
theorem r_next (h : D.nx σ H) : tNext D σ H := h
theorem r_drop (h : te σ H fun _ H1 => D.nx σ H1) : tDrop te D σ H := h
theorem r_ifS (h : t σ H fun b H1 => if b = true then tx D σ H1 else ty D σ H1) : tIfS t tx ty D σ H := h
theorem r_brk (h : D.bk σ H) : tBreak D σ H := h
theorem r_cont (h : D.ct σ H) : tCont D σ H := h
theorem r_setL {p : Addr} {xs : List V} {k : Int} {j : Nat} {R : Hp → Prop} (h : H p = some (.lst xs)) (e : ixN xs.length k = some j) (q : R (upd H p (.lst (xs.set j v)))) :
    rSetL (.ref p) (.int k) v H R := ⟨p, xs, k, j, rfl, rfl, h, e, q⟩
theorem r_gSub {to ti : TE} {t : TSet} {R : L2.St → Hp → Prop} (h : to σ H fun o H1 => ti σ H1 fun i H2 => t o i v H2 fun H3 => R σ H3) : gSub to ti t v σ H R := h
end
/-- the step -/
local macro_rules | `(tactic| walk_at "rd") => `(tactic| (repeat (first
  | with_reducible refine r_var (by exact rfl) ?_
  | with_reducible refine r_c ?_
  | with_reducible refine r_seq ?_
  | with_reducible refine r_asg ?_
  | with_reducible refine r_gname ?_
  | with_reducible refine r_op ?_
  | with_reducible refine r_I0 ?_
  | with_reducible refine r_un ?_
  | with_reducible refine r_U ?_
  | with_reducible refine r_cb ?_
  | with_reducible refine r_call ?_
  | with_reducible refine r_cons ?_
  | with_reducible refine r_nil ?_
  | with_reducible refine r_bl ?_
  | with_reducible refine r_test ?_
  | with_reducible refine r_B ?_
  | with_reducible refine r_and ?_
  | with_reducible refine r_or ?_
  | with_reducible refine r_not ?_
  | with_reducible refine r_andV ?_
  | with_reducible refine r_orV ?_
  | with_reducible refine r_notV ?_
  | with_reducible refine r_if ?_
  | with_reducible refine r_lst ?_
  | with_reducible refine r_tup ?_
  | with_reducible refine r_tErr ?_
  | with_reducible refine r_tErrF ?_
  | with_reducible refine r_ret ?_
  | with_reducible refine r_retN ?_
  | with_reducible refine r_next ?_
  | with_reducible refine r_drop ?_
  | with_reducible refine r_ifS ?_
  | with_reducible refine r_brk ?_
  | with_reducible refine r_cont ?_
  | with_reducible refine r_gSub ?_)))
end My

set_option Elab.async false
set_option linter.all false
set_option maxRecDepth 100000
set_option maxHeartbeats 4000000
/-! ## more operators; callees as bundles -/
namespace My
open PySem PySem.Spec PyProof.Rows L2
def CPowW (i j : Int) : Prop := 0 ≤ j ∧ ((i.natAbs.log2 + 1 : Nat) : Int) * j ≤ 2 ^ 27
def CDivZ (_ j : Int) : Prop := j ≠ 0 ∧ j.natAbs.log2 < 9000
def rPowW : R2 := rI CPowW fun i j => .int (i ^ j.toNat)
def rDivZ : R2 := rI CDivZ fun i j => .int (i.fdiv j)
def rDivW : R2 := rI CDivW fun i j => .int (i / j)
def rMulW : R2 := rI CMulW fun i j => .int (i * j)
def rMod : R2 := rI (fun _ j => 0 < j) fun i j => .int (i % j)
def rModN : R2 := rI (fun _ j => j ≠ 0) fun i j => .int (i.fmod j)
def rInt1 : List V → Hp → VK → Prop := fun xs H Q => (∃ i, xs = [.int i] ∧ Q (.int i) H) ∨ ∃ k, xs = [.bl k] ∧ Q (.int (if k then 1 else 0)) H
def rAbs : List V → Hp → VK → Prop := fun xs H Q => ∃ i, xs = [.int i] ∧ Q (.int (if i < 0 then -i else i)) H
def rStrI : List V → Hp → VK → Prop := fun xs H Q => ∃ i, xs = [.int i] ∧ i.natAbs.log2 < 1920 ∧ Q (.str (toString i)) H
def rLenQ (K : PySem.W.Frag) : List V → Hp → VK → Prop := fun xs H Q => ∃ p ys, xs = [.ref p] ∧ (SqL K H p ys ∨ SqT K H p ys) ∧ Q (.int ys.length) H
def rLenS : List V → Hp → VK → Prop := fun xs H Q => ∃ z, xs = [.str z] ∧ z.length ≤ sizeLine ∧ Q (.int z.length) H
def rMax2 : List V → Hp → VK → Prop := fun xs H Q => ∃ i j, xs = [.int i, .int j] ∧ Q (.int (if j > i then j else i)) H
def rMin2 : List V → Hp → VK → Prop := fun xs H Q => ∃ i j, xs = [.int i, .int j] ∧ Q (.int (if j < i then j else i)) H
def rListOf (K : PySem.W.Frag) : List V → Hp → VK → Prop := fun xs H Q => ∃ p ys, xs = [.ref p] ∧ (SqL K H p ys ∨ SqT K H p ys) ∧ ∀ l, H l = none → Q (.ref l) (upd H l (.lst ys))
def rAddS : R2 := fun x y H Q => ∃ i j, x = .str i ∧ y = .str j ∧ i.length + j.length ≤ sizeLine ∧ Q (.str (i ++ j)) H
section
variable {X : Cx}
theorem op_powW : OpR X (binaryOp .Pow) rPowW := opI fun i j _ _ _ _ _ hc q => by
  refine pow_int hc.1 ?_ q
  have b : Builtin.Int.intBits i ≤ i.natAbs.log2 + 1 := by
    unfold Builtin.Int.intBits
    split <;> omega
  refine Int.le_trans (Int.mul_le_mul_of_nonneg_right ?_ hc.1) hc.2
  exact Int.ofNat_le.mpr b
theorem op_fdivZ : OpR X (binaryOp .FloorDiv) rDivZ := opI fun i j _ _ _ _ _ hc q => floordiv_int hc.1 q (Or.inl (PyProof.noPylong_of_log2 hc.2))
theorem op_divW : OpR X (binaryOp .FloorDiv) rDivW := op_fdivW
theorem op_mulw : OpR X (binaryOp .Mult) rMulW := op_mulW
theorem op_modP : OpR X (binaryOp .Mod) rMod := op_mod
theorem op_modZ : OpR X (binaryOp .Mod) rModN := op_modN
theorem cl_int : CallR X (.type "int") rInt1 := call_int1
theorem cl_abs : CallR X (.builtin "abs") rAbs := call_abs
theorem cl_str : CallR X (.type "str") rStrI := call_str_int
theorem cl_len : CallR X (.builtin "len") (rLenQ X.K) := call_len_seq
theorem cl_lenS : CallR X (.builtin "len") rLenS := call_len_str
theorem cl_max (hc : X.calm = true) : CallR X (.builtin "max") rMax2 := call_max2 hc
theorem cl_min (hc : X.calm = true) : CallR X (.builtin "min") rMin2 := call_min2 hc
theorem cl_list : CallR X (.type "list") (rListOf X.K) := call_list_of
theorem op_adds : OpR X (binaryOp .Add) rAddS := op_add_str
end
section
variable {H : Hp} {Q : VK} {K : PySem.W.Frag} {i j : Int}
theorem r_PowW (c : CPowW i j) (q : Q (.int (i ^ j.toNat)) H) : rPowW (.int i) (.int j) H Q := r_I (C := CPowW) (g := fun i j => .int (i ^ j.toNat)) c q
theorem r_DivZ (c : CDivZ i j) (q : Q (.int (i.fdiv j)) H) : rDivZ (.int i) (.int j) H Q := r_I (C := CDivZ) (g := fun i j => .int (i.fdiv j)) c q
theorem r_DivW (c : CDivW i j) (q : Q (.int (i / j)) H) : rDivW (.int i) (.int j) H Q := r_I (C := CDivW) (g := fun i j => .int (i / j)) c q
theorem r_MulW (c : CMulW i j) (q : Q (.int (i * j)) H) : rMulW (.int i) (.int j) H Q := r_I (C := CMulW) (g := fun i j => .int (i * j)) c q
theorem r_Mod (c : 0 < j) (q : Q (.int (i % j)) H) : rMod (.int i) (.int j) H Q := r_I (C := fun _ j => 0 < j) (g := fun i j => .int (i % j)) c q
theorem r_ModN (c : j ≠ 0) (q : Q (.int (i.fmod j)) H) : rModN (.int i) (.int j) H Q := r_I (C := fun _ j => j ≠ 0) (g := fun i j => .int (i.fmod j)) c q
theorem r_int (q : Q (.int i) H) : rInt1 [.int i] H Q := Or.inl ⟨i, rfl, q⟩
theorem r_abs (q : Q (.int (if i < 0 then -i else i)) H) : rAbs [.int i] H Q := ⟨i, rfl, q⟩
theorem r_str (h : i.natAbs.log2 < 1920) (q : Q (.str (toString i)) H) : rStrI [.int i] H Q := ⟨i, rfl, h, q⟩
theorem r_lenL {p : Addr} {ys : List V} (h : SqL K H p ys) (q : Q (.int ys.length) H) : rLenQ K [.ref p] H Q := ⟨p, ys, rfl, Or.inl h, q⟩
theorem r_lenT {p : Addr} {ys : List V} (h : SqT K H p ys) (q : Q (.int ys.length) H) : rLenQ K [.ref p] H Q := ⟨p, ys, rfl, Or.inr h, q⟩
theorem r_lenS {z : Str} (h : z.length ≤ 1000000) (q : Q (.int z.length) H) : rLenS [.str z] H Q := ⟨z, rfl, Nat.le_trans h (by decide), q⟩
theorem r_max2 (q : Q (.int (if j > i then j else i)) H) : rMax2 [.int i, .int j] H Q := ⟨i, j, rfl, q⟩
theorem r_min2 (q : Q (.int (if j < i then j else i)) H) : rMin2 [.int i, .int j] H Q := ⟨i, j, rfl, q⟩
theorem r_listL {p : Addr} {ys : List V} (h : SqL K H p ys) (q : ∀ l H', H l = none → Same H H' → H' l = some (.lst ys) → Q (.ref l) H') : rListOf K [.ref p] H Q :=
  ⟨p, ys, rfl, Or.inl h, fun l hl => q l _ hl (Same.upd hl) upd_same⟩
theorem r_listT {p : Addr} {ys : List V} (h : SqT K H p ys) (q : ∀ l H', H l = none → Same H H' → H' l = some (.lst ys) → Q (.ref l) H') : rListOf K [.ref p] H Q :=
  ⟨p, ys, rfl, Or.inr h, fun l hl => q l _ hl (Same.upd hl) upd_same⟩
theorem r_adds {x y : Str} (h : x.length + y.length ≤ 1000000) (q : Q (.str (x ++ y)) H) : rAddS (.str x) (.str y) H Q := ⟨x, y, rfl, rfl, Nat.le_trans h (by decide), q⟩
end
/-! ### callees -/
section
variable (P : Program) (w : World) (K : PySem.W.Frag) (mg : Str → Option Value) (base : Heap)
structure Cal (CX : CXT) (k : Nat) (x : Str) (ps : List Str) (sp : Sp) where
  f : Addr
  fd : FuncData
  ok : FnOk P w K mg base CX k f fd ps sp
  gl : mg x = some (.ref f)
  kp : PySem.W.keepIn K (.ref f) = true
  b : L2.Binds K fd ps []
structure CalG (CX : CXT) (k : Nat) (x : Str) (ps : List Str) (sp : Sp) where
  f : Addr
  fd : FuncData
  ok : FnG P w K mg base CX k f fd ps sp
  gl : mg x = some (.ref f)
  kp : PySem.W.keepIn K (.ref f) = true
  b : L2.Binds K fd ps []
/-- an own error class with one field -/
structure CalE (x f : Str) where
  C : Addr
  fI : Addr
  fd : FuncData
  T : ErrC K mg x f C fI
  ok : FnOk P w K mg base CX0 1 fI fd ["self", f] (spErrI K C f)
  b : ErrB fd f
/-- a plain own error class -/
structure CalP (x : Str) where
  C : Addr
  exc : ExcC K C
  xin : PySem.W.excIn K C He.veBase "ValueError.__new__" = true
  kC : PySem.W.keepIn K (.ref C) = true
  exC : PySem.W.subIn K (.ref C) (.type "BaseException") = some true
  tyC : PySem.W.typeIn K (.ref C) = some (.type "type")
  mgC : mg x = some (.ref C)
end
/-- an own class, by its name alone -/
structure CalC (mg : Str → Option Value) (x : Str) where
  C : Addr
  gC : mg x = some (.ref C)
theorem CalE.gC {P : Program} {w : World} {K : PySem.W.Frag} {mg : Str → Option Value} {base : Heap} {x f : Str} (D : CalE P w K mg base x f) : mg x = some (.ref D.C) := D.T.mgC
theorem CalP.gC {K : PySem.W.Frag} {mg : Str → Option Value} {x : Str} (D : CalP K mg x) : mg x = some (.ref D.C) := D.mgC
section
variable {X : Cx} {CX : CXT} {k : Nat} {x f : Str} {ps : List Str} {sp : Sp} {p pos kpos : Pos} {e : Expr} {es : List Expr} {t : TA} {te : TE} {E : XK}
theorem pe_cal (D : Cal X.prog X.w X.K X.mg X.base CX k x ps sp) (hr : Room k X.A) (hx : Passes CX X E) (ha : PA X (e :: es) t) (hg : Gl X x := by rfl)
    (hdb : (x == ("__debug__" : Str)) = false := by decide)
    (he : starEach (e :: es) X.env = (false, eval e X.env) :: starEach es X.env := by rfl)
    (hpl : (backTo pos (starEach es X.env)).any (·.1) = false := by rfl) :
    PE X (.Call (.Name x p) (e :: es) [] pos) (tCall sp [] E t) := pe_call D.ok hr hg D.gl D.kp D.b .nil hx ha hdb he hpl
theorem pe_cal0 (D : Cal X.prog X.w X.K X.mg X.base CX k x ps sp) (hr : Room k X.A) (hx : Passes CX X E) (hg : Gl X x := by rfl)
    (hdb : (x == ("__debug__" : Str)) = false := by decide) :
    PE X (.Call (.Name x p) [] [] pos) (tCall sp [] E tNil) := pe_call0 D.ok hr hg D.gl D.kp D.b .nil hx hdb
theorem pe_calG (hgd : X.A.guards = some []) (D : CalG X.prog X.w X.K X.mg X.base CX k x ps sp) (hr : Room k X.A) (hx : Passes CX X E) (ha : PA X (e :: es) t) (hg : Gl X x := by rfl)
    (hdb : (x == ("__debug__" : Str)) = false := by decide)
    (he : starEach (e :: es) X.env = (false, eval e X.env) :: starEach es X.env := by rfl)
    (hpl : (backTo pos (starEach es X.env)).any (·.1) = false := by rfl) :
    PE X (.Call (.Name x p) (e :: es) [] pos) (tCall sp [] E t) := pe_callG hgd D.ok hr hg D.gl D.kp D.b .nil hx ha hdb he hpl
theorem pe_calG0 (hgd : X.A.guards = some []) (D : CalG X.prog X.w X.K X.mg X.base CX k x ps sp) (hr : Room k X.A) (hx : Passes CX X E) (hg : Gl X x := by rfl)
    (hdb : (x == ("__debug__" : Str)) = false := by decide) :
    PE X (.Call (.Name x p) [] [] pos) (tCall sp [] E tNil) := pe_callG0 hgd D.ok hr hg D.gl D.kp D.b .nil hx hdb
theorem pe_mkE (D : CalE X.prog X.w X.K X.mg X.base x f) (hr : Room 2 X.A) (he : PE X e te) (hg : Gl X x := by rfl)
    (hdb : (x == ("__debug__" : Str)) = false := by decide)
    (hse : starEach (e :: []) X.env = (false, eval e X.env) :: starEach [] X.env := by rfl)
    (hpl : (backTo pos (starEach [] X.env)).any (·.1) = false := by rfl) :
    PE X (.Call (.Name x p) [e] [] pos) (tErr D.C f te) := pe_err D.T D.ok hr D.b hg he hdb hse hpl
theorem pe_mkEK (D : CalE X.prog X.w X.K X.mg X.base x f) (hr : Room 2 X.A) (he : PE X e te) (hg : Gl X x := by rfl)
    (hdb : (x == ("__debug__" : Str)) = false := by decide)
    (hall : (backToKw pos (keywordEach [⟨some f, e, kpos⟩] X.env)).all (·.1.isSome) = true := by rfl)
    (hks : (backToKw pos (keywordEach [⟨some f, e, kpos⟩] X.env)).filterMap (·.1) = [f] := by rfl)
    (hpl : ((backTo pos (starEach [] X.env)).any (·.1) || (backToKw pos (keywordEach [⟨some f, e, kpos⟩] X.env)).any (·.1.isNone)) = false := by rfl) :
    PE X (.Call (.Name x p) [] [⟨some f, e, kpos⟩] pos) (tErr D.C f te) := pe_errK D.T D.ok hr D.b hg he hdb hall hks hpl
/-- a plain error, made with nothing -/
def tExc0 (C : Addr) : TE := fun _ H Q => ∀ a H2, H a = none → Same H H2 → H2 a = some (ExO (.ref C) a) → Q (.ref a) H2
theorem pe_mkP0 (D : CalP X.K X.mg x) (hg : Gl X x := by rfl) (hdb : (x == ("__debug__" : Str)) = false := by decide) :
    PE X (.Call (.Name x p) [] [] pos) (tExc0 D.C) := by
  constructor
  intro pins s σ H Q I h
  refine wpAny_Call_Name_kw (ld_glob I hg D.mgC ?_ hdb)
  refine PySem.W.callWith_K0 I.kIn D.kC ?_
  obtain ⟨bm, N, nm, qn, bs, hdct, sn, sub, ab, col, dd, k0, k1, k2, k3, k5, mN, hC, hN, hni, T⟩ := exc_obj I.kIn D.xin
  refine wpAny_call_exc_subT PySem.F.excBase_ValueError T hC hN hni (fun h' a hm => ?_) (Nat.zero_le _)
  have hn : H a = none := I.hok.gone hm.new
  obtain ⟨t, ht, _, _⟩ := hm.there
  exact ⟨.ref a, upd H a (ExO (.ref D.C) a), I.laidN hm.keeps hm.new hn (exO_ok ht ⟨rfl, rfl⟩ rfl rfl rfl (show 4 < 6 by decide)), rfl, h a _ hn (Same.upd hn) upd_same⟩
end
end My

set_option Elab.async false
set_option linter.all false
set_option maxRecDepth 100000
set_option maxHeartbeats 4000000
/-! ## the law's own draws: what is promised of them, whatever the script -/
namespace My
open PySem PySem.Spec PyProof.Rows L2
theorem fun_okG {P : Program} {w : World} {K : PySem.W.Frag} {mg : Str → Option Value} {base : Heap} {x qual : Str} {params : Arguments} {body : List Stmt}
    {scope : Scope} {dvs : List V} {kws : List (Str × V)} {f : Addr} {fd : FuncData} {CX : CXT} {N ps : List Str} {k : Nat} {sp : Sp}
    (F : FunD K x qual params body scope dvs kws f fd) (S : FnScope N ps scope) (len : ∀ vs H Q E, sp vs H Q E → vs.length = ps.length)
    (hbody : ∀ (cdv : Value) (A : Around) (outer : List Env) (s : Shared) (H : Hp) (vs : List V) (Q : VK) (E : XK), A.guards = some [] →
      Room k (A.deeper (envOfC qual scope s.heap.objs.size f cdv)) → sp vs H Q E →
      ∃ t, PSs (cxOf CX P w K mg base N qual scope f cdv A outer s H E) body t ∧ t { nx := fun _ H' => Q .non H', rt := Q } (start N vs) H) :
    FnG P w K mg base CX (k + 1) f fd ps sp := by
  obtain ⟨oc, od, dV, kV, doc, pm, an, cdv, ct, osl, rfl, lk, hcd, _, _⟩ := F.ex
  exact fnG_of lk hcd S len (fun A outer s H vs Q E => hbody cdv A outer s H vs Q E)
abbrev FnP (K : PySem.W.Frag) (x : Str) (st : Stmt) (f : Addr) (fd : FuncData) : Prop := FunD K x x (defArgs st) (defBody st) (defScope st) [] [] f fd
theorem powW {i j : Int} (h : i.natAbs < 2 ^ 4000) (h0 : 0 ≤ j) (h3 : j ≤ 200) : CPowW i j := by
  refine ⟨h0, ?_⟩
  have x := PySem.Flt.log2_lt_of (by decide : 0 < 4000) h
  have y : ((i.natAbs.log2 + 1 : Nat) : Int) ≤ 4000 := by omega
  refine Int.le_trans (Int.mul_le_mul_of_nonneg_right y h0) ?_
  refine Int.le_trans (Int.mul_le_mul_of_nonneg_left h3 (by decide)) (by decide)
/-- b holds the numbers of a draw, after at most c draws -/
def BoxAt (H : Hp) (b : Addr) (c : Nat) : Prop := ∃ x y z : Int, H b = some (.lst [.int x, .int y, .int z]) ∧ 0 ≤ x ∧ 0 ≤ y ∧ y ≤ (c : Int) ∧ 0 ≤ z ∧ z ≤ 10000000
theorem BoxAt.same {H H' : Hp} {b : Addr} {c : Nat} (h : BoxAt H b c) (s : Same H H') : BoxAt H' b c := by
  obtain ⟨x, y, z, h, r⟩ := h
  exact ⟨x, y, z, s _ _ h, r⟩
theorem BoxAt.mono {H : Hp} {b : Addr} {c d : Nat} (h : BoxAt H b c) (e : c ≤ d) : BoxAt H b d := by
  obtain ⟨x, y, z, h, h1, h2, h3, r⟩ := h
  exact ⟨x, y, z, h, h1, h2, by omega, r⟩
def spCel (K : PySem.W.Frag) : Sp := fun vs H Q _ => ∃ (a : Addr) (ns : List Int) (k : Int), vs = [.ref a, .int k] ∧ SqL K H a (ns.map V.int) ∧ ns.length ≤ 63 ∧ 0 ≤ k ∧ k ≤ 63 ∧ ∀ z, Q (.int z) H
def spBx (K : PySem.W.Frag) : Sp := fun vs H Q _ => ∃ (a : Addr) (ns : List Int) (k : Int), vs = [.ref a, .int k] ∧ SqL K H a (ns.map V.int) ∧ ns.length ≤ 63 ∧ 0 ≤ k ∧ k ≤ 63 ∧
  ∀ p H', H p = none → Same H H' → BoxAt H' p 0 → Q (.ref p) H'
def spTk : Sp := fun vs H Q _ => ∃ (b : Addr) (m : Int) (c : Nat), vs = [.ref b, .int m] ∧ BoxAt H b c ∧ c ≤ 1000000 ∧ 0 < m ∧ m.natAbs < 2 ^ 4000 ∧
  ∀ r H', 0 ≤ r → r < m → SameX b H H' → BoxAt H' b (c + 1) → Q (.int r) H'
end My

set_option Elab.async false
set_option linter.all false
set_option maxRecDepth 100000
set_option maxHeartbeats 4000000
/-! ## loops and comprehensions over lists, in short -/
namespace My
open PySem PySem.Spec PyProof.Rows L2
section
variable {σ : L2.St} {H : Hp} {Q : VK} {K : PySem.W.Frag} {D : Ends} {ta tb te tl : TE} {tt : TT} {tx : TS} {i : Nat}
theorem wipe_one (σ : L2.St) (i : Nat) (x : V) : wipe ((wipe σ [i]).set i (some x)) [i] = wipe σ [i] := by
  show (((σ.set i none).set i (some x)).set i none) = σ.set i none
  rw [List.set_set, List.set_set]
/-- a comprehension over a list, behind its source -/
def LC (K : PySem.W.Frag) (i : Nat) (tt : TT) (te : TE) (σ : L2.St) (x : V) (H : Hp) (Q : VK) : Prop :=
  ∃ a', x = .ref a' ∧ (∃ ys, SqL K H a' ys) ∧ ∀ D, H D = none → ∃ W : Nat → Nat → Hp → Prop, (∃ m, W 0 m (upd H D (.lst []))) ∧ ∀ n m H, W n m H →
      ((Itl K a').stop n H ∧ Q (.ref D) H) ∨ ((Itl K a').go n H ∧ ∃ Nx : Hp → Prop, (∀ H', Nx H' → ∃ m', m' < m ∧ W (n + 1) m' H') ∧ ∀ x H', (Itl K a').yld n H x H' →
        gName i x (wipe σ [i]) H' fun σ2 H2 => wipe σ2 [i] = wipe σ [i] ∧ tt σ2 H2 fun b H3 =>
          if b = true then te σ2 H3 fun y H4 => ∃ acc, H4 D = some (.lst acc) ∧ acc.length < sizeLine ∧ Nx (upd H4 D (.lst (acc ++ [y]))) else Nx H3)
theorem r_lc {tt : TT} {vs : List Nat} (h : tl σ H fun x H1 => LC K i tt te σ x H1 Q) (hv : vs = [i] := by rfl) : tLc (iList K tl) (gName i) tt te vs σ H Q := by
  subst hv
  exact h
/-- [f x for x in xs if b x], test and element by the item alone -/
theorem r_lcA {a : Addr} {xs : List V} (b : V → Bool) (f : V → V) (hS : SqL K H a xs) (hn : xs.length ≤ 10000)
    (ht : ∀ x H1, x ∈ xs → Same H H1 → ∀ R : Bool → Hp → Prop, (∀ H2, Same H1 H2 → R (b x) H2) → tt ((wipe σ [i]).set i (some x)) H1 R)
    (he : ∀ x H1, x ∈ xs → b x = true → Same H H1 → ∀ R : VK, (∀ H2, Same H1 H2 → R (f x) H2) → te ((wipe σ [i]).set i (some x)) H1 R)
    (q : ∀ p H', H p = none → Same H H' → H' p = some (.lst ((xs.filter b).map f)) → Q (.ref p) H') :
    LC K i tt te σ (.ref a) H Q := by
  refine ⟨a, rfl, ⟨xs, hS⟩, fun D hD => ?_⟩
  refine lc_list (K := K) (a := a) (xs := xs) (fun n H' => Same H H' ∧ H' D = some (.lst (((xs.take n).filter b).map f)))
    ⟨Same.upd hD, upd_same⟩ (fun n H' _ h => h.1.seq hS) ?_ ?_
  · rintro n x H' hx ⟨s, h⟩
    show wipe ((wipe σ [i]).set i (some x)) [i] = wipe σ [i] ∧ _
    have hm : x ∈ xs := List.mem_of_getElem? hx
    have hlt : n < xs.length := (List.getElem?_eq_some_iff.mp hx).1
    have ex : xs.take (n + 1) = xs.take n ++ [x] := by
      rw [List.take_add_one, hx]
      rfl
    refine ⟨wipe_one σ i x, ht x H' hm s _ (fun H2 s2 => ?_)⟩
    cases eb : b x with
    | false =>
      refine iteF ⟨s.trans s2, ?_⟩
      rw [ex, List.filter_append, List.filter_cons_of_neg (by rw [eb]; decide), List.filter_nil, List.append_nil]
      exact s2 _ _ h
    | true =>
      refine iteT (he x H2 hm eb (s.trans s2) _ (fun H4 s4 => ?_))
      refine ⟨_, s4 _ _ (s2 _ _ h), ?_, ?_, ?_⟩
      · refine Nat.lt_of_le_of_lt (m := 10000) ?_ (by decide)
        rw [List.length_map]
        exact Nat.le_trans (List.length_filter_le _ _) (Nat.le_trans (by rw [List.length_take]; exact Nat.min_le_right _ _) hn)
      · intro c o hc
        rw [upd_ne (ne_of_none hc hD)]
        exact s4 _ _ (s2 _ _ (s _ _ hc))
      · rw [upd_same, ex, List.filter_append, List.filter_cons_of_pos eb, List.filter_nil, List.map_append]
        rfl
  · rintro H' ⟨s, h⟩
    rw [List.take_length] at h
    exact q D H' hD s h
theorem r_rng1 {R : It → Hp → Prop} {j : Int} (h1 : -(2 ^ 62) ≤ j) (h2 : j < 2 ^ 62) (q : R (Itr 0 j.toNat) H) :
    ∃ j' : Int, [V.int j] = [.int j'] ∧ -(2 ^ 62) ≤ j' ∧ j' < 2 ^ 62 ∧ R (Itr 0 j'.toNat) H := ⟨j, rfl, h1, h2, q⟩
end
end My

set_option Elab.async false
set_option linter.all false
set_option maxRecDepth 100000
set_option maxHeartbeats 4000000
/-! ## what is known of a value stays known -/
namespace My
open PySem PySem.Spec PyProof.Rows L2
section
variable {K : PySem.W.Frag} {H H' : Hp}
mutual
theorem Dp_same (s : Same H H') : ∀ (d : PyData) (v : V), Dp K H v d → Dp K H' v d
  | .none, _, h => by cases h; exact .non
  | .bool b, _, h => by cases h; exact .bl b
  | .int i, _, h => by cases h; exact .int i
  | .str x, _, h => by cases h; exact .str x
  | .list ds, _, h => by
    cases h with
    | lst hs ha => exact .lst (s.seq hs) (DpAll_same s ds _ ha)
  | .tuple ds, _, h => by
    cases h with
    | tup hs ha => exact .tup (SqT_same s hs) (DpAll_same s ds _ ha)
  | .dict _, _, h => by cases h
theorem DpAll_same (s : Same H H') : ∀ (ds : List PyData) (vs : List V), DpAll K H vs ds → DpAll K H' vs ds
  | [], _, h => by cases h; exact .nil
  | d :: ds, _, h => by
    cases h with
    | cons h1 h2 => exact .cons (Dp_same s d _ h1) (DpAll_same s ds _ h2)
end
theorem Dv.same (s : Same H H') {v : V} {d : PyData} (h : Dv K H v d) : Dv K H' v d := by
  cases h with
  | of h n => exact .of (Dp_same s d v h) n
  | dic h e => exact .dic (s _ _ h) e
theorem TyOf_same (s : Same H H') {v : V} {t : Value} (h : TyOf K H v t) : TyOf K H' v t := by
  cases h with
  | non => exact .non
  | bl b => exact .bl b
  | int i => exact .int i
  | str x => exact .str x
  | flt x => exact .flt x
  | lst e => exact .lst (s _ _ e)
  | frz e => exact .frz (s _ _ e)
  | tup e => exact .tup (s _ _ e)
  | dK e => exact .dK (s _ _ e)
  | dT e => exact .dT (s _ _ e)
  | ins e cl ha hn ht hm => exact .ins (s _ _ e) cl ha hn ht hm
theorem TyX_same (s : Same H H') {v : V} {t : Value} (h : TyX K H v t) : TyX K H' v t := by
  cases h with
  | base h => exact .base (TyOf_same s h)
  | byt b => exact .byt b
  | set e => exact .set (s _ _ e)
  | kList e c => exact .kList e c
  | kTuple e c => exact .kTuple e c
  | kDict e c => exact .kDict e c
  | fTuple e => exact .fTuple (s _ _ e)
  | fDict e => exact .fDict (s _ _ e)
/-- v can be shown, and it is known whether it is a bool -/
def Shw (K : PySem.W.Frag) (H : Hp) (v : V) : Prop := ∃ d t b, Dv K H v d ∧ d.showable = true ∧ d.depth ≤ 40 ∧ d.shown.length ≤ 100000 ∧ TyX K H v t ∧ PySem.W.kitOne K t (.type "bool") = some b
theorem Shw.same (s : Same H H') {v : V} (h : Shw K H v) : Shw K H' v := by
  obtain ⟨d, t, b, h1, h2, h3, h4, h5, h6⟩ := h
  exact ⟨d, t, b, h1.same s, h2, h3, h4, TyX_same s h5, h6⟩
theorem shw_non : Shw K H .non := ⟨.none, _, false, .of .non rfl, rfl, Nat.zero_le _, by decide +kernel, .base .non, kit_ty (by decide +kernel)⟩
theorem shw_bl (b : Bool) : Shw K H (.bl b) := ⟨.bool b, _, true, .of (.bl b) rfl, rfl, Nat.zero_le _, by cases b <;> decide +kernel, .base (.bl b), kit_ty (by decide +kernel)⟩
theorem shw_int (i : Int) (h : (PyData.int i).showable = true) (h2 : (PyData.int i).shown.length ≤ 100000) : Shw K H (.int i) :=
  ⟨.int i, _, false, .of (.int i) rfl, h, Nat.zero_le _, h2, .base (.int i), kit_ty (by decide +kernel)⟩
theorem shw_str (x : Str) (h2 : (PyData.str x).shown.length ≤ 100000) : Shw K H (.str x) :=
  ⟨.str x, _, false, .of (.str x) rfl, rfl, Nat.zero_le _, h2, .base (.str x), kit_ty (by decide +kernel)⟩
theorem shw_lst {p : Addr} {xs : List V} {ds : List PyData} (h : H p = some (.lst xs)) (ha : DpAll K H xs ds) (n : (PyData.list ds).hasDict = false) (h1 : (PyData.list ds).showable = true)
    (h2 : (PyData.list ds).depth ≤ 40) (h3 : (PyData.list ds).shown.length ≤ 100000) : Shw K H (.ref p) :=
  ⟨.list ds, _, false, .of (.lst (SqL.of h) ha) n, h1, h2, h3, .base (.lst h), kit_ty (by decide +kernel)⟩
theorem shw_tup {p : Addr} {xs : List V} {ds : List PyData} (h : H p = some (.tup xs)) (ha : DpAll K H xs ds) (n : (PyData.tuple ds).hasDict = false) (h1 : (PyData.tuple ds).showable = true)
    (h2 : (PyData.tuple ds).depth ≤ 40) (h3 : (PyData.tuple ds).shown.length ≤ 100000) : Shw K H (.ref p) :=
  ⟨.tuple ds, _, false, .of (.tup (SqT.of h) ha) n, h1, h2, h3, .base (.tup h), kit_ty (by decide +kernel)⟩
theorem shw_dic {p : Addr} {kvs : List (Key × V)} {l : List (PyData × PyData)} (h : H p = some (.dK kvs)) (e : pairsD kvs = some l) (h1 : (PyData.dict l).showable = true)
    (h2 : (PyData.dict l).depth ≤ 40) (h3 : (PyData.dict l).shown.length ≤ 100000) : Shw K H (.ref p) :=
  ⟨.dict l, _, false, .dic h e, h1, h2, h3, .base (.dK h), kit_ty (by decide +kernel)⟩
theorem r_repr {Q : VK} {v : V} {d : PyData} (h1 : Dv K H v d) (h2 : d.showable = true) (h3 : d.depth ≤ 40) (h4 : d.shown.length ≤ 100000) (q : Q (.str d.shown) H) :
    rRepr K [v] H Q := ⟨v, d, rfl, h1, h2, h3, Nat.le_trans h4 (by decide), q⟩
theorem r_isiT {Q : VK} {v : V} {n : String} {t : Value} {b : Bool} (h : TyX K H v t) (e : PySem.W.kitOne K t (.type n) = some b) (q : Q (.bl b) H) :
    rIsi K [v, .ty n] H Q := ⟨v, .ty n, t, .type n, b, rfl, .ty n, h, e, q⟩
theorem r_eqD {Q : VK} {x y : V} {d e : PyData} (h1 : Dp K H x d) (h2 : Dp K H y e) (h3 : SeqAt.shaped d = true) (h4 : SeqAt.shaped e = true) (q : Q (.bl (PyData.eqv d e)) H) :
    rEqD K x y H Q := ⟨d, e, h1, h2, h3, h4, q⟩
/-- a place within a list: something of it -/
theorem atI_mem {xs : List V} {i : Int} (h0 : 0 ≤ i) (h : i < xs.length) : ∃ v, atI xs i = some v ∧ v ∈ xs := by
  obtain ⟨j, rfl⟩ := Int.eq_ofNat_of_zero_le h0
  have hj : j < xs.length := by omega
  exact ⟨xs[j], atI_nat (List.getElem?_eq_getElem hj), List.getElem_mem hj⟩
def isBl : V → Bool
  | .bl _ => true
  | _ => false
def isT : V → Bool
  | .bl b => b
  | _ => false
theorem bl_of : ∀ {v : V}, isBl v = true → ∃ b, v = .bl b
  | .bl b, _ => ⟨b, rfl⟩
  | .non, h => by cases h
  | .int _, h => by cases h
  | .str _, h => by cases h
  | .byt _, h => by cases h
  | .flt _, h => by cases h
  | .ref _, h => by cases h
  | .ty _, h => by cases h
end
end My

set_option Elab.async false
set_option linter.all false
set_option maxRecDepth 100000
set_option maxHeartbeats 4000000
/-! ## the rules that name the written part, with its name given (for comprehensions) -/
namespace My
open PySem PySem.Spec PyProof.Rows L2
section
variable {X : Cx} (K : PySem.W.Frag) (hK : X.K = K)
include hK
theorem isErrA : CallR X (.builtin "isinstance") (rIsErr K) := by subst hK; exact call_isErr
theorem isiA : CallR X (.builtin "isinstance") (rIsi K) := by subst hK; exact call_isi
theorem lenA : CallR X (.builtin "len") (rLenQ K) := by subst hK; exact cl_len
theorem listA : CallR X (.type "list") (rListOf K) := by subst hK; exact cl_list
theorem reprA (hg : X.A.guards = some []) (hu : X.A.units + 64 < cLine) : CallR X (.builtin "repr") (rRepr K) := by subst hK; exact call_reprD hg hu
theorem ixLA : IxR X (rIxL K) := by subst hK; exact ix_list
theorem ixTA : IxR X (rIxT K) := by subst hK; exact ix_tup
theorem eqDA (hu : X.A.units + 64 < cLine) : OpR X (compareOp .Eq) (rEqD K) := by subst hK; exact op_eqD hu
theorem neDA (hu : X.A.units + 64 < cLine) : OpR X (compareOp .NotEq) (rNeD K) := by subst hK; exact op_neD hu
theorem inA : OpR X (compareOp .In) (rIn K false) := by subst hK; exact op_in_seq
theorem notInA : OpR X (compareOp .NotIn) (rIn K true) := by subst hK; exact op_notIn_seq
theorem slLA : SlR X (rSlL K) := by subst hK; exact sl_list
theorem pe_errFA {e : Expr} {te : TE} {f : Str} {pos : Pos} (he : PE X e te) (hb : attributeBase e f X.env (eval e X.env) = eval e X.env := by rfl) :
    PE X (.Attribute e f pos) (tErrF K f te) := by subst hK; exact pe_errF he hb
theorem pe_fldA {e : Expr} {te : TE} {f : Str} {pos : Pos} (he : PE X e te) (hb : attributeBase e f X.env (eval e X.env) = eval e X.env := by rfl) :
    PE X (.Attribute e f pos) (tFld K te f) := by subst hK; exact pe_fld he hb
theorem pi_listA {tg e : Expr} {te : TE} (he : PE X e te) : PI X tg e (iList K te) := by subst hK; exact pi_list he
end
section
variable {σ : L2.St} {H : Hp} {Q : VK} {K : PySem.W.Frag} {te : TE} {tt : TT} {i : Nat}
/-- [.. for x in xs if b], where no test holds -/
theorem r_lcN {a : Addr} {xs : List V} (hS : SqL K H a xs) (hn : xs.length ≤ 10000)
    (ht : ∀ x H1, x ∈ xs → Same H H1 → ∀ R : Bool → Hp → Prop, (∀ H2, Same H1 H2 → R false H2) → tt ((wipe σ [i]).set i (some x)) H1 R)
    (q : ∀ p H', H p = none → Same H H' → H' p = some (.lst []) → Q (.ref p) H') : LC K i tt te σ (.ref a) H Q := by
  refine r_lcA (fun _ => false) id hS hn ht (fun x H1 _ h => by cases h) (fun p H' n s h => q p H' n s ?_)
  have e : List.map id (List.filter (fun _ : V => false) xs) = [] := by
    rw [List.filter_eq_nil_iff.mpr (fun _ _ => Bool.false_ne_true)]
    rfl
  rw [e] at h
  exact h
theorem r_eqNil {p q : Addr} (h1 : H p = some (.lst [])) (h2 : H q = some (.lst [])) (k : Q (.bl true) H) : rEqD K (.ref p) (.ref q) H Q :=
  r_eqD (d := .list []) (e := .list []) (.lst (SqL.of h1) .nil) (.lst (SqL.of h2) .nil) (by decide) (by decide) (by
    have e : PyData.eqv (.list []) (.list []) = true := by decide
    rw [e]
    exact k)
end
end My

set_option Elab.async false
set_option linter.all false
set_option maxRecDepth 100000
set_option maxHeartbeats 4000000
/-! ## for loops -/
namespace My
open PySem PySem.Spec PyProof.Rows L2
section
variable {σ : L2.St} {H : Hp} {K : PySem.W.Frag} {D : Ends} {tj tl : TE} {g : TG} {tb : TS}
/-- the loop's walk, its source being walked -/
def ForW (J : It) (g : TG) (tb : TS) (D : Ends) (σ : L2.St) (H1 : Hp) : Prop :=
  ∃ W : Nat → Nat → L2.St → Hp → Prop, (∃ m, W 0 m σ H1) ∧ ∀ i m σ H, W i m σ H →
    (J.stop i H ∧ D.nx σ H) ∨ (J.go i H ∧ ∃ N : L2.St → Hp → Prop, (∀ σ' H', N σ' H' → ∃ m', m' < m ∧ W (i + 1) m' σ' H') ∧
      ∀ x H', J.yld i H x H' → g x σ H' fun σ2 H2 => tb { D with nx := N, ct := N, bk := D.nx } σ2 H2)
def FR (g : TG) (tb : TS) (D : Ends) (σ : L2.St) (x : V) (H : Hp) : Prop := ∃ j : Int, x = .int j ∧ -(2 ^ 62) ≤ j ∧ j < 2 ^ 62 ∧ ForW (Itr 0 j.toNat) g tb D σ H
def FL (K : PySem.W.Frag) (g : TG) (tb : TS) (D : Ends) (σ : L2.St) (x : V) (H : Hp) : Prop := ∃ a, x = .ref a ∧ (∃ xs, SqL K H a xs) ∧ ForW (Itl K a) g tb D σ H
theorem r_forR (h : tj σ H fun x H1 => FR g tb D σ x H1) : tFor (iRng1 (tCons tj tNil)) g tb D σ H := by
  have e : (fun (x : V) (H1 : Hp) => FR g tb D σ x H1) = fun x H1 => ∃ j : Int, [x] = [.int j] ∧ -(2 ^ 62) ≤ j ∧ j < 2 ^ 62 ∧ ForW (Itr 0 j.toNat) g tb D σ H1 := by
    funext x H1
    apply propext
    constructor
    · rintro ⟨j, rfl, r⟩
      exact ⟨j, rfl, r⟩
    · rintro ⟨j, ex, r⟩
      cases ex
      exact ⟨j, rfl, r⟩
  rw [e] at h
  exact h
theorem r_forL (h : tl σ H fun x H1 => FL K g tb D σ x H1) : tFor (iList K tl) g tb D σ H := h
/-- for i in range(n): what holds of the turn, the slots, the heap -/
theorem r_range (n : Nat) (Pv : Nat → L2.St → Hp → Prop) {j : Int} (hj : j = (n : Int)) (hn : n ≤ 1000000) (h0 : Pv 0 σ H)
    (hs : ∀ i σ H, i < n → Pv i σ H → g (.int (i : Int)) σ H fun σ2 H2 => tb { D with nx := Pv (i + 1), ct := Pv (i + 1), bk := D.nx } σ2 H2)
    (hd : ∀ σ H, Pv n σ H → D.nx σ H) : FR g tb D σ (.int j) H := by
  subst hj
  refine ⟨(n : Int), rfl, by omega, by omega, ?_⟩
  show ForW (Itr 0 n) g tb D σ H
  refine for_range (lo := 0) (n := n) Pv h0 (fun i σ H hi p => ?_) hd
  rw [Int.zero_add]
  exact hs i σ H hi p
theorem r_each {a : Addr} {xs : List V} (Pv : Nat → L2.St → Hp → Prop) (hS : SqL K H a xs) (h0 : Pv 0 σ H) (hl : ∀ i σ H, i ≤ xs.length → Pv i σ H → SqL K H a xs)
    (hs : ∀ i x σ H, xs[i]? = some x → Pv i σ H → g x σ H fun σ2 H2 => tb { D with nx := Pv (i + 1), ct := Pv (i + 1), bk := D.nx } σ2 H2)
    (hd : ∀ σ H, Pv xs.length σ H → D.nx σ H) : FL K g tb D σ (.ref a) H :=
  ⟨a, rfl, ⟨xs, hS⟩, for_list (xs := xs) Pv h0 hl hs hd⟩
theorem BoxAt.ne {b p : Addr} {c : Nat} (h : BoxAt H b c) (n : H p = none) : p ≠ b := by
  obtain ⟨x, y, z, h, _⟩ := h
  exact (ne_of_none h n).symm
end
end My

set_option Elab.async false
set_option linter.all false
set_option maxRecDepth 100000
set_option maxHeartbeats 4000000
/-! ## from the head's facts to callees -/
namespace My
open PySem PySem.Spec PyProof.Rows L2
section
variable {P : Program} {w : World} {K : PySem.W.Frag} {mg : Str → Option Value} {base : Heap} {h : Heap}
theorem fGlo_ok (X : K.In h) (G : h.Ns mainGlobals mg) {x : Str} (c : fGlo x K = true) : mg x = some (.ref (He.ga K x)) := He.glo_ok X G c
theorem fFree_ok (X : K.In h) (G : h.Ns mainGlobals mg) {x : Str} (c : fFree x K = true) : mg x = none := He.free_ok X G c
theorem errB_of {x qual f : Str} {params : Arguments} {body : List Stmt} {scope : Scope} {g : Addr} {fd : FuncData} (F : FunD K x qual params body scope [] [] g fd)
    (h1 : ∀ (kV doc pm : Value) (an : Option Addr) (cdv ct v u : Value), bindArgs (PySem.W.fnOf x qual params body scope .none kV doc pm an cdv ct) ⟨[v, u], []⟩ = pure [(("self" : Str), v), (f, u)])
    (h2 : ∀ (kV doc pm : Value) (an : Option Addr) (cdv ct v u : Value), bindArgs (PySem.W.fnOf x qual params body scope .none kV doc pm an cdv ct) ⟨[v], [(f, u)]⟩ = pure [(("self" : Str), v), (f, u)]) : ErrB fd f := by
  obtain ⟨oc, od, dV, kV, doc, pm, an, cdv, ct, osl, rfl, lk, hcd, hD, hK⟩ := F.ex
  rcases hD with ⟨_, rfl⟩ | ⟨e, _⟩
  · exact ⟨fun s v u => .of_eq (h1 kV doc pm an cdv ct v u), fun s v u => .of_eq (h2 kV doc pm an cdv ct v u)⟩
  · exact absurd rfl e
def calP_of (X : K.In h) (G : h.Ns mainGlobals mg) {x : Str} (c : fExc x K = true) : CalP K mg x := by
  have c' := c
  unfold fExc at c'
  have c1 := (Bool.and_eq_true_iff.mp c').1
  have c2 := (Bool.and_eq_true_iff.mp (Bool.and_eq_true_iff.mp c').2).1
  have c3 := (Bool.and_eq_true_iff.mp (Bool.and_eq_true_iff.mp c').2).2
  have z := He.exc_ok c1
  exact ⟨He.ga K x, (excB_ok c2).1, z.1, z.2.1, z.2.2.1, z.2.2.2, He.glo_ok X G c3⟩
end
end My

set_option Elab.async false
set_option linter.all false
set_option maxRecDepth 100000
set_option maxHeartbeats 8000000
/-! the walk over a reading: every step that asks nothing -/
local macro_rules | `(tactic| walk_at "rd") => `(tactic| (repeat (first
  | ((with_reducible apply My.r_var); exact rfl)
  | with_reducible refine My.r_c ?_
  | with_reducible refine My.r_seq ?_
  | with_reducible refine My.r_asg ?_
  | with_reducible refine My.r_gname ?_
  | with_reducible refine My.r_op ?_
  | with_reducible refine My.r_I0 ?_
  | with_reducible refine My.r_un ?_
  | with_reducible refine My.r_U ?_
  | with_reducible refine My.r_cb ?_
  | with_reducible refine My.r_call ?_
  | with_reducible refine My.r_cons ?_
  | with_reducible refine My.r_nil ?_
  | with_reducible refine My.r_bl ?_
  | with_reducible refine My.r_test ?_
  | with_reducible refine My.r_B ?_
  | with_reducible refine My.r_and ?_
  | with_reducible refine My.r_or ?_
  | with_reducible refine My.r_not ?_
  | with_reducible refine My.r_andV ?_
  | with_reducible refine My.r_orV ?_
  | with_reducible refine My.r_notV ?_
  | with_reducible refine My.r_if ?_
  | with_reducible refine My.r_lst ?_
  | with_reducible refine My.r_tup ?_
  | with_reducible refine My.r_tErr ?_
  | with_reducible refine My.r_tErrF ?_
  | with_reducible refine My.r_tFld ?_
  | with_reducible refine My.r_ret ?_
  | with_reducible refine My.r_retN ?_
  | with_reducible refine My.r_next ?_
  | with_reducible refine My.r_drop ?_
  | with_reducible refine My.r_ifS ?_
  | with_reducible refine My.r_brk ?_
  | with_reducible refine My.r_cont ?_
  | with_reducible refine My.r_gSub ?_
  | with_reducible refine My.r_int ?_
  | with_reducible refine My.r_abs ?_
  | with_reducible refine My.r_max2 ?_
  | with_reducible refine My.r_min2 ?_
  | ((with_reducible apply My.r_lenL); assumption))))
/-! a fact of a heap, carried along -/
local macro_rules | `(tactic| walk_at "at") => `(tactic| first
  | assumption
  | (refine My.Same.get (by assumption) ?_; walk_at "at"))
/-! a heap keeps what an elder one had -/
local macro_rules | `(tactic| walk_at "same") => `(tactic| first
  | assumption
  | exact L2.Same.refl _
  | (refine L2.Same.trans ?_ (by assumption); walk_at "same"))
local macro_rules | `(tactic| walk_at "go") => `(tactic| ((try dsimp only [L2.cxOf, L2.Cx.nox]); walk_at "rd"))

namespace K01
open PySem PySem.Spec PyProof.Rows L2 My
def top (i : Nat) : Stmt := PySem.Challenge.pw_fairbatches_k01_errors.main.body.getD i (.Pass ⟨0, 0, 0, 0⟩)
abbrev s__law_cell : Stmt := top 25
abbrev N__law_cell : List Str := ["_law_script", "_law_k"]
theorem sc__law_cell : FnScope N__law_cell ["_law_script", "_law_k"] (defScope s__law_cell) := ⟨rfl, rfl, rfl, by decide +kernel, rfl, by decide +kernel, by decide +kernel⟩
abbrev s__law_box : Stmt := top 26
abbrev N__law_box : List Str := ["_law_script", "_law_k"]
theorem sc__law_box : FnScope N__law_box ["_law_script", "_law_k"] (defScope s__law_box) := ⟨rfl, rfl, rfl, by decide +kernel, rfl, by decide +kernel, by decide +kernel⟩
abbrev s__law_take : Stmt := top 27
abbrev N__law_take : List Str := ["_law_box_here", "_law_many", "_law_digit", "_law_mixed"]
theorem sc__law_take : FnScope N__law_take ["_law_box_here", "_law_many"] (defScope s__law_take) := ⟨rfl, rfl, rfl, by decide +kernel, rfl, by decide +kernel, by decide +kernel⟩
abbrev s__law_same : Stmt := top 28
abbrev N__law_same : List Str := ["_law_one", "_law_other"]
theorem sc__law_same : FnScope N__law_same ["_law_one", "_law_other"] (defScope s__law_same) := ⟨rfl, rfl, rfl, by decide +kernel, rfl, by decide +kernel, by decide +kernel⟩
abbrev s__law_kinds : Stmt := top 29
abbrev N__law_kinds : List Str := ["_law_e", "_law_found", "_law_bit"]
theorem sc__law_kinds : FnScope N__law_kinds ["_law_e"] (defScope s__law_kinds) := ⟨rfl, rfl, rfl, by decide +kernel, rfl, by decide +kernel, by decide +kernel⟩
abbrev s__law_bases : Stmt := top 30
abbrev N__law_bases : List Str := ["_law_made", "_law_bad", "_law_e"]
theorem sc__law_bases : FnScope N__law_bases [] (defScope s__law_bases) := ⟨rfl, rfl, rfl, by decide +kernel, rfl, by decide +kernel, by decide +kernel⟩
abbrev s_law : Stmt := top 31
abbrev N_law : List Str := ["_law_script", "_law_box_here", "_law_a", "_law_b", "_law_made", "_law_more", "_law_k", "_law_passed"]
theorem sc_law : FnScope N_law ["_law_script"] (defScope s_law) := ⟨rfl, rfl, rfl, by decide +kernel, rfl, by decide +kernel, by decide +kernel⟩
structure Dt (P : Program) (w : World) (K : PySem.W.Frag) (mg : Str → Option Value) (base : Heap) where
  free_len : mg "len" = none
  free_abs : mg "abs" = none
  free_int : mg "int" = none
  free_bool : mg "bool" = none
  free_repr : mg "repr" = none
  free_range : mg "range" = none
  free_isinstance : mg "isinstance" = none
  free_ValueError : mg "ValueError" = none
  OrderError : CalC mg "OrderError"
  BadNumber : CalE P w K mg base "BadNumber" "given"
  BadName : CalE P w K mg base "BadName" "given"
  BadWeight : CalE P w K mg base "BadWeight" "given"
  BadShare : CalE P w K mg base "BadShare" "given"
  BadRow : CalE P w K mg base "BadRow" "given"
  BadOrder : CalE P w K mg base "BadOrder" "given"
  BadCount : CalE P w K mg base "BadCount" "given"
  BadRing : CalE P w K mg base "BadRing" "given"
  BadDelay : CalE P w K mg base "BadDelay" "given"
  BadTimes : CalE P w K mg base "BadTimes" "given"
  BadWish : CalE P w K mg base "BadWish" "given"
  NoRecorder : CalE P w K mg base "NoRecorder" "given"
  NoThing : CalE P w K mg base "NoThing" "given"
  InUse : CalE P w K mg base "InUse" "given"
  BadLine : CalE P w K mg base "BadLine" "line"
  ByZero : CalP K mg "ByZero"
  BadText : CalP K mg "BadText"
  NoWay : CalP K mg "NoWay"
  LastOne : CalP K mg "LastOne"
  UnlikeRecords : CalP K mg "UnlikeRecords"
  NothingToUndo : CalP K mg "NothingToUndo"
  NothingToRedo : CalP K mg "NothingToRedo"
def Dt.cls {P : Program} {w : World} {K : PySem.W.Frag} {mg : Str → Option Value} {base : Heap} (D : Dt P w K mg base) : List Addr :=
  [D.BadNumber.C, D.BadName.C, D.BadWeight.C, D.BadShare.C, D.BadRow.C, D.BadOrder.C, D.BadCount.C, D.BadRing.C, D.BadDelay.C, D.BadTimes.C, D.BadWish.C, D.NoRecorder.C, D.NoThing.C, D.InUse.C, D.ByZero.C, D.BadText.C, D.NoWay.C, D.LastOne.C, D.UnlikeRecords.C, D.NothingToUndo.C, D.NothingToRedo.C, D.BadLine.C]
/-- which class an instance is of -/
structure Kit {P : Program} {w : World} {K : PySem.W.Frag} {mg : Str → Option Value} {base : Heap} (D : Dt P w K mg base) : Prop where
  one : ∀ (i j : Nat) (B C : Addr), D.cls[i]? = some B → D.cls[j]? = some C → PySem.W.kitOne K (.ref B) (.ref C) = some (decide (i = j))
  oe : ∀ C ∈ D.cls, PySem.W.kitOne K (.ref C) (.ref D.OrderError.C) = some true
  ve : ∀ C ∈ D.cls, PySem.W.kitOne K (.ref C) (.type "ValueError") = some true
  exc : ∀ C ∈ D.cls, ExcC K C
/-- at a stands one of the errors, of the i-th class -/
def ErrX {P : Program} {w : World} {K : PySem.W.Frag} {mg : Str → Option Value} {base : Heap} (D : Dt P w K mg base) (H : Hp) (a : Addr) (i : Nat) : Prop :=
  ∃ C, D.cls[i]? = some C ∧ ((∃ f v, ErrAt H a C f v) ∨ H a = some (ExO (.ref C) a))
theorem ErrX.same {P : Program} {w : World} {K : PySem.W.Frag} {mg : Str → Option Value} {base : Heap} {D : Dt P w K mg base} {H H' : Hp} {a : Addr} {i : Nat}
    (h : ErrX D H a i) (s : Same H H') : ErrX D H' a i := by
  obtain ⟨C, hC, h⟩ := h
  refine ⟨C, hC, ?_⟩
  rcases h with ⟨f, v, h⟩ | h
  · exact Or.inl ⟨f, v, h.same s⟩
  · exact Or.inr (s _ _ h)
def spSame (K : PySem.W.Frag) : Sp := fun vs H Q _ => ∃ v, vs = [v, v] ∧ Shw K H v ∧ Q (.bl true) H
def spKinds {P : Program} {w : World} {K : PySem.W.Frag} {mg : Str → Option Value} {base : Heap} (D : Dt P w K mg base) : Sp := fun vs H Q _ =>
  ∃ (a : Addr) (i : Nat), vs = [.ref a] ∧ ErrX D H a i ∧ ∀ H', Same H H' → Q (.int 1) H'
def spBases : Sp := fun vs H Q _ => vs = [] ∧ ∀ H', Same H H' → Q (.bl true) H'
def spLaw (K : PySem.W.Frag) : Sp := fun vs H Q _ => ∃ (a : Addr) (ns : List Int), vs = [.ref a] ∧ SqL K H a (ns.map V.int) ∧ ns.length ≤ 63 ∧ ∀ H', Q (.bl true) H'
section
variable {P : Program} {w : World} {K : PySem.W.Frag} {mg : Str → Option Value} {base : Heap}
theorem ok_law_cell (D : Dt P w K mg base) {f : Addr} {fd : FuncData} (F : FnP K "_law_cell" s__law_cell f fd) :
    FnOk P w K mg base CX0 1 f fd ["_law_script", "_law_k"] (spCel K) := by
  refine F.ok sc__law_cell ?_ ?_
  · rintro vs H Q E ⟨a, ns, k, rfl, _⟩
    rfl
  · rintro cdv A outer s H vs Q E hr ⟨a, ns, k, rfl, hS, hl, h0, h63, kq⟩
    refine ⟨_, PSs.nox (pss_one (ps_ret (pe_ifExp (pt_cmpR op_lt (pv 1) (pe_callB (lenA K rfl) (by rfl) D.free_len (by decide +kernel) (pa_cons (pv 0) pa_nil)) (nomark _)) (pe_ix (ixLA K rfl) (pv 0) (pv 1) (fun _ _ => rfl)) pe_int))), ?_⟩
    walk_at "go"
    refine ite2 (fun hk => ?_) (fun hk => ?_)
    · walk_at "rd"
      rw [List.length_map, decide_eq_true_eq] at hk
      obtain ⟨j, rfl⟩ := Int.eq_ofNat_of_zero_le h0
      have hj : j < ns.length := by omega
      refine r_ixL hS (v := .int ns[j]) (atI_nat ?_) (kq _)
      rw [List.getElem?_map, List.getElem?_eq_getElem hj]
      rfl
    · walk_at "rd"
      exact kq _
theorem ok_law_box (D : Dt P w K mg base) (c_law_cell : Cal P w K mg base CX0 1 "_law_cell" ["_law_script", "_law_k"] (spCel K)) {f : Addr} {fd : FuncData}
    (F : FnP K "_law_box" s__law_box f fd) : FnOk P w K mg base CX0 2 f fd ["_law_script", "_law_k"] (spBx K) := by
  refine F.ok sc__law_box ?_ ?_
  · rintro vs H Q E ⟨a, ns, k, rfl, _⟩
    rfl
  · rintro cdv A outer s H vs Q E hr ⟨a, ns, k, rfl, hS, hl, h0, h63, kq⟩
    refine ⟨_, PSs.nox (pss_one (ps_ret (pe_lst (pa_cons (pe_callB cl_abs (by rfl) D.free_abs (by decide +kernel) (pa_cons (pe_callTy cl_int (by rfl) D.free_int (by decide +kernel) (pa_cons (pe_cal c_law_cell (hr.mono (by decide)) pass0 (pa_cons (pv 0) (pa_cons (pv 1) pa_nil))) pa_nil)) pa_nil)) (pa_cons pe_int (pa_cons (pe_op op_add (pe_op op_mulw pe_int (pv 1)) pe_int) pa_nil)))))), ?_⟩
    walk_at "go"
    refine ⟨a, ns, k, rfl, hS, hl, h0, h63, fun z => ?_⟩
    walk_at "rd"
    refine r_MulW (wide_mul (a := 100) (b := 100) (by decide) (by omega) (by decide) (by decide) (by decide)) ?_
    walk_at "rd"
    refine r_newL (Nat.le_of_ble_eq_true rfl) (fun p H' hp s h => kq p H' hp s ⟨_, _, _, h, ?_, Int.le_refl 0, Int.le_refl 0, by omega, by omega⟩)
    split <;> omega
theorem ok_law_take (D : Dt P w K mg base) {f : Addr} {fd : FuncData} (F : FnP K "_law_take" s__law_take f fd) :
    FnOk P w K mg base CX0 1 f fd ["_law_box_here", "_law_many"] spTk := by
  refine F.ok sc__law_take ?_ ?_
  · rintro vs H Q E ⟨b, m, c, rfl, _⟩
    rfl
  · rintro cdv A outer s H vs Q E hr ⟨b, m, c, rfl, ⟨x, y, z, hb, hx, hy0, hy, hz0, hz⟩, hc, hm, hm2, kq⟩
    refine ⟨_, PSs.nox (pss_cons (ps_if (pt_cmpR op_ge (pe_ix (ixLA K rfl) (pv 0) pe_int (fun _ _ => rfl)) (pe_op op_powW pe_int pe_int) (nomark _)) (pss_cons (ps_set (i := 2) sc__law_take.nd rfl (Or.inl rfl) (pe_op op_modP (pe_callTy cl_int (by rfl) D.free_int (by decide +kernel) (pa_cons (pe_ix (ixLA K rfl) (pv 0) pe_int (fun _ _ => rfl)) pa_nil)) (pv 1)))
      (pss_cons (ps_asg (pe_op op_divW (pe_ix (ixLA K rfl) (pv 0) pe_int (fun _ _ => rfl)) (pv 1)) (pg_sub (pv 0) pe_int set_list))
      (pss_one (ps_ret (pv 2))))) pss_nil)
      (pss_cons (ps_asg (pe_op op_add (pe_ix (ixLA K rfl) (pv 0) pe_int (fun _ _ => rfl)) pe_int) (pg_sub (pv 0) pe_int set_list))
      (pss_cons (ps_set (i := 3) sc__law_take.nd rfl (Or.inl rfl) (pe_op op_modP (pe_op op_powW (pe_callTy cl_int (by rfl) D.free_int (by decide +kernel) (pa_cons (pe_op op_add (pe_op op_add (pe_op op_mulw (pe_op op_add (pe_ix (ixLA K rfl) (pv 0) pe_int (fun _ _ => rfl)) pe_int) pe_int) (pe_op op_mulw (pe_ix (ixLA K rfl) (pv 0) pe_int (fun _ _ => rfl)) pe_int)) (pe_ix (ixLA K rfl) (pv 0) pe_int (fun _ _ => rfl))) pa_nil)) pe_int) pe_int))
      (pss_cons (ps_set (i := 3) sc__law_take.nd rfl (Or.inl rfl) (pe_op op_modP (pe_op op_powW (pe_callTy cl_int (by rfl) D.free_int (by decide +kernel) (pa_cons (pe_op op_add (pv 3) (pe_op op_mulw (pe_ix (ixLA K rfl) (pv 0) pe_int (fun _ _ => rfl)) pe_int)) pa_nil)) pe_int) pe_int))
      (pss_one (ps_ret (pe_op op_modP (pe_callTy cl_int (by rfl) D.free_int (by decide +kernel) (pa_cons (pe_op op_divW (pv 3) pe_int) pa_nil)) (pv 1)))))))), ?_⟩
    have hb0 := hb
    have e18 : (10 : Int) ^ Int.toNat 18 = 1000000000000000000 := by decide
    walk_at "go"
    refine r_ixL (.of hb) (v := .int x) rfl ?_
    walk_at "rd"
    refine r_PowW (powW (by decide) (by decide) (by decide)) ?_
    walk_at "rd"
    rw [e18]
    refine ite2 (fun hk => ?_) (fun hk => ?_)
    · walk_at "rd"
      refine r_ixL (.of hb) (v := .int x) rfl ?_
      walk_at "rd"
      refine r_Mod hm ?_
      walk_at "rd"
      refine r_ixL (.of hb) (v := .int x) rfl ?_
      walk_at "rd"
      refine r_DivW (wide_div hm hm2 (by decide) (by decide)) ?_
      walk_at "rd"
      refine r_setL hb (j := 0) rfl ?_
      walk_at "rd"
      refine kq _ _ (Int.emod_nonneg _ (by omega)) (Int.emod_lt_of_pos _ hm) SameX.upd ⟨_, _, _, upd_same, Int.ediv_nonneg hx (by omega), hy0, by omega, hz0, hz⟩
    · rw [decide_eq_true_eq] at hk
      walk_at "rd"
      refine r_ixL (.of hb) (v := .int y) rfl ?_
      walk_at "rd"
      refine r_setL hb (j := 1) rfl ?_
      have hb2 : (upd H b (.lst [.int x, .int (y + 1), .int z])) b = some (.lst [.int x, .int (y + 1), .int z]) := upd_same
      show _
      walk_at "rd"
      refine r_ixL (.of hb2) (v := .int x) rfl ?_
      walk_at "rd"
      refine r_MulW (wide_mul (a := 100) (b := 100) (by omega) (by decide) (by decide) (by decide) (by decide)) ?_
      walk_at "rd"
      refine r_ixL (.of hb2) (v := .int (y + 1)) rfl ?_
      walk_at "rd"
      refine r_MulW (wide_mul (a := 100) (b := 100) (by omega) (by decide) (by decide) (by decide) (by decide)) ?_
      walk_at "rd"
      refine r_ixL (.of hb2) (v := .int z) rfl ?_
      walk_at "rd"
      refine r_PowW (powW (Nat.lt_of_lt_of_le (by omega) (by decide : (2 : Nat) ^ 100 ≤ 2 ^ 4000)) (by decide) (by decide)) ?_
      walk_at "rd"
      refine r_Mod (by decide) ?_
      generalize hq : ((((x + 7) * 69069 + (y + 1) * 40692 + z) ^ Int.toNat 3) % 2147483647) = q
      have q0 : 0 ≤ q := by
        rw [← hq]
        exact Int.emod_nonneg _ (by decide)
      have q1 : q < 2147483647 := by
        rw [← hq]
        exact Int.emod_lt_of_pos _ (by decide)
      walk_at "rd"
      refine r_ixL (.of hb2) (v := .int (y + 1)) rfl ?_
      walk_at "rd"
      refine r_MulW (wide_mul (a := 100) (b := 100) (by omega) (by decide) (by decide) (by decide) (by decide)) ?_
      walk_at "rd"
      refine r_PowW (powW (Nat.lt_of_lt_of_le (by omega) (by decide : (2 : Nat) ^ 100 ≤ 2 ^ 4000)) (by decide) (by decide)) ?_
      walk_at "rd"
      refine r_Mod (by decide) ?_
      walk_at "rd"
      refine r_DivW (wide_div (b := 100) (by decide) (by decide) (by decide) (by decide)) ?_
      walk_at "rd"
      refine r_Mod hm ?_
      exact kq _ _ (Int.emod_nonneg _ (by omega)) (Int.emod_lt_of_pos _ hm) SameX.upd ⟨_, _, _, upd_same, hx, by omega, by omega, hz0, hz⟩

theorem r_isErr {D : Dt P w K mg base} (T : Kit D) {H : Hp} {Q : VK} {a C : Addr} {i j : Nat} (h : ErrX D H a i) (hj : D.cls[j]? = some C) (q : Q (.bl (decide (i = j))) H) :
    rIsErr K [.ref a, .ref C] H Q := by
  obtain ⟨B, hB, h⟩ := h
  exact ⟨a, B, .ref C, .ref C, _, rfl, h, T.exc B (List.mem_of_getElem? hB), .own C, T.one i j B C hB hj, q⟩
theorem ok_law_same (D : Dt P w K mg base) {f : Addr} {fd : FuncData} (F : FnP K "_law_same" s__law_same f fd) :
    FnG P w K mg base CX0 1 f fd ["_law_one", "_law_other"] (spSame K) := by
  refine fun_okG F sc__law_same ?_ ?_
  · rintro vs H Q E ⟨v, rfl, _⟩
    rfl
  · rintro cdv A outer s H vs Q E hgd hr ⟨v, rfl, ⟨d, t, b, h1, h2, h3, h4, h5, h6⟩, kq⟩
    refine ⟨_, PSs.nox (pss_one (ps_ret (pe_and (pe_cmpR op_eq (pe_callB (reprA K rfl hgd hr.units) (by rfl) D.free_repr (by decide +kernel) (pa_cons (pv 0) pa_nil)) (pe_callB (reprA K rfl hgd hr.units) (by rfl) D.free_repr (by decide +kernel) (pa_cons (pv 1) pa_nil)) (nomark _)) (pe_one (pe_cmpR op_eq (pe_callB (isiA K rfl) (by rfl) D.free_isinstance (by decide +kernel) (pa_cons (pv 0) (pa_cons (pe_bltn (v := .ty "bool") (by rfl) D.free_bool (by decide +kernel) rfl) pa_nil))) (pe_callB (isiA K rfl) (by rfl) D.free_isinstance (by decide +kernel) (pa_cons (pv 1) (pa_cons (pe_bltn (v := .ty "bool") (by rfl) D.free_bool (by decide +kernel) rfl) pa_nil))) (nomark _)))))), ?_⟩
    walk_at "go"
    refine r_repr h1 h2 h3 h4 ?_
    walk_at "rd"
    refine r_repr h1 h2 h3 h4 ?_
    walk_at "rd"
    refine r_eq rfl ?_
    walk_at "rd"
    rw [decide_eq_true (rfl : V.str d.shown = V.str d.shown)]
    refine iteT ?_
    walk_at "rd"
    refine r_isiT h5 h6 ?_
    walk_at "rd"
    refine r_isiT h5 h6 ?_
    walk_at "rd"
    refine r_eq rfl ?_
    rw [decide_eq_true (rfl : V.bl b = V.bl b)]
    exact kq
def kl (i : Nat) : List V := [V.bl (decide (i = 0)), V.bl (decide (i = 1)), V.bl (decide (i = 2))] ++ [V.bl (decide (i = 3)), V.bl (decide (i = 4)), V.bl (decide (i = 5))] ++ [V.bl (decide (i = 6)), V.bl (decide (i = 7)), V.bl (decide (i = 8))] ++ [V.bl (decide (i = 9)), V.bl (decide (i = 10)), V.bl (decide (i = 11))] ++ [V.bl (decide (i = 12)), V.bl (decide (i = 13)), V.bl (decide (i = 14))] ++ [V.bl (decide (i = 15)), V.bl (decide (i = 16)), V.bl (decide (i = 17))] ++ [V.bl (decide (i = 18)), V.bl (decide (i = 19)), V.bl (decide (i = 20))] ++ [V.bl (decide (i = 21))]
theorem cnt : ∀ i : _root_.Fin 22, (List.map id (List.filter isT (kl i.val))).length = 1 := by decide
theorem ok_law_kinds (D : Dt P w K mg base) (T : Kit D) {f : Addr} {fd : FuncData} (F : FnP K "_law_kinds" s__law_kinds f fd) :
    FnOk P w K mg base CX0 1 f fd ["_law_e"] (spKinds D) := by
  refine F.ok sc__law_kinds ?_ ?_
  · rintro vs H Q E ⟨a, i, rfl, _⟩
    rfl
  · rintro cdv A outer s H vs Q E hr ⟨a, i, rfl, hE, kq⟩
    refine ⟨_, PSs.nox (pss_cons (ps_set (i := 1) sc__law_kinds.nd rfl (Or.inl rfl) (pe_lst (pa_cons (pe_callB (isErrA K rfl) (by rfl) D.free_isinstance (by decide +kernel) (pa_cons (pv 0) (pa_cons (pe_glob (v := .ref D.BadNumber.C) rfl D.BadNumber.gC rfl) pa_nil))) (pa_cons (pe_callB (isErrA K rfl) (by rfl) D.free_isinstance (by decide +kernel) (pa_cons (pv 0) (pa_cons (pe_glob (v := .ref D.BadName.C) rfl D.BadName.gC rfl) pa_nil))) (pa_cons (pe_callB (isErrA K rfl) (by rfl) D.free_isinstance (by decide +kernel) (pa_cons (pv 0) (pa_cons (pe_glob (v := .ref D.BadWeight.C) rfl D.BadWeight.gC rfl) pa_nil))) pa_nil)))))
      (pss_cons (ps_set (i := 1) sc__law_kinds.nd rfl (Or.inl rfl) (pe_op op_cat (pv 1) (pe_lst (pa_cons (pe_callB (isErrA K rfl) (by rfl) D.free_isinstance (by decide +kernel) (pa_cons (pv 0) (pa_cons (pe_glob (v := .ref D.BadShare.C) rfl D.BadShare.gC rfl) pa_nil))) (pa_cons (pe_callB (isErrA K rfl) (by rfl) D.free_isinstance (by decide +kernel) (pa_cons (pv 0) (pa_cons (pe_glob (v := .ref D.BadRow.C) rfl D.BadRow.gC rfl) pa_nil))) (pa_cons (pe_callB (isErrA K rfl) (by rfl) D.free_isinstance (by decide +kernel) (pa_cons (pv 0) (pa_cons (pe_glob (v := .ref D.BadOrder.C) rfl D.BadOrder.gC rfl) pa_nil))) pa_nil))))))
      (pss_cons (ps_set (i := 1) sc__law_kinds.nd rfl (Or.inl rfl) (pe_op op_cat (pv 1) (pe_lst (pa_cons (pe_callB (isErrA K rfl) (by rfl) D.free_isinstance (by decide +kernel) (pa_cons (pv 0) (pa_cons (pe_glob (v := .ref D.BadCount.C) rfl D.BadCount.gC rfl) pa_nil))) (pa_cons (pe_callB (isErrA K rfl) (by rfl) D.free_isinstance (by decide +kernel) (pa_cons (pv 0) (pa_cons (pe_glob (v := .ref D.BadRing.C) rfl D.BadRing.gC rfl) pa_nil))) (pa_cons (pe_callB (isErrA K rfl) (by rfl) D.free_isinstance (by decide +kernel) (pa_cons (pv 0) (pa_cons (pe_glob (v := .ref D.BadDelay.C) rfl D.BadDelay.gC rfl) pa_nil))) pa_nil))))))
      (pss_cons (ps_set (i := 1) sc__law_kinds.nd rfl (Or.inl rfl) (pe_op op_cat (pv 1) (pe_lst (pa_cons (pe_callB (isErrA K rfl) (by rfl) D.free_isinstance (by decide +kernel) (pa_cons (pv 0) (pa_cons (pe_glob (v := .ref D.BadTimes.C) rfl D.BadTimes.gC rfl) pa_nil))) (pa_cons (pe_callB (isErrA K rfl) (by rfl) D.free_isinstance (by decide +kernel) (pa_cons (pv 0) (pa_cons (pe_glob (v := .ref D.BadWish.C) rfl D.BadWish.gC rfl) pa_nil))) (pa_cons (pe_callB (isErrA K rfl) (by rfl) D.free_isinstance (by decide +kernel) (pa_cons (pv 0) (pa_cons (pe_glob (v := .ref D.NoRecorder.C) rfl D.NoRecorder.gC rfl) pa_nil))) pa_nil))))))
      (pss_cons (ps_set (i := 1) sc__law_kinds.nd rfl (Or.inl rfl) (pe_op op_cat (pv 1) (pe_lst (pa_cons (pe_callB (isErrA K rfl) (by rfl) D.free_isinstance (by decide +kernel) (pa_cons (pv 0) (pa_cons (pe_glob (v := .ref D.NoThing.C) rfl D.NoThing.gC rfl) pa_nil))) (pa_cons (pe_callB (isErrA K rfl) (by rfl) D.free_isinstance (by decide +kernel) (pa_cons (pv 0) (pa_cons (pe_glob (v := .ref D.InUse.C) rfl D.InUse.gC rfl) pa_nil))) (pa_cons (pe_callB (isErrA K rfl) (by rfl) D.free_isinstance (by decide +kernel) (pa_cons (pv 0) (pa_cons (pe_glob (v := .ref D.ByZero.C) rfl D.ByZero.gC rfl) pa_nil))) pa_nil))))))
      (pss_cons (ps_set (i := 1) sc__law_kinds.nd rfl (Or.inl rfl) (pe_op op_cat (pv 1) (pe_lst (pa_cons (pe_callB (isErrA K rfl) (by rfl) D.free_isinstance (by decide +kernel) (pa_cons (pv 0) (pa_cons (pe_glob (v := .ref D.BadText.C) rfl D.BadText.gC rfl) pa_nil))) (pa_cons (pe_callB (isErrA K rfl) (by rfl) D.free_isinstance (by decide +kernel) (pa_cons (pv 0) (pa_cons (pe_glob (v := .ref D.NoWay.C) rfl D.NoWay.gC rfl) pa_nil))) (pa_cons (pe_callB (isErrA K rfl) (by rfl) D.free_isinstance (by decide +kernel) (pa_cons (pv 0) (pa_cons (pe_glob (v := .ref D.LastOne.C) rfl D.LastOne.gC rfl) pa_nil))) pa_nil))))))
      (pss_cons (ps_set (i := 1) sc__law_kinds.nd rfl (Or.inl rfl) (pe_op op_cat (pv 1) (pe_lst (pa_cons (pe_callB (isErrA K rfl) (by rfl) D.free_isinstance (by decide +kernel) (pa_cons (pv 0) (pa_cons (pe_glob (v := .ref D.UnlikeRecords.C) rfl D.UnlikeRecords.gC rfl) pa_nil))) (pa_cons (pe_callB (isErrA K rfl) (by rfl) D.free_isinstance (by decide +kernel) (pa_cons (pv 0) (pa_cons (pe_glob (v := .ref D.NothingToUndo.C) rfl D.NothingToUndo.gC rfl) pa_nil))) (pa_cons (pe_callB (isErrA K rfl) (by rfl) D.free_isinstance (by decide +kernel) (pa_cons (pv 0) (pa_cons (pe_glob (v := .ref D.NothingToRedo.C) rfl D.NothingToRedo.gC rfl) pa_nil))) pa_nil))))))
      (pss_cons (ps_set (i := 1) sc__law_kinds.nd rfl (Or.inl rfl) (pe_op op_cat (pv 1) (pe_lst (pa_cons (pe_callB (isErrA K rfl) (by rfl) D.free_isinstance (by decide +kernel) (pa_cons (pv 0) (pa_cons (pe_glob (v := .ref D.BadLine.C) rfl D.BadLine.gC rfl) pa_nil))) pa_nil))))
      (pss_one (ps_ret (pe_callB (lenA K rfl) (by rfl) D.free_len (by decide +kernel) (pa_cons (pe_lc (own := [("_law_bit", 2)]) (g := gName 2) rfl sc__law_kinds.nd (pi_listA K rfl (pv 1)) (blkOk_by (own := [("_law_bit", 2)]) (N := N__law_kinds) (sc := defScope s__law_kinds) (by decide +kernel)) (fun _ _ _ _ _ => pg_name (i := 2) sc__law_kinds.nd rfl (Or.inl rfl)) (fun _ _ _ _ _ => (pts_one (pt_val (pv 2)))) (fun _ _ _ _ _ => (pv 2))) pa_nil)))))))))))), ?_⟩
    walk_at "go"
    refine r_isErr T (hE.same (by walk_at "same")) (j := 0) rfl ?_
    walk_at "rd"
    refine r_isErr T (hE.same (by walk_at "same")) (j := 1) rfl ?_
    walk_at "rd"
    refine r_isErr T (hE.same (by walk_at "same")) (j := 2) rfl ?_
    walk_at "rd"
    refine r_newL (Nat.le_of_ble_eq_true rfl) (fun p0 H0 n0 s0 h0 => ?_)
    walk_at "rd"
    refine r_isErr T (hE.same (by walk_at "same")) (j := 3) rfl ?_
    walk_at "rd"
    refine r_isErr T (hE.same (by walk_at "same")) (j := 4) rfl ?_
    walk_at "rd"
    refine r_isErr T (hE.same (by walk_at "same")) (j := 5) rfl ?_
    walk_at "rd"
    refine r_newL (Nat.le_of_ble_eq_true rfl) (fun p1 H1 n1 s1 h1 => ?_)
    walk_at "rd"
    refine r_cat (by walk_at "at") (by walk_at "at") (by exact Nat.le_of_ble_eq_true rfl) (fun q1 I1 m1 t1 g1 => ?_)
    walk_at "rd"
    refine r_isErr T (hE.same (by walk_at "same")) (j := 6) rfl ?_
    walk_at "rd"
    refine r_isErr T (hE.same (by walk_at "same")) (j := 7) rfl ?_
    walk_at "rd"
    refine r_isErr T (hE.same (by walk_at "same")) (j := 8) rfl ?_
    walk_at "rd"
    refine r_newL (Nat.le_of_ble_eq_true rfl) (fun p2 H2 n2 s2 h2 => ?_)
    walk_at "rd"
    refine r_cat (by walk_at "at") (by walk_at "at") (by exact Nat.le_of_ble_eq_true rfl) (fun q2 I2 m2 t2 g2 => ?_)
    walk_at "rd"
    refine r_isErr T (hE.same (by walk_at "same")) (j := 9) rfl ?_
    walk_at "rd"
    refine r_isErr T (hE.same (by walk_at "same")) (j := 10) rfl ?_
    walk_at "rd"
    refine r_isErr T (hE.same (by walk_at "same")) (j := 11) rfl ?_
    walk_at "rd"
    refine r_newL (Nat.le_of_ble_eq_true rfl) (fun p3 H3 n3 s3 h3 => ?_)
    walk_at "rd"
    refine r_cat (by walk_at "at") (by walk_at "at") (by exact Nat.le_of_ble_eq_true rfl) (fun q3 I3 m3 t3 g3 => ?_)
    walk_at "rd"
    refine r_isErr T (hE.same (by walk_at "same")) (j := 12) rfl ?_
    walk_at "rd"
    refine r_isErr T (hE.same (by walk_at "same")) (j := 13) rfl ?_
    walk_at "rd"
    refine r_isErr T (hE.same (by walk_at "same")) (j := 14) rfl ?_
    walk_at "rd"
    refine r_newL (Nat.le_of_ble_eq_true rfl) (fun p4 H4 n4 s4 h4 => ?_)
    walk_at "rd"
    refine r_cat (by walk_at "at") (by walk_at "at") (by exact Nat.le_of_ble_eq_true rfl) (fun q4 I4 m4 t4 g4 => ?_)
    walk_at "rd"
    refine r_isErr T (hE.same (by walk_at "same")) (j := 15) rfl ?_
    walk_at "rd"
    refine r_isErr T (hE.same (by walk_at "same")) (j := 16) rfl ?_
    walk_at "rd"
    refine r_isErr T (hE.same (by walk_at "same")) (j := 17) rfl ?_
    walk_at "rd"
    refine r_newL (Nat.le_of_ble_eq_true rfl) (fun p5 H5 n5 s5 h5 => ?_)
    walk_at "rd"
    refine r_cat (by walk_at "at") (by walk_at "at") (by exact Nat.le_of_ble_eq_true rfl) (fun q5 I5 m5 t5 g5 => ?_)
    walk_at "rd"
    refine r_isErr T (hE.same (by walk_at "same")) (j := 18) rfl ?_
    walk_at "rd"
    refine r_isErr T (hE.same (by walk_at "same")) (j := 19) rfl ?_
    walk_at "rd"
    refine r_isErr T (hE.same (by walk_at "same")) (j := 20) rfl ?_
    walk_at "rd"
    refine r_newL (Nat.le_of_ble_eq_true rfl) (fun p6 H6 n6 s6 h6 => ?_)
    walk_at "rd"
    refine r_cat (by walk_at "at") (by walk_at "at") (by exact Nat.le_of_ble_eq_true rfl) (fun q6 I6 m6 t6 g6 => ?_)
    walk_at "rd"
    refine r_isErr T (hE.same (by walk_at "same")) (j := 21) rfl ?_
    walk_at "rd"
    refine r_newL (Nat.le_of_ble_eq_true rfl) (fun p7 H7 n7 s7 h7 => ?_)
    walk_at "rd"
    refine r_cat (by walk_at "at") (by walk_at "at") (by exact Nat.le_of_ble_eq_true rfl) (fun q7 I7 m7 t7 g7 => ?_)
    walk_at "rd"
    have hi : i < 22 := by
      obtain ⟨C, hC, _⟩ := hE
      exact (List.getElem?_eq_some_iff.mp hC).1
    refine r_lc ?_
    walk_at "rd"
    refine r_lcA isT id (.of (by walk_at "at")) (by exact Nat.le_of_ble_eq_true rfl) ?_ ?_ (fun p9 H9 n9 s9 h9 => ?_)
    · intro x H1 hx s R k
      obtain ⟨c, rfl⟩ := bl_of (List.all_eq_true.mp (rfl : List.all _ isBl = true) x hx)
      walk_at "rd"
      exact k _ (Same.refl _)
    · intro x H1 hx hb s R k
      walk_at "rd"
      exact k _ (Same.refl _)
    · walk_at "rd"
      refine r_lenL (.of h9) ?_
      have e : (List.map id (List.filter isT (kl i))).length = 1 := cnt ⟨i, hi⟩
      have e2 : (((List.map id (List.filter isT (kl i))).length : Nat) : Int) = 1 := by rw [e]; rfl
      show Q (.int ((List.map id (List.filter isT (kl i))).length : Nat)) H9
      rw [e2]
      exact kq _ (by walk_at "same")
theorem r_isCls {D : Dt P w K mg base} (T : Kit D) {H : Hp} {Q : VK} {a : Addr} {i : Nat} {c : V} {cv : Value} {r : Bool} (h : ErrX D H a i) (hc : ClsV c cv)
    (hk : ∀ C ∈ D.cls, PySem.W.kitOne K (.ref C) cv = some r) (q : Q (.bl r) H) : rIsErr K [.ref a, c] H Q := by
  obtain ⟨B, hB, h⟩ := h
  exact ⟨a, B, c, cv, r, rfl, h, T.exc B (List.mem_of_getElem? hB), hc, hk B (List.mem_of_getElem? hB), q⟩
theorem ok_law_bases (D : Dt P w K mg base) (T : Kit D) (c_law_kinds : Cal P w K mg base CX0 1 "_law_kinds" ["_law_e"] (spKinds D)) {f : Addr} {fd : FuncData} (F : FnP K "_law_bases" s__law_bases f fd) :
    FnOk P w K mg base CX0 3 f fd [] spBases := by
  refine F.ok sc__law_bases ?_ ?_
  · rintro vs H Q E ⟨rfl, _⟩
    rfl
  · rintro cdv A outer s H vs Q E hr ⟨rfl, kq⟩
    refine ⟨_, PSs.nox (pss_cons (ps_set (i := 0) sc__law_bases.nd rfl (Or.inl rfl) (pe_lst (pa_cons (pe_mkE D.BadNumber (hr.mono (by decide)) pe_str) (pa_cons (pe_mkE D.BadName (hr.mono (by decide)) pe_str) (pa_cons (pe_mkE D.BadWeight (hr.mono (by decide)) pe_str) (pa_cons (pe_mkE D.BadShare (hr.mono (by decide)) pe_str) (pa_cons (pe_mkE D.BadRow (hr.mono (by decide)) pe_str) (pa_cons (pe_mkE D.BadOrder (hr.mono (by decide)) pe_str) pa_nil))))))))
      (pss_cons (ps_set (i := 0) sc__law_bases.nd rfl (Or.inl rfl) (pe_op op_cat (pv 0) (pe_lst (pa_cons (pe_mkE D.BadCount (hr.mono (by decide)) pe_str) (pa_cons (pe_mkE D.BadRing (hr.mono (by decide)) pe_str) (pa_cons (pe_mkE D.BadDelay (hr.mono (by decide)) pe_str) (pa_cons (pe_mkE D.BadTimes (hr.mono (by decide)) pe_str) (pa_cons (pe_mkE D.BadWish (hr.mono (by decide)) pe_str) (pa_cons (pe_mkE D.NoRecorder (hr.mono (by decide)) pe_str) pa_nil)))))))))
      (pss_cons (ps_set (i := 0) sc__law_bases.nd rfl (Or.inl rfl) (pe_op op_cat (pv 0) (pe_lst (pa_cons (pe_mkE D.NoThing (hr.mono (by decide)) pe_str) (pa_cons (pe_mkE D.InUse (hr.mono (by decide)) pe_str) (pa_cons (pe_mkP0 D.ByZero) (pa_cons (pe_mkP0 D.BadText) (pa_cons (pe_mkP0 D.NoWay) (pa_cons (pe_mkP0 D.LastOne) pa_nil)))))))))
      (pss_cons (ps_set (i := 0) sc__law_bases.nd rfl (Or.inl rfl) (pe_op op_cat (pv 0) (pe_lst (pa_cons (pe_mkP0 D.UnlikeRecords) (pa_cons (pe_mkP0 D.NothingToUndo) (pa_cons (pe_mkP0 D.NothingToRedo) (pa_cons (pe_mkE D.BadLine (hr.mono (by decide)) pe_int) pa_nil)))))))
      (pss_cons (ps_setLc (i := 1) (own := [("_law_e", 2)]) (g := gName 2) rfl sc__law_bases.nd rfl rfl (sw_true rfl rfl rfl (by decide +kernel)) (pi_listA K rfl (pv 0)) (blkOk_by (own := [("_law_e", 2)]) (N := N__law_bases) (sc := defScope s__law_bases) (by decide +kernel)) (fun _ _ _ _ _ => pg_name (i := 2) sc__law_bases.nd rfl (Or.inl rfl)) (fun _ _ _ _ _ => (pts_one (PW.pt (pw_or (pt_not (pt_val (pe_callB (isErrA K rfl) (by rfl) D.free_isinstance (by decide +kernel) (pa_cons (pv 2) (pa_cons (pe_glob (v := .ref D.OrderError.C) rfl D.OrderError.gC rfl) pa_nil))))) (pw_or1 (pt_not (pt_val (pe_callB (isErrA K rfl) (by rfl) D.free_isinstance (by decide +kernel) (pa_cons (pv 2) (pa_cons (pe_bltn (v := .ty "ValueError") (by rfl) D.free_ValueError (by decide +kernel) rfl) pa_nil)))))))))) (fun _ _ _ _ _ => (pv 2)))
      (pss_one (ps_ret (pe_and (pe_cmpR (eqDA K rfl hr.units) (pv 1) (pe_lst pa_nil) (nomark _)) (pe_one (pe_cmpR (eqDA K rfl hr.units) (pe_lc (own := [("_law_e", 2)]) (g := gName 2) rfl sc__law_bases.nd (pi_listA K rfl (pv 0)) (blkOk_by (own := [("_law_e", 2)]) (N := N__law_bases) (sc := defScope s__law_bases) (by decide +kernel)) (fun _ _ _ _ _ => pg_name (i := 2) sc__law_bases.nd rfl (Or.inl rfl)) (fun _ _ _ _ _ => (pts_one (pt_cmpR op_ne (pe_cal c_law_kinds (hr.mono (by decide)) pass0 (pa_cons (pv 2) pa_nil)) pe_int (nomark _)))) (fun _ _ _ _ _ => (pv 2))) (pe_lst pa_nil) (nomark _))))))))))), ?_⟩
    walk_at "go"
    refine fun a0 E0 f0 r0 e0 => ?_
    walk_at "rd"
    refine fun a1 E1 f1 r1 e1 => ?_
    walk_at "rd"
    refine fun a2 E2 f2 r2 e2 => ?_
    walk_at "rd"
    refine fun a3 E3 f3 r3 e3 => ?_
    walk_at "rd"
    refine fun a4 E4 f4 r4 e4 => ?_
    walk_at "rd"
    refine fun a5 E5 f5 r5 e5 => ?_
    walk_at "rd"
    refine r_newL (Nat.le_of_ble_eq_true rfl) (fun p0 H0 n0 s0 h0 => ?_)
    walk_at "rd"
    refine fun a6 E6 f6 r6 e6 => ?_
    walk_at "rd"
    refine fun a7 E7 f7 r7 e7 => ?_
    walk_at "rd"
    refine fun a8 E8 f8 r8 e8 => ?_
    walk_at "rd"
    refine fun a9 E9 f9 r9 e9 => ?_
    walk_at "rd"
    refine fun a10 E10 f10 r10 e10 => ?_
    walk_at "rd"
    refine fun a11 E11 f11 r11 e11 => ?_
    walk_at "rd"
    refine r_newL (Nat.le_of_ble_eq_true rfl) (fun p1 H1 n1 s1 h1 => ?_)
    walk_at "rd"
    refine r_cat (by walk_at "at") (by walk_at "at") (by exact Nat.le_of_ble_eq_true rfl) (fun q1 I1 m1 t1 g1 => ?_)
    walk_at "rd"
    refine fun a12 E12 f12 r12 e12 => ?_
    walk_at "rd"
    refine fun a13 E13 f13 r13 e13 => ?_
    walk_at "rd"
    refine fun a14 E14 f14 r14 e14 => ?_
    walk_at "rd"
    refine fun a15 E15 f15 r15 e15 => ?_
    walk_at "rd"
    refine fun a16 E16 f16 r16 e16 => ?_
    walk_at "rd"
    refine fun a17 E17 f17 r17 e17 => ?_
    walk_at "rd"
    refine r_newL (Nat.le_of_ble_eq_true rfl) (fun p2 H2 n2 s2 h2 => ?_)
    walk_at "rd"
    refine r_cat (by walk_at "at") (by walk_at "at") (by exact Nat.le_of_ble_eq_true rfl) (fun q2 I2 m2 t2 g2 => ?_)
    walk_at "rd"
    refine fun a18 E18 f18 r18 e18 => ?_
    walk_at "rd"
    refine fun a19 E19 f19 r19 e19 => ?_
    walk_at "rd"
    refine fun a20 E20 f20 r20 e20 => ?_
    walk_at "rd"
    refine fun a21 E21 f21 r21 e21 => ?_
    walk_at "rd"
    refine r_newL (Nat.le_of_ble_eq_true rfl) (fun p3 H3 n3 s3 h3 => ?_)
    walk_at "rd"
    refine r_cat (by walk_at "at") (by walk_at "at") (by exact Nat.le_of_ble_eq_true rfl) (fun q3 I3 m3 t3 g3 => ?_)
    walk_at "rd"
    have hA : ∀ x ∈ ([V.ref a0, V.ref a1, V.ref a2, V.ref a3, V.ref a4, V.ref a5] ++ [V.ref a6, V.ref a7, V.ref a8, V.ref a9, V.ref a10, V.ref a11] ++ [V.ref a12, V.ref a13, V.ref a14, V.ref a15, V.ref a16, V.ref a17] ++ [V.ref a18, V.ref a19, V.ref a20, V.ref a21]), ∃ a i, x = V.ref a ∧ ErrX D I3 a i := by
      intro x hx
      simp only [List.mem_append, List.mem_cons, List.mem_nil_iff, or_false, or_assoc] at hx
      rcases hx with rfl | rfl | rfl | rfl | rfl | rfl | rfl | rfl | rfl | rfl | rfl | rfl | rfl | rfl | rfl | rfl | rfl | rfl | rfl | rfl | rfl | rfl
      · exact ⟨_, 0, rfl, _, rfl, Or.inl ⟨_, _, e0.same (by walk_at "same")⟩⟩
      · exact ⟨_, 1, rfl, _, rfl, Or.inl ⟨_, _, e1.same (by walk_at "same")⟩⟩
      · exact ⟨_, 2, rfl, _, rfl, Or.inl ⟨_, _, e2.same (by walk_at "same")⟩⟩
      · exact ⟨_, 3, rfl, _, rfl, Or.inl ⟨_, _, e3.same (by walk_at "same")⟩⟩
      · exact ⟨_, 4, rfl, _, rfl, Or.inl ⟨_, _, e4.same (by walk_at "same")⟩⟩
      · exact ⟨_, 5, rfl, _, rfl, Or.inl ⟨_, _, e5.same (by walk_at "same")⟩⟩
      · exact ⟨_, 6, rfl, _, rfl, Or.inl ⟨_, _, e6.same (by walk_at "same")⟩⟩
      · exact ⟨_, 7, rfl, _, rfl, Or.inl ⟨_, _, e7.same (by walk_at "same")⟩⟩
      · exact ⟨_, 8, rfl, _, rfl, Or.inl ⟨_, _, e8.same (by walk_at "same")⟩⟩
      · exact ⟨_, 9, rfl, _, rfl, Or.inl ⟨_, _, e9.same (by walk_at "same")⟩⟩
      · exact ⟨_, 10, rfl, _, rfl, Or.inl ⟨_, _, e10.same (by walk_at "same")⟩⟩
      · exact ⟨_, 11, rfl, _, rfl, Or.inl ⟨_, _, e11.same (by walk_at "same")⟩⟩
      · exact ⟨_, 12, rfl, _, rfl, Or.inl ⟨_, _, e12.same (by walk_at "same")⟩⟩
      · exact ⟨_, 13, rfl, _, rfl, Or.inl ⟨_, _, e13.same (by walk_at "same")⟩⟩
      · exact ⟨_, 14, rfl, _, rfl, Or.inr (by walk_at "at")⟩
      · exact ⟨_, 15, rfl, _, rfl, Or.inr (by walk_at "at")⟩
      · exact ⟨_, 16, rfl, _, rfl, Or.inr (by walk_at "at")⟩
      · exact ⟨_, 17, rfl, _, rfl, Or.inr (by walk_at "at")⟩
      · exact ⟨_, 18, rfl, _, rfl, Or.inr (by walk_at "at")⟩
      · exact ⟨_, 19, rfl, _, rfl, Or.inr (by walk_at "at")⟩
      · exact ⟨_, 20, rfl, _, rfl, Or.inr (by walk_at "at")⟩
      · exact ⟨_, 21, rfl, _, rfl, Or.inl ⟨_, _, e21.same (by walk_at "same")⟩⟩
    refine r_lc ?_
    walk_at "rd"
    refine r_lcN (.of (by walk_at "at")) (by exact Nat.le_of_ble_eq_true rfl) ?_ (fun p9 H9 n9 s9 h9 => ?_)
    · intro x H1 hx s R k
      obtain ⟨a, i, rfl, e⟩ := hA x hx
      walk_at "rd"
      refine r_isCls T (e.same s) (.own _) T.oe ?_
      walk_at "rd"
      refine iteF ?_
      walk_at "rd"
      refine r_isCls T (e.same s) (.ty _) T.ve ?_
      walk_at "rd"
      exact k _ (Same.refl _)
    walk_at "rd"
    refine r_newL (Nat.le_of_ble_eq_true rfl) (fun p10 H10 n10 s10 h10 => ?_)
    refine r_eqNil (by walk_at "at") h10 ?_
    walk_at "rd"
    refine iteT ?_
    walk_at "rd"
    refine r_lc ?_
    walk_at "rd"
    refine r_lcN (.of (by walk_at "at")) (by exact Nat.le_of_ble_eq_true rfl) ?_ (fun p11 H11 n11 s11 h11 => ?_)
    · intro x H1 hx s R k
      obtain ⟨a, i, rfl, e⟩ := hA x hx
      walk_at "rd"
      refine ⟨a, i, rfl, e.same (by walk_at "same"), fun H2 s2 => ?_⟩
      walk_at "rd"
      refine r_ne rfl ?_
      walk_at "rd"
      exact k _ s2
    walk_at "rd"
    refine r_newL (Nat.le_of_ble_eq_true rfl) (fun p12 H12 n12 s12 h12 => ?_)
    refine r_eqNil (by walk_at "at") h12 ?_
    walk_at "rd"
    exact kq _ (by walk_at "same")
theorem ok_law (D : Dt P w K mg base) (c_law_box : Cal P w K mg base CX0 2 "_law_box" ["_law_script", "_law_k"] (spBx K))
    (c_law_take : Cal P w K mg base CX0 1 "_law_take" ["_law_box_here", "_law_many"] spTk)
    (c_law_same : CalG P w K mg base CX0 1 "_law_same" ["_law_one", "_law_other"] (spSame K))
    (c_law_bases : Cal P w K mg base CX0 3 "_law_bases" [] spBases) {f : Addr} {fd : FuncData} (F : FnP K "law" s_law f fd) :
    FnG P w K mg base CX0 5 f fd ["_law_script"] (spLaw K) := by
  refine fun_okG F sc_law ?_ ?_
  · rintro vs H Q E ⟨a, ns, rfl, _⟩
    rfl
  · rintro cdv A outer s H vs Q E hgd hr ⟨a, ns, rfl, hS, hl, kq⟩
    refine ⟨_, PSs.nox (pss_cons (ps_set (i := 1) sc_law.nd rfl (Or.inl rfl) (pe_cal c_law_box (hr.mono (by decide)) pass0 (pa_cons (pv 0) (pa_cons pe_int pa_nil))))
      (pss_cons (ps_set (i := 2) sc_law.nd rfl (Or.inl rfl) (pe_ix (ixLA K rfl) (pe_lst (pa_cons pe_str (pa_cons pe_int (pa_cons pe_non (pa_cons (pe_un un_neg pe_int) (pa_cons (pe_tup (pa_cons pe_int (pa_cons pe_int pa_nil))) (pa_cons (pe_lst (pa_cons pe_str pa_nil)) (pa_cons pe_bl pa_nil)))))))) (pe_cal c_law_take (hr.mono (by decide)) pass0 (pa_cons (pv 1) (pa_cons pe_int pa_nil))) (fun _ _ => rfl)))
      (pss_cons (ps_set (i := 3) sc_law.nd rfl (Or.inl rfl) (pe_ix (ixLA K rfl) (pe_lst (pa_cons (pe_disp (pps_cons pe_str pe_int pps_nil) (by rfl) (by rfl) (fun z => by cases z) (by decide)) (pa_cons (pe_op op_powW pe_int pe_int) (pa_cons pe_str (pa_cons (pe_tup (pa_cons pe_str pa_nil)) (pa_cons pe_bl pa_nil)))))) (pe_cal c_law_take (hr.mono (by decide)) pass0 (pa_cons (pv 1) (pa_cons pe_int pa_nil))) (fun _ _ => rfl)))
      (pss_cons (ps_set (i := 4) sc_law.nd rfl (Or.inl rfl) (pe_lst (pa_cons (pe_errFA K rfl (pe_mkE D.BadNumber (hr.mono (by decide)) (pv 2))) (pa_cons (pe_errFA K rfl (pe_mkE D.BadName (hr.mono (by decide)) (pv 3))) (pa_cons (pe_errFA K rfl (pe_mkE D.BadWeight (hr.mono (by decide)) (pv 2))) (pa_cons (pe_errFA K rfl (pe_mkE D.BadShare (hr.mono (by decide)) (pv 3))) (pa_cons (pe_errFA K rfl (pe_mkE D.BadRow (hr.mono (by decide)) (pv 2))) pa_nil)))))))
      (pss_cons (ps_set (i := 4) sc_law.nd rfl (Or.inl rfl) (pe_op op_cat (pv 4) (pe_lst (pa_cons (pe_errFA K rfl (pe_mkE D.BadOrder (hr.mono (by decide)) (pv 3))) (pa_cons (pe_errFA K rfl (pe_mkE D.BadCount (hr.mono (by decide)) (pv 2))) (pa_cons (pe_errFA K rfl (pe_mkE D.BadRing (hr.mono (by decide)) (pv 3))) (pa_cons (pe_errFA K rfl (pe_mkE D.BadDelay (hr.mono (by decide)) (pv 2))) (pa_cons (pe_errFA K rfl (pe_mkE D.BadTimes (hr.mono (by decide)) (pv 3))) pa_nil))))))))
      (pss_cons (ps_set (i := 4) sc_law.nd rfl (Or.inl rfl) (pe_op op_cat (pv 4) (pe_lst (pa_cons (pe_errFA K rfl (pe_mkE D.BadWish (hr.mono (by decide)) (pv 2))) (pa_cons (pe_errFA K rfl (pe_mkE D.NoRecorder (hr.mono (by decide)) (pv 3))) (pa_cons (pe_errFA K rfl (pe_mkE D.NoThing (hr.mono (by decide)) (pv 2))) (pa_cons (pe_errFA K rfl (pe_mkE D.InUse (hr.mono (by decide)) (pv 3))) pa_nil)))))))
      (pss_cons (ps_set (i := 5) sc_law.nd rfl (Or.inl rfl) (pe_lst (pa_cons (pe_errFA K rfl (pe_mkEK D.BadNumber (hr.mono (by decide)) (pv 2))) (pa_cons (pe_errFA K rfl (pe_mkEK D.BadName (hr.mono (by decide)) (pv 3))) (pa_cons (pe_errFA K rfl (pe_mkEK D.BadWeight (hr.mono (by decide)) (pv 2))) (pa_cons (pe_errFA K rfl (pe_mkEK D.BadShare (hr.mono (by decide)) (pv 3))) pa_nil))))))
      (pss_cons (ps_set (i := 5) sc_law.nd rfl (Or.inl rfl) (pe_op op_cat (pv 5) (pe_lst (pa_cons (pe_errFA K rfl (pe_mkEK D.BadRow (hr.mono (by decide)) (pv 2))) (pa_cons (pe_errFA K rfl (pe_mkEK D.BadOrder (hr.mono (by decide)) (pv 3))) (pa_cons (pe_errFA K rfl (pe_mkEK D.BadCount (hr.mono (by decide)) (pv 2))) (pa_cons (pe_errFA K rfl (pe_mkEK D.BadRing (hr.mono (by decide)) (pv 3))) pa_nil)))))))
      (pss_cons (ps_set (i := 5) sc_law.nd rfl (Or.inl rfl) (pe_op op_cat (pv 5) (pe_lst (pa_cons (pe_errFA K rfl (pe_mkEK D.BadDelay (hr.mono (by decide)) (pv 2))) (pa_cons (pe_errFA K rfl (pe_mkEK D.BadTimes (hr.mono (by decide)) (pv 3))) (pa_cons (pe_errFA K rfl (pe_mkEK D.BadWish (hr.mono (by decide)) (pv 2))) (pa_cons (pe_errFA K rfl (pe_mkEK D.NoRecorder (hr.mono (by decide)) (pv 3))) pa_nil)))))))
      (pss_cons (ps_set (i := 5) sc_law.nd rfl (Or.inl rfl) (pe_op op_cat (pv 5) (pe_lst (pa_cons (pe_errFA K rfl (pe_mkEK D.NoThing (hr.mono (by decide)) (pv 2))) (pa_cons (pe_errFA K rfl (pe_mkEK D.InUse (hr.mono (by decide)) (pv 3))) pa_nil)))))
      (pss_cons (ps_for PassesOwn.never rfl (pi_range1 (by rfl) D.free_range (pa_cons pe_int pa_nil)) (pg_name (i := 6) sc_law.nd rfl (Or.inl rfl))
      (pss_cons (ps_set (i := 7) sc_law.nd rfl (Or.inl rfl) (pe_ifExp (pt_cmpR op_eq (pe_op op_modP (pv 6) pe_int) pe_int (nomark _)) (pv 2) (pv 3)))
      (pss_one (ps_if (PW.pt (pw_or (pt_not (pt_val (pe_calG hgd c_law_same (hr.mono (by decide)) pass0 (pa_cons (pe_ix (ixLA K rfl) (pv 4) (pv 6) (fun _ _ => rfl)) (pa_cons (pv 7) pa_nil))))) (pw_or1 (pt_not (pt_val (pe_calG hgd c_law_same (hr.mono (by decide)) pass0 (pa_cons (pe_ix (ixLA K rfl) (pv 5) (pv 6) (fun _ _ => rfl)) (pa_cons (pv 7) pa_nil)))))))) (pss_one (ps_ret pe_bl)) pss_nil))))
      (pss_cons (ps_if (PW.pt (pw_or (pt_not (pt_val (pe_calG hgd c_law_same (hr.mono (by decide)) pass0 (pa_cons (pe_errFA K rfl (pe_mkE D.BadLine (hr.mono (by decide)) (pv 2))) (pa_cons (pv 2) pa_nil))))) (pw_or1 (pt_not (pt_val (pe_calG hgd c_law_same (hr.mono (by decide)) pass0 (pa_cons (pe_errFA K rfl (pe_mkEK D.BadLine (hr.mono (by decide)) (pv 3))) (pa_cons (pv 3) pa_nil)))))))) (pss_one (ps_ret pe_bl)) pss_nil)
      (pss_one (ps_ret (pe_cal0 c_law_bases (hr.mono (by decide)) pass0))))))))))))))), ?_⟩
    walk_at "go"
    refine ⟨a, ns, 0, rfl, hS, hl, by decide, by decide, fun b H1 n1 s1 hb => ?_⟩
    walk_at "rd"
    refine r_newT (Nat.le_of_ble_eq_true rfl) (fun p2 H2 n2 s2 h2 => ?_)
    walk_at "rd"
    refine r_newL (Nat.le_of_ble_eq_true rfl) (fun p3 H3 n3 s3 h3 => ?_)
    walk_at "rd"
    refine r_newL (Nat.le_of_ble_eq_true rfl) (fun p4 H4 n4 s4 h4 => ?_)
    walk_at "rd"
    refine ⟨b, 7, 0, rfl, hb.same (by walk_at "same"), by decide, by decide, by decide, fun r H5 r0 r1 s5 hb5 => ?_⟩
    have e2 : p2 ≠ b := hb.ne n2
    have e3 : p3 ≠ b := (hb.same s2).ne n3
    have e4 : p4 ≠ b := ((hb.same s2).same s3).ne n4
    have h52 := s5.get e2 (by walk_at "at" : H4 p2 = some (.tup [V.int 1, V.int 2]))
    have h53 := s5.get e3 (by walk_at "at" : H4 p3 = some (.lst [V.str "x"]))
    have h54 := s5.get e4 h4
    obtain ⟨va, ea, ma⟩ := atI_mem (xs := [V.str "p", V.int 0, V.non, V.int (-3), V.ref p2, V.ref p3, V.bl true]) r0 r1
    refine r_ixL (.of h54) ea ?_
    walk_at "rd"
    refine fun p6 n6 => (show _ from ⟨upd_same, [(Sum.inr "k", V.int 1)], rfl, by decide, ?_⟩)
    have s6 : Same H5 (upd (upd H5 p6 (.dK [])) p6 (.dK [(Sum.inr "k", V.int 1)])) := by
      rw [upd_upd]
      exact Same.upd n6
    have h6 : (upd (upd H5 p6 (.dK [])) p6 (.dK [(Sum.inr "k", V.int 1)])) p6 = some (.dK [(Sum.inr "k", V.int 1)]) := upd_same
    show tCons _ _ _ (upd (upd H5 p6 (.dK [])) p6 (.dK [(Sum.inr "k", V.int 1)])) _
    generalize upd (upd H5 p6 (.dK [])) p6 (.dK [(Sum.inr "k", V.int 1)]) = H6 at s6 h6 ⊢
    walk_at "rd"
    refine r_PowW (powW (by decide) (by decide) (by decide)) ?_
    walk_at "rd"
    refine r_newT (Nat.le_of_ble_eq_true rfl) (fun p7 H7 n7 s7 h7 => ?_)
    walk_at "rd"
    refine r_newL (Nat.le_of_ble_eq_true rfl) (fun p8 H8 n8 s8 h8 => ?_)
    walk_at "rd"
    refine ⟨b, 5, 1, rfl, hb5.same (by walk_at "same"), by decide, by decide, by decide, fun q H9 q0 q1 s9 hb9 => ?_⟩
    have e6 : p6 ≠ b := hb5.ne n6
    have e7 : p7 ≠ b := (hb5.same s6).ne n7
    have e8 : p8 ≠ b := ((hb5.same s6).same s7).ne n8
    have h92 := s9.get e2 (by walk_at "at" : H8 p2 = some (.tup [V.int 1, V.int 2]))
    have h93 := s9.get e3 (by walk_at "at" : H8 p3 = some (.lst [V.str "x"]))
    have h96 := s9.get e6 (by walk_at "at" : H8 p6 = some (.dK [(Sum.inr "k", V.int 1)]))
    have h97 := s9.get e7 (by walk_at "at" : H8 p7 = some (.tup [V.str "q"]))
    obtain ⟨vb, eb, mb⟩ := atI_mem (xs := [V.ref p6, V.int (10 ^ Int.toNat 30), V.str "", V.ref p7, V.bl false]) q0 q1
    refine r_ixL (.of (s9.get e8 h8)) eb ?_
    have sa : Shw K H9 va := by
      simp only [List.mem_cons, List.mem_nil_iff, or_false] at ma
      rcases ma with rfl | rfl | rfl | rfl | rfl | rfl | rfl
      · exact shw_str _ (by decide +kernel)
      · exact shw_int _ (by decide +kernel) (by decide +kernel)
      · exact shw_non
      · exact shw_int _ (by decide +kernel) (by decide +kernel)
      · exact shw_tup h92 (.cons (.int 1) (.cons (.int 2) .nil)) (by decide) (by decide +kernel) (by decide) (by decide +kernel)
      · exact shw_lst h93 (.cons (.str "x") .nil) (by decide) (by decide +kernel) (by decide) (by decide +kernel)
      · exact shw_bl true
    have sb : Shw K H9 vb := by
      simp only [List.mem_cons, List.mem_nil_iff, or_false] at mb
      rcases mb with rfl | rfl | rfl | rfl | rfl
      · exact shw_dic h96 rfl (by decide +kernel) (by decide) (by decide +kernel)
      · exact shw_int _ (by decide +kernel) (by decide +kernel)
      · exact shw_str _ (by decide +kernel)
      · exact shw_tup h97 (.cons (.str "q") .nil) (by decide) (by decide +kernel) (by decide) (by decide +kernel)
      · exact shw_bl false
    walk_at "rd"
    refine fun a10 E10 f10 r10 e10 => ?_
    refine r_errF e10 D.BadNumber.T.xf D.BadNumber.T.noF ?_
    walk_at "rd"
    refine fun a11 E11 f11 r11 e11 => ?_
    refine r_errF e11 D.BadName.T.xf D.BadName.T.noF ?_
    walk_at "rd"
    refine fun a12 E12 f12 r12 e12 => ?_
    refine r_errF e12 D.BadWeight.T.xf D.BadWeight.T.noF ?_
    walk_at "rd"
    refine fun a13 E13 f13 r13 e13 => ?_
    refine r_errF e13 D.BadShare.T.xf D.BadShare.T.noF ?_
    walk_at "rd"
    refine fun a14 E14 f14 r14 e14 => ?_
    refine r_errF e14 D.BadRow.T.xf D.BadRow.T.noF ?_
    walk_at "rd"
    refine r_newL (Nat.le_of_ble_eq_true rfl) (fun u0 U0 m0 w0 k0 => ?_)
    walk_at "rd"
    refine fun a15 E15 f15 r15 e15 => ?_
    refine r_errF e15 D.BadOrder.T.xf D.BadOrder.T.noF ?_
    walk_at "rd"
    refine fun a16 E16 f16 r16 e16 => ?_
    refine r_errF e16 D.BadCount.T.xf D.BadCount.T.noF ?_
    walk_at "rd"
    refine fun a17 E17 f17 r17 e17 => ?_
    refine r_errF e17 D.BadRing.T.xf D.BadRing.T.noF ?_
    walk_at "rd"
    refine fun a18 E18 f18 r18 e18 => ?_
    refine r_errF e18 D.BadDelay.T.xf D.BadDelay.T.noF ?_
    walk_at "rd"
    refine fun a19 E19 f19 r19 e19 => ?_
    refine r_errF e19 D.BadTimes.T.xf D.BadTimes.T.noF ?_
    walk_at "rd"
    refine r_newL (Nat.le_of_ble_eq_true rfl) (fun u1 U1 m1 w1 k1 => ?_)
    walk_at "rd"
    refine r_cat (by walk_at "at") (by walk_at "at") (by exact Nat.le_of_ble_eq_true rfl) (fun x1 X1 y1 z1 l1 => ?_)
    walk_at "rd"
    refine fun a20 E20 f20 r20 e20 => ?_
    refine r_errF e20 D.BadWish.T.xf D.BadWish.T.noF ?_
    walk_at "rd"
    refine fun a21 E21 f21 r21 e21 => ?_
    refine r_errF e21 D.NoRecorder.T.xf D.NoRecorder.T.noF ?_
    walk_at "rd"
    refine fun a22 E22 f22 r22 e22 => ?_
    refine r_errF e22 D.NoThing.T.xf D.NoThing.T.noF ?_
    walk_at "rd"
    refine fun a23 E23 f23 r23 e23 => ?_
    refine r_errF e23 D.InUse.T.xf D.InUse.T.noF ?_
    walk_at "rd"
    refine r_newL (Nat.le_of_ble_eq_true rfl) (fun u2 U2 m2 w2 k2 => ?_)
    walk_at "rd"
    refine r_cat (by walk_at "at") (by walk_at "at") (by exact Nat.le_of_ble_eq_true rfl) (fun x2 X2 y2 z2 l2 => ?_)
    walk_at "rd"
    refine fun a24 E24 f24 r24 e24 => ?_
    refine r_errF e24 D.BadNumber.T.xf D.BadNumber.T.noF ?_
    walk_at "rd"
    refine fun a25 E25 f25 r25 e25 => ?_
    refine r_errF e25 D.BadName.T.xf D.BadName.T.noF ?_
    walk_at "rd"
    refine fun a26 E26 f26 r26 e26 => ?_
    refine r_errF e26 D.BadWeight.T.xf D.BadWeight.T.noF ?_
    walk_at "rd"
    refine fun a27 E27 f27 r27 e27 => ?_
    refine r_errF e27 D.BadShare.T.xf D.BadShare.T.noF ?_
    walk_at "rd"
    refine r_newL (Nat.le_of_ble_eq_true rfl) (fun u3 U3 m3 w3 k3 => ?_)
    walk_at "rd"
    refine fun a28 E28 f28 r28 e28 => ?_
    refine r_errF e28 D.BadRow.T.xf D.BadRow.T.noF ?_
    walk_at "rd"
    refine fun a29 E29 f29 r29 e29 => ?_
    refine r_errF e29 D.BadOrder.T.xf D.BadOrder.T.noF ?_
    walk_at "rd"
    refine fun a30 E30 f30 r30 e30 => ?_
    refine r_errF e30 D.BadCount.T.xf D.BadCount.T.noF ?_
    walk_at "rd"
    refine fun a31 E31 f31 r31 e31 => ?_
    refine r_errF e31 D.BadRing.T.xf D.BadRing.T.noF ?_
    walk_at "rd"
    refine r_newL (Nat.le_of_ble_eq_true rfl) (fun u4 U4 m4 w4 k4 => ?_)
    walk_at "rd"
    refine r_cat (by walk_at "at") (by walk_at "at") (by exact Nat.le_of_ble_eq_true rfl) (fun x4 X4 y4 z4 l4 => ?_)
    walk_at "rd"
    refine fun a32 E32 f32 r32 e32 => ?_
    refine r_errF e32 D.BadDelay.T.xf D.BadDelay.T.noF ?_
    walk_at "rd"
    refine fun a33 E33 f33 r33 e33 => ?_
    refine r_errF e33 D.BadTimes.T.xf D.BadTimes.T.noF ?_
    walk_at "rd"
    refine fun a34 E34 f34 r34 e34 => ?_
    refine r_errF e34 D.BadWish.T.xf D.BadWish.T.noF ?_
    walk_at "rd"
    refine fun a35 E35 f35 r35 e35 => ?_
    refine r_errF e35 D.NoRecorder.T.xf D.NoRecorder.T.noF ?_
    walk_at "rd"
    refine r_newL (Nat.le_of_ble_eq_true rfl) (fun u5 U5 m5 w5 k5 => ?_)
    walk_at "rd"
    refine r_cat (by walk_at "at") (by walk_at "at") (by exact Nat.le_of_ble_eq_true rfl) (fun x5 X5 y5 z5 l5 => ?_)
    walk_at "rd"
    refine fun a36 E36 f36 r36 e36 => ?_
    refine r_errF e36 D.NoThing.T.xf D.NoThing.T.noF ?_
    walk_at "rd"
    refine fun a37 E37 f37 r37 e37 => ?_
    refine r_errF e37 D.InUse.T.xf D.InUse.T.noF ?_
    walk_at "rd"
    refine r_newL (Nat.le_of_ble_eq_true rfl) (fun u6 U6 m6 w6 k6 => ?_)
    walk_at "rd"
    refine r_cat (by walk_at "at") (by walk_at "at") (by exact Nat.le_of_ble_eq_true rfl) (fun x6 X6 y6 z6 l6 => ?_)
    walk_at "rd"
    refine r_forR ?_
    walk_at "rd"
    refine r_range 14 (fun i σ H => ∃ u w, σ = [some (.ref a), some (.ref b), some va, some vb, some (.ref x2), some (.ref x6), u, w] ∧ Same X6 H) rfl (by decide)
      ⟨none, none, rfl, Same.refl _⟩ ?_ ?_
    · rintro i σ H hi ⟨u, w, rfl, sH⟩
      have alt : [va, vb, va, vb, va, vb, va, vb, va, vb, va, vb, va, vb][i]? = some (if i % 2 = 0 then va else vb) := by
        match i, hi with
        | 0, _ => rfl
        | 1, _ => rfl
        | 2, _ => rfl
        | 3, _ => rfl
        | 4, _ => rfl
        | 5, _ => rfl
        | 6, _ => rfl
        | 7, _ => rfl
        | 8, _ => rfl
        | 9, _ => rfl
        | 10, _ => rfl
        | 11, _ => rfl
        | 12, _ => rfl
        | 13, _ => rfl
        | n + 14, h => omega
      have hw : Shw K H (if i % 2 = 0 then va else vb) := by
        split
        · exact sa.same (by walk_at "same")
        · exact sb.same (by walk_at "same")
      have m1 : H x2 = some (.lst [va, vb, va, vb, va, vb, va, vb, va, vb, va, vb, va, vb]) := (by walk_at "at")
      have m2 : H x6 = some (.lst [va, vb, va, vb, va, vb, va, vb, va, vb, va, vb, va, vb]) := (by walk_at "at")
      walk_at "rd"
      refine r_Mod (by decide) ?_
      walk_at "rd"
      refine r_eq rfl ?_
      walk_at "rd"
      by_cases hp : i % 2 = 0
      all_goals
        first
          | (rw [decide_eq_true (show V.int ((i : Int) % 2) = V.int 0 from congrArg V.int (by omega))]; refine iteT ?_; rw [if_pos hp] at alt hw)
          | (rw [decide_eq_false (show ¬ V.int ((i : Int) % 2) = V.int 0 from fun z => hp (by have z2 := V.int.inj z; omega))]; refine iteF ?_; rw [if_neg hp] at alt hw)
        walk_at "rd"
        refine r_ixL (.of m1) (atI_nat alt) ?_
        walk_at "rd"
        refine ⟨_, rfl, hw, ?_⟩
        walk_at "rd"
        refine iteF ?_
        walk_at "rd"
        refine r_ixL (.of m2) (atI_nat alt) ?_
        walk_at "rd"
        refine ⟨_, rfl, hw, ?_⟩
        walk_at "rd"
        refine iteF ?_
        walk_at "rd"
        exact ⟨_, _, rfl, sH⟩
    · rintro σ H ⟨u, w, rfl, sH⟩
      walk_at "rd"
      refine fun a40 E40 f40 r40 e40 => ?_
      refine r_errF e40 D.BadLine.T.xf D.BadLine.T.noF ?_
      walk_at "rd"
      refine ⟨_, rfl, sa.same (by walk_at "same"), ?_⟩
      walk_at "rd"
      refine iteF ?_
      walk_at "rd"
      refine fun a41 E41 f41 r41 e41 => ?_
      refine r_errF e41 D.BadLine.T.xf D.BadLine.T.noF ?_
      walk_at "rd"
      refine ⟨_, rfl, sb.same (by walk_at "same"), ?_⟩
      walk_at "rd"
      refine iteF ?_
      walk_at "rd"
      exact ⟨rfl, fun H' _ => kq H'⟩
end
/-! ## the head -/
abbrev i_BadNumber : Stmt := inClass (top 9) 0
abbrev i_BadName : Stmt := inClass (top 10) 0
abbrev i_BadWeight : Stmt := inClass (top 11) 0
abbrev i_BadShare : Stmt := inClass (top 12) 0
abbrev i_BadRow : Stmt := inClass (top 13) 0
abbrev i_BadOrder : Stmt := inClass (top 14) 0
abbrev i_BadCount : Stmt := inClass (top 15) 0
abbrev i_BadRing : Stmt := inClass (top 16) 0
abbrev i_BadDelay : Stmt := inClass (top 17) 0
abbrev i_BadTimes : Stmt := inClass (top 18) 0
abbrev i_BadWish : Stmt := inClass (top 19) 0
abbrev i_NoRecorder : Stmt := inClass (top 20) 0
abbrev i_NoThing : Stmt := inClass (top 21) 0
abbrev i_InUse : Stmt := inClass (top 22) 0
abbrev i_BadLine : Stmt := inClass (top 23) 0
def fns : List He.DefD := [⟨("_law_cell", none), "_law_cell", "_law_cell", defArgs s__law_cell, defBody s__law_cell, defScope s__law_cell, [], []⟩,
  ⟨("_law_box", none), "_law_box", "_law_box", defArgs s__law_box, defBody s__law_box, defScope s__law_box, [], []⟩,
  ⟨("_law_take", none), "_law_take", "_law_take", defArgs s__law_take, defBody s__law_take, defScope s__law_take, [], []⟩,
  ⟨("_law_same", none), "_law_same", "_law_same", defArgs s__law_same, defBody s__law_same, defScope s__law_same, [], []⟩,
  ⟨("_law_kinds", none), "_law_kinds", "_law_kinds", defArgs s__law_kinds, defBody s__law_kinds, defScope s__law_kinds, [], []⟩,
  ⟨("_law_bases", none), "_law_bases", "_law_bases", defArgs s__law_bases, defBody s__law_bases, defScope s__law_bases, [], []⟩,
  ⟨("law", none), "law", "law", defArgs s_law, defBody s_law, defScope s_law, [], []⟩,
  ⟨("BadNumber", some "__init__"), "__init__", "BadNumber.__init__", defArgs i_BadNumber, defBody i_BadNumber, defScope i_BadNumber, [], []⟩,
  ⟨("BadName", some "__init__"), "__init__", "BadName.__init__", defArgs i_BadName, defBody i_BadName, defScope i_BadName, [], []⟩,
  ⟨("BadWeight", some "__init__"), "__init__", "BadWeight.__init__", defArgs i_BadWeight, defBody i_BadWeight, defScope i_BadWeight, [], []⟩,
  ⟨("BadShare", some "__init__"), "__init__", "BadShare.__init__", defArgs i_BadShare, defBody i_BadShare, defScope i_BadShare, [], []⟩,
  ⟨("BadRow", some "__init__"), "__init__", "BadRow.__init__", defArgs i_BadRow, defBody i_BadRow, defScope i_BadRow, [], []⟩,
  ⟨("BadOrder", some "__init__"), "__init__", "BadOrder.__init__", defArgs i_BadOrder, defBody i_BadOrder, defScope i_BadOrder, [], []⟩,
  ⟨("BadCount", some "__init__"), "__init__", "BadCount.__init__", defArgs i_BadCount, defBody i_BadCount, defScope i_BadCount, [], []⟩,
  ⟨("BadRing", some "__init__"), "__init__", "BadRing.__init__", defArgs i_BadRing, defBody i_BadRing, defScope i_BadRing, [], []⟩,
  ⟨("BadDelay", some "__init__"), "__init__", "BadDelay.__init__", defArgs i_BadDelay, defBody i_BadDelay, defScope i_BadDelay, [], []⟩,
  ⟨("BadTimes", some "__init__"), "__init__", "BadTimes.__init__", defArgs i_BadTimes, defBody i_BadTimes, defScope i_BadTimes, [], []⟩,
  ⟨("BadWish", some "__init__"), "__init__", "BadWish.__init__", defArgs i_BadWish, defBody i_BadWish, defScope i_BadWish, [], []⟩,
  ⟨("NoRecorder", some "__init__"), "__init__", "NoRecorder.__init__", defArgs i_NoRecorder, defBody i_NoRecorder, defScope i_NoRecorder, [], []⟩,
  ⟨("NoThing", some "__init__"), "__init__", "NoThing.__init__", defArgs i_NoThing, defBody i_NoThing, defScope i_NoThing, [], []⟩,
  ⟨("InUse", some "__init__"), "__init__", "InUse.__init__", defArgs i_InUse, defBody i_InUse, defScope i_InUse, [], []⟩,
  ⟨("BadLine", some "__init__"), "__init__", "BadLine.__init__", defArgs i_BadLine, defBody i_BadLine, defScope i_BadLine, [], []⟩]
def ks : List Str := ["BadNumber", "BadName", "BadWeight", "BadShare", "BadRow", "BadOrder", "BadCount", "BadRing", "BadDelay", "BadTimes", "BadWish", "NoRecorder", "NoThing", "InUse", "ByZero", "BadText", "NoWay", "LastOne", "UnlikeRecords", "NothingToUndo", "NothingToRedo", "BadLine"]
def fKit : Fx := fun K => (List.range 22).all fun i => (List.range 22).all fun j =>
  decide (PySem.W.kitOne K (.ref (He.ga K (ks.getD i ""))) (.ref (He.ga K (ks.getD j ""))) = some (decide (i = j)))
def fOE : Fx := fun K => ks.all fun x => decide (PySem.W.kitOne K (.ref (He.ga K x)) (.ref (He.ga K "OrderError")) = some true)
def fVE : Fx := fun K => ks.all fun x => decide (PySem.W.kitOne K (.ref (He.ga K x)) (.type "ValueError") = some true)
def fxs : List Fx := [fFree "len", fFree "abs", fFree "int", fFree "bool", fFree "repr", fFree "range", fFree "isinstance", fFree "ValueError", fGlo "_law_cell", fGlo "_law_box", fGlo "_law_take", fGlo "_law_same", fGlo "_law_kinds", fGlo "_law_bases", fGlo "law", fGlo "OrderError", fKit, fOE, fVE, fErr "BadNumber" "given", fErr "BadName" "given", fErr "BadWeight" "given", fErr "BadShare" "given", fErr "BadRow" "given", fErr "BadOrder" "given", fErr "BadCount" "given", fErr "BadRing" "given", fErr "BadDelay" "given", fErr "BadTimes" "given", fErr "BadWish" "given", fErr "NoRecorder" "given", fErr "NoThing" "given", fErr "InUse" "given", fErr "BadLine" "line", fExc "ByZero", fExc "BadText", fExc "NoWay", fExc "LastOne", fExc "UnlikeRecords", fExc "NothingToUndo", fExc "NothingToRedo"]
abbrev R : PySem.W.OpenRow := PySem.W.OpenLaw.row PySem.Challenge.rw_fairbatches_k01_errors
abbrev qv : Program := PySem.W.view R.prog [31]
abbrev hk : PySem.W.Hook := hookX 5 fxs fns
def ob (s : PySem.W.SharedT) : He.AlD := obsXG 5 fxs fns (HandSHeadRun.getT s)
theorem ob_eq (s : PySem.W.SharedT) : ob s = hk.obs s.abs := obsXG_eq (HandSHeadRun.getT_eq s)
def names : List Str := ["OrderError", "ByZero", "BadText", "NoWay", "LastOne", "UnlikeRecords", "NothingToUndo", "NothingToRedo", "BadNumber", "BadName", "BadWeight", "BadShare", "BadRow", "BadOrder", "BadCount", "BadRing", "BadDelay", "BadTimes", "BadWish", "NoRecorder", "NoThing", "InUse", "BadLine", "_law_cell", "_law_box", "_law_take", "_law_same", "_law_kinds", "_law_bases"]
theorem run (w : World) : HandSHeadRun.RunEq R qv hk ob 6000 names w := by
  intro os
  kernel_rfl
theorem facts {P : Program} {w : World} {K : PySem.W.Frag} {h : Heap} {mg : Str → Option Value} {fa : Addr} (X : K.In h) (G : h.Ns mainGlobals mg)
    (hfa : mg ("law" : Str) = some (.ref fa)) (c : SaysX fxs fns K) :
    ∃ fd : FuncData, (∀ (s : Shared) (v : Value), BindsTo s fd ⟨[v], []⟩ [(("_law_script" : Str), v)]) ∧
      ∀ base : Heap, K.In base → base.Ns mainGlobals mg → FnG P w K mg base CX0 5 fa fd ["_law_script"] (spLaw K) := by
  obtain ⟨fd__law_cell, F__law_cell⟩ := c.fn_ 0 (d := ⟨("_law_cell", none), "_law_cell", "_law_cell", defArgs s__law_cell, defBody s__law_cell, defScope s__law_cell, [], []⟩) rfl
  obtain ⟨fd__law_box, F__law_box⟩ := c.fn_ 1 (d := ⟨("_law_box", none), "_law_box", "_law_box", defArgs s__law_box, defBody s__law_box, defScope s__law_box, [], []⟩) rfl
  obtain ⟨fd__law_take, F__law_take⟩ := c.fn_ 2 (d := ⟨("_law_take", none), "_law_take", "_law_take", defArgs s__law_take, defBody s__law_take, defScope s__law_take, [], []⟩) rfl
  obtain ⟨fd__law_same, F__law_same⟩ := c.fn_ 3 (d := ⟨("_law_same", none), "_law_same", "_law_same", defArgs s__law_same, defBody s__law_same, defScope s__law_same, [], []⟩) rfl
  obtain ⟨fd__law_kinds, F__law_kinds⟩ := c.fn_ 4 (d := ⟨("_law_kinds", none), "_law_kinds", "_law_kinds", defArgs s__law_kinds, defBody s__law_kinds, defScope s__law_kinds, [], []⟩) rfl
  obtain ⟨fd__law_bases, F__law_bases⟩ := c.fn_ 5 (d := ⟨("_law_bases", none), "_law_bases", "_law_bases", defArgs s__law_bases, defBody s__law_bases, defScope s__law_bases, [], []⟩) rfl
  obtain ⟨fd_law, F_law⟩ := c.fn_ 6 (d := ⟨("law", none), "law", "law", defArgs s_law, defBody s_law, defScope s_law, [], []⟩) rfl
  obtain ⟨fd_BadNumber, F_BadNumber⟩ := c.fn_ 7 (d := ⟨("BadNumber", some "__init__"), "__init__", "BadNumber.__init__", defArgs i_BadNumber, defBody i_BadNumber, defScope i_BadNumber, [], []⟩) rfl
  obtain ⟨fd_BadName, F_BadName⟩ := c.fn_ 8 (d := ⟨("BadName", some "__init__"), "__init__", "BadName.__init__", defArgs i_BadName, defBody i_BadName, defScope i_BadName, [], []⟩) rfl
  obtain ⟨fd_BadWeight, F_BadWeight⟩ := c.fn_ 9 (d := ⟨("BadWeight", some "__init__"), "__init__", "BadWeight.__init__", defArgs i_BadWeight, defBody i_BadWeight, defScope i_BadWeight, [], []⟩) rfl
  obtain ⟨fd_BadShare, F_BadShare⟩ := c.fn_ 10 (d := ⟨("BadShare", some "__init__"), "__init__", "BadShare.__init__", defArgs i_BadShare, defBody i_BadShare, defScope i_BadShare, [], []⟩) rfl
  obtain ⟨fd_BadRow, F_BadRow⟩ := c.fn_ 11 (d := ⟨("BadRow", some "__init__"), "__init__", "BadRow.__init__", defArgs i_BadRow, defBody i_BadRow, defScope i_BadRow, [], []⟩) rfl
  obtain ⟨fd_BadOrder, F_BadOrder⟩ := c.fn_ 12 (d := ⟨("BadOrder", some "__init__"), "__init__", "BadOrder.__init__", defArgs i_BadOrder, defBody i_BadOrder, defScope i_BadOrder, [], []⟩) rfl
  obtain ⟨fd_BadCount, F_BadCount⟩ := c.fn_ 13 (d := ⟨("BadCount", some "__init__"), "__init__", "BadCount.__init__", defArgs i_BadCount, defBody i_BadCount, defScope i_BadCount, [], []⟩) rfl
  obtain ⟨fd_BadRing, F_BadRing⟩ := c.fn_ 14 (d := ⟨("BadRing", some "__init__"), "__init__", "BadRing.__init__", defArgs i_BadRing, defBody i_BadRing, defScope i_BadRing, [], []⟩) rfl
  obtain ⟨fd_BadDelay, F_BadDelay⟩ := c.fn_ 15 (d := ⟨("BadDelay", some "__init__"), "__init__", "BadDelay.__init__", defArgs i_BadDelay, defBody i_BadDelay, defScope i_BadDelay, [], []⟩) rfl
  obtain ⟨fd_BadTimes, F_BadTimes⟩ := c.fn_ 16 (d := ⟨("BadTimes", some "__init__"), "__init__", "BadTimes.__init__", defArgs i_BadTimes, defBody i_BadTimes, defScope i_BadTimes, [], []⟩) rfl
  obtain ⟨fd_BadWish, F_BadWish⟩ := c.fn_ 17 (d := ⟨("BadWish", some "__init__"), "__init__", "BadWish.__init__", defArgs i_BadWish, defBody i_BadWish, defScope i_BadWish, [], []⟩) rfl
  obtain ⟨fd_NoRecorder, F_NoRecorder⟩ := c.fn_ 18 (d := ⟨("NoRecorder", some "__init__"), "__init__", "NoRecorder.__init__", defArgs i_NoRecorder, defBody i_NoRecorder, defScope i_NoRecorder, [], []⟩) rfl
  obtain ⟨fd_NoThing, F_NoThing⟩ := c.fn_ 19 (d := ⟨("NoThing", some "__init__"), "__init__", "NoThing.__init__", defArgs i_NoThing, defBody i_NoThing, defScope i_NoThing, [], []⟩) rfl
  obtain ⟨fd_InUse, F_InUse⟩ := c.fn_ 20 (d := ⟨("InUse", some "__init__"), "__init__", "InUse.__init__", defArgs i_InUse, defBody i_InUse, defScope i_InUse, [], []⟩) rfl
  obtain ⟨fd_BadLine, F_BadLine⟩ := c.fn_ 21 (d := ⟨("BadLine", some "__init__"), "__init__", "BadLine.__init__", defArgs i_BadLine, defBody i_BadLine, defScope i_BadLine, [], []⟩) rfl
  have b__law_cell : L2.Binds K fd__law_cell ["_law_script", "_law_k"] [] := F__law_cell.bindsN fun _ _ _ _ _ _ us hl => match us, hl with | [_, _], _ => rfl
  have b__law_box : L2.Binds K fd__law_box ["_law_script", "_law_k"] [] := F__law_box.bindsN fun _ _ _ _ _ _ us hl => match us, hl with | [_, _], _ => rfl
  have b__law_take : L2.Binds K fd__law_take ["_law_box_here", "_law_many"] [] := F__law_take.bindsN fun _ _ _ _ _ _ us hl => match us, hl with | [_, _], _ => rfl
  have b__law_same : L2.Binds K fd__law_same ["_law_one", "_law_other"] [] := F__law_same.bindsN fun _ _ _ _ _ _ us hl => match us, hl with | [_, _], _ => rfl
  have b__law_kinds : L2.Binds K fd__law_kinds ["_law_e"] [] := F__law_kinds.bindsN fun _ _ _ _ _ _ us hl => match us, hl with | [_], _ => rfl
  have b__law_bases : L2.Binds K fd__law_bases [] [] := F__law_bases.bindsN fun _ _ _ _ _ _ us hl => match us, hl with | [], _ => rfl
  have b_law : L2.Binds K fd_law ["_law_script"] [] := F_law.bindsN fun _ _ _ _ _ _ us hl => match us, hl with | [_], _ => rfl
  have el := hfa.symm.trans (fGlo_ok X G (c.fact 14 (f := fGlo "law")))
  have ef := Value.ref.inj (Option.some.inj el)
  subst ef
  refine ⟨fd_law, fun s v => FunD.bindsA (ps := ["_law_script"]) F_law (fun _ _ _ _ _ _ us hl => match us, hl with | [_], _ => rfl) s [v] rfl, fun base _ _ => ?_⟩
  let D : Dt P w K mg base := {
    free_len := fFree_ok X G (c.fact 0 (f := fFree "len"))
    free_abs := fFree_ok X G (c.fact 1 (f := fFree "abs"))
    free_int := fFree_ok X G (c.fact 2 (f := fFree "int"))
    free_bool := fFree_ok X G (c.fact 3 (f := fFree "bool"))
    free_repr := fFree_ok X G (c.fact 4 (f := fFree "repr"))
    free_range := fFree_ok X G (c.fact 5 (f := fFree "range"))
    free_isinstance := fFree_ok X G (c.fact 6 (f := fFree "isinstance"))
    free_ValueError := fFree_ok X G (c.fact 7 (f := fFree "ValueError"))
    OrderError := ⟨He.ga K "OrderError", fGlo_ok X G (c.fact 15 (f := fGlo "OrderError"))⟩
    BadNumber := ⟨He.ga K "BadNumber", He.ma K (He.ga K "BadNumber") "__init__", fd_BadNumber, fErr_ok X G (c.fact 19 (f := fErr "BadNumber" "given")),
      ok_given F_BadNumber ⟨rfl, rfl, rfl, by decide +kernel, rfl, by decide +kernel, by decide +kernel⟩ rfl rfl,
      errB_of F_BadNumber (fun _ _ _ _ _ _ _ _ => rfl) (fun _ _ _ _ _ _ _ _ => rfl)⟩
    BadName := ⟨He.ga K "BadName", He.ma K (He.ga K "BadName") "__init__", fd_BadName, fErr_ok X G (c.fact 20 (f := fErr "BadName" "given")),
      ok_given F_BadName ⟨rfl, rfl, rfl, by decide +kernel, rfl, by decide +kernel, by decide +kernel⟩ rfl rfl,
      errB_of F_BadName (fun _ _ _ _ _ _ _ _ => rfl) (fun _ _ _ _ _ _ _ _ => rfl)⟩
    BadWeight := ⟨He.ga K "BadWeight", He.ma K (He.ga K "BadWeight") "__init__", fd_BadWeight, fErr_ok X G (c.fact 21 (f := fErr "BadWeight" "given")),
      ok_given F_BadWeight ⟨rfl, rfl, rfl, by decide +kernel, rfl, by decide +kernel, by decide +kernel⟩ rfl rfl,
      errB_of F_BadWeight (fun _ _ _ _ _ _ _ _ => rfl) (fun _ _ _ _ _ _ _ _ => rfl)⟩
    BadShare := ⟨He.ga K "BadShare", He.ma K (He.ga K "BadShare") "__init__", fd_BadShare, fErr_ok X G (c.fact 22 (f := fErr "BadShare" "given")),
      ok_given F_BadShare ⟨rfl, rfl, rfl, by decide +kernel, rfl, by decide +kernel, by decide +kernel⟩ rfl rfl,
      errB_of F_BadShare (fun _ _ _ _ _ _ _ _ => rfl) (fun _ _ _ _ _ _ _ _ => rfl)⟩
    BadRow := ⟨He.ga K "BadRow", He.ma K (He.ga K "BadRow") "__init__", fd_BadRow, fErr_ok X G (c.fact 23 (f := fErr "BadRow" "given")),
      ok_given F_BadRow ⟨rfl, rfl, rfl, by decide +kernel, rfl, by decide +kernel, by decide +kernel⟩ rfl rfl,
      errB_of F_BadRow (fun _ _ _ _ _ _ _ _ => rfl) (fun _ _ _ _ _ _ _ _ => rfl)⟩
    BadOrder := ⟨He.ga K "BadOrder", He.ma K (He.ga K "BadOrder") "__init__", fd_BadOrder, fErr_ok X G (c.fact 24 (f := fErr "BadOrder" "given")),
      ok_given F_BadOrder ⟨rfl, rfl, rfl, by decide +kernel, rfl, by decide +kernel, by decide +kernel⟩ rfl rfl,
      errB_of F_BadOrder (fun _ _ _ _ _ _ _ _ => rfl) (fun _ _ _ _ _ _ _ _ => rfl)⟩
    BadCount := ⟨He.ga K "BadCount", He.ma K (He.ga K "BadCount") "__init__", fd_BadCount, fErr_ok X G (c.fact 25 (f := fErr "BadCount" "given")),
      ok_given F_BadCount ⟨rfl, rfl, rfl, by decide +kernel, rfl, by decide +kernel, by decide +kernel⟩ rfl rfl,
      errB_of F_BadCount (fun _ _ _ _ _ _ _ _ => rfl) (fun _ _ _ _ _ _ _ _ => rfl)⟩
    BadRing := ⟨He.ga K "BadRing", He.ma K (He.ga K "BadRing") "__init__", fd_BadRing, fErr_ok X G (c.fact 26 (f := fErr "BadRing" "given")),
      ok_given F_BadRing ⟨rfl, rfl, rfl, by decide +kernel, rfl, by decide +kernel, by decide +kernel⟩ rfl rfl,
      errB_of F_BadRing (fun _ _ _ _ _ _ _ _ => rfl) (fun _ _ _ _ _ _ _ _ => rfl)⟩
    BadDelay := ⟨He.ga K "BadDelay", He.ma K (He.ga K "BadDelay") "__init__", fd_BadDelay, fErr_ok X G (c.fact 27 (f := fErr "BadDelay" "given")),
      ok_given F_BadDelay ⟨rfl, rfl, rfl, by decide +kernel, rfl, by decide +kernel, by decide +kernel⟩ rfl rfl,
      errB_of F_BadDelay (fun _ _ _ _ _ _ _ _ => rfl) (fun _ _ _ _ _ _ _ _ => rfl)⟩
    BadTimes := ⟨He.ga K "BadTimes", He.ma K (He.ga K "BadTimes") "__init__", fd_BadTimes, fErr_ok X G (c.fact 28 (f := fErr "BadTimes" "given")),
      ok_given F_BadTimes ⟨rfl, rfl, rfl, by decide +kernel, rfl, by decide +kernel, by decide +kernel⟩ rfl rfl,
      errB_of F_BadTimes (fun _ _ _ _ _ _ _ _ => rfl) (fun _ _ _ _ _ _ _ _ => rfl)⟩
    BadWish := ⟨He.ga K "BadWish", He.ma K (He.ga K "BadWish") "__init__", fd_BadWish, fErr_ok X G (c.fact 29 (f := fErr "BadWish" "given")),
      ok_given F_BadWish ⟨rfl, rfl, rfl, by decide +kernel, rfl, by decide +kernel, by decide +kernel⟩ rfl rfl,
      errB_of F_BadWish (fun _ _ _ _ _ _ _ _ => rfl) (fun _ _ _ _ _ _ _ _ => rfl)⟩
    NoRecorder := ⟨He.ga K "NoRecorder", He.ma K (He.ga K "NoRecorder") "__init__", fd_NoRecorder, fErr_ok X G (c.fact 30 (f := fErr "NoRecorder" "given")),
      ok_given F_NoRecorder ⟨rfl, rfl, rfl, by decide +kernel, rfl, by decide +kernel, by decide +kernel⟩ rfl rfl,
      errB_of F_NoRecorder (fun _ _ _ _ _ _ _ _ => rfl) (fun _ _ _ _ _ _ _ _ => rfl)⟩
    NoThing := ⟨He.ga K "NoThing", He.ma K (He.ga K "NoThing") "__init__", fd_NoThing, fErr_ok X G (c.fact 31 (f := fErr "NoThing" "given")),
      ok_given F_NoThing ⟨rfl, rfl, rfl, by decide +kernel, rfl, by decide +kernel, by decide +kernel⟩ rfl rfl,
      errB_of F_NoThing (fun _ _ _ _ _ _ _ _ => rfl) (fun _ _ _ _ _ _ _ _ => rfl)⟩
    InUse := ⟨He.ga K "InUse", He.ma K (He.ga K "InUse") "__init__", fd_InUse, fErr_ok X G (c.fact 32 (f := fErr "InUse" "given")),
      ok_given F_InUse ⟨rfl, rfl, rfl, by decide +kernel, rfl, by decide +kernel, by decide +kernel⟩ rfl rfl,
      errB_of F_InUse (fun _ _ _ _ _ _ _ _ => rfl) (fun _ _ _ _ _ _ _ _ => rfl)⟩
    BadLine := ⟨He.ga K "BadLine", He.ma K (He.ga K "BadLine") "__init__", fd_BadLine, fErr_ok X G (c.fact 33 (f := fErr "BadLine" "line")),
      ok_line F_BadLine ⟨rfl, rfl, rfl, by decide +kernel, rfl, by decide +kernel, by decide +kernel⟩ rfl rfl,
      errB_of F_BadLine (fun _ _ _ _ _ _ _ _ => rfl) (fun _ _ _ _ _ _ _ _ => rfl)⟩
    ByZero := calP_of X G (c.fact 34 (f := fExc "ByZero"))
    BadText := calP_of X G (c.fact 35 (f := fExc "BadText"))
    NoWay := calP_of X G (c.fact 36 (f := fExc "NoWay"))
    LastOne := calP_of X G (c.fact 37 (f := fExc "LastOne"))
    UnlikeRecords := calP_of X G (c.fact 38 (f := fExc "UnlikeRecords"))
    NothingToUndo := calP_of X G (c.fact 39 (f := fExc "NothingToUndo"))
    NothingToRedo := calP_of X G (c.fact 40 (f := fExc "NothingToRedo")) }
  have ec : D.cls = ks.map (He.ga K) := rfl
  have at_k : ∀ (i : Nat) (B : Addr), D.cls[i]? = some B → i < 22 ∧ B = He.ga K (ks.getD i "") := by
    intro i B hB
    rw [ec, List.getElem?_map] at hB
    cases e : ks[i]? with
    | none =>
      rw [e] at hB
      cases hB
    | some x =>
      rw [e] at hB
      refine ⟨(List.getElem?_eq_some_iff.mp e).1, ?_⟩
      rw [List.getD_eq_getElem?_getD, e]
      exact (Option.some.inj hB).symm
  have mem_k : ∀ C ∈ D.cls, ∃ x ∈ ks, C = He.ga K x := by
    intro C hC
    rw [ec] at hC
    obtain ⟨x, hx, e⟩ := List.mem_map.mp hC
    exact ⟨x, hx, e.symm⟩
  have T : Kit D := by
    refine ⟨fun i j B C hB hC => ?_, fun C hC => ?_, fun C hC => ?_, fun C hC => ?_⟩
    · obtain ⟨hi, rfl⟩ := at_k i B hB
      obtain ⟨hj, rfl⟩ := at_k j C hC
      have z := c.fact 16 (f := fKit)
      exact of_decide_eq_true (List.all_eq_true.mp (List.all_eq_true.mp z i (List.mem_range.mpr hi)) j (List.mem_range.mpr hj))
    · obtain ⟨x, hx, rfl⟩ := mem_k C hC
      exact of_decide_eq_true (List.all_eq_true.mp (c.fact 17 (f := fOE)) x hx)
    · obtain ⟨x, hx, rfl⟩ := mem_k C hC
      exact of_decide_eq_true (List.all_eq_true.mp (c.fact 18 (f := fVE)) x hx)
    · have hC' : C ∈ [D.BadNumber.C, D.BadName.C, D.BadWeight.C, D.BadShare.C, D.BadRow.C, D.BadOrder.C, D.BadCount.C, D.BadRing.C, D.BadDelay.C, D.BadTimes.C, D.BadWish.C,
          D.NoRecorder.C, D.NoThing.C, D.InUse.C, D.ByZero.C, D.BadText.C, D.NoWay.C, D.LastOne.C, D.UnlikeRecords.C, D.NothingToUndo.C, D.NothingToRedo.C, D.BadLine.C] := hC
      simp only [List.mem_cons, List.mem_nil_iff, or_false] at hC'
      rcases hC' with rfl | rfl | rfl | rfl | rfl | rfl | rfl | rfl | rfl | rfl | rfl | rfl | rfl | rfl | rfl | rfl | rfl | rfl | rfl | rfl | rfl | rfl
      · exact D.BadNumber.T.exc
      · exact D.BadName.T.exc
      · exact D.BadWeight.T.exc
      · exact D.BadShare.T.exc
      · exact D.BadRow.T.exc
      · exact D.BadOrder.T.exc
      · exact D.BadCount.T.exc
      · exact D.BadRing.T.exc
      · exact D.BadDelay.T.exc
      · exact D.BadTimes.T.exc
      · exact D.BadWish.T.exc
      · exact D.NoRecorder.T.exc
      · exact D.NoThing.T.exc
      · exact D.InUse.T.exc
      · exact D.ByZero.exc
      · exact D.BadText.exc
      · exact D.NoWay.exc
      · exact D.LastOne.exc
      · exact D.UnlikeRecords.exc
      · exact D.NothingToUndo.exc
      · exact D.NothingToRedo.exc
      · exact D.BadLine.T.exc
  let c_law_cell : Cal P w K mg base CX0 1 "_law_cell" ["_law_script", "_law_k"] (spCel K) := ⟨_, fd__law_cell, ok_law_cell D F__law_cell, fGlo_ok X G (c.fact 8 (f := fGlo "_law_cell")), F__law_cell.kp, b__law_cell⟩
  let c_law_box : Cal P w K mg base CX0 2 "_law_box" ["_law_script", "_law_k"] (spBx K) := ⟨_, fd__law_box, ok_law_box D c_law_cell F__law_box, fGlo_ok X G (c.fact 9 (f := fGlo "_law_box")), F__law_box.kp, b__law_box⟩
  let c_law_take : Cal P w K mg base CX0 1 "_law_take" ["_law_box_here", "_law_many"] spTk := ⟨_, fd__law_take, ok_law_take D F__law_take, fGlo_ok X G (c.fact 10 (f := fGlo "_law_take")), F__law_take.kp, b__law_take⟩
  let c_law_same : CalG P w K mg base CX0 1 "_law_same" ["_law_one", "_law_other"] (spSame K) := ⟨_, fd__law_same, ok_law_same D F__law_same, fGlo_ok X G (c.fact 11 (f := fGlo "_law_same")), F__law_same.kp, b__law_same⟩
  let c_law_kinds : Cal P w K mg base CX0 1 "_law_kinds" ["_law_e"] (spKinds D) := ⟨_, fd__law_kinds, ok_law_kinds D T F__law_kinds, fGlo_ok X G (c.fact 12 (f := fGlo "_law_kinds")), F__law_kinds.kp, b__law_kinds⟩
  let c_law_bases : Cal P w K mg base CX0 3 "_law_bases" [] spBases := ⟨_, fd__law_bases, ok_law_bases D T c_law_kinds F__law_bases, fGlo_ok X G (c.fact 13 (f := fGlo "_law_bases")), F__law_bases.kp, b__law_bases⟩
  exact ok_law D c_law_box c_law_take c_law_same c_law_bases F_law
end K01
open PySem PySem.W PySem.Calls PyProof.Rows
set_option maxRecDepth 100000 in
set_option maxHeartbeats 0 in
theorem PySem.Challenge.cw_fairbatches_k01_errors_holds : PySem.Challenge.rw_fairbatches_k01_errors.Holds := by
  w_on; o_law
  refine HandSHeadRun.head_any (r := K01.R) (q := K01.qv) (H := K01.hk) (ob := K01.ob) (M := 6000) (loose := K01.names)
    (d := HandSHeadRun.topDef K01.R.prog 31) (kwd := []) K01.ob_eq (by kernel_rfl) (fun s => by kernel_rfl) K01.run (by kernel_rfl) (by kernel_rfl)
    (by kernel_rfl) (by rfl) (by first | assumption | decide +kernel) (by decide +kernel) ⟨rfl, rfl, rfl, rfl, rfl, by decide +kernel⟩ ?hw ?hc
  case hw => w_witness2
  case hc =>
    refine My.walk_ofG (l := PySem.Challenge.rw_fairbatches_k01_errors) (n := 63) (k := 5) (x := "_law_script") (CX := fun _ => L2.CX0) rfl (by decide)
      (by kernel_rfl) ⟨rfl, by decide, by decide⟩ ?F (fun _ _ _ _ _ z => z)
    intro w mg fa h Y G hmg0
    obtain ⟨K, KX, c⟩ := Y
    have hmg : mg ("law" : PySem.Str) = some (.ref fa) := by
      have e : (HandSHeadRun.topDef K01.R.prog 31).name = ("law" : PySem.Str) := by kernel_rfl
      rw [← e]
      exact hmg0
    obtain ⟨fd, hb, hF⟩ := K01.facts (P := (PySem.Challenge.rw_fairbatches_k01_errors).prog) (w := w) KX G hmg c
    exact ⟨K, fd, K01.spLaw K, KX, hb, fun H a ns hl _ _ hS => ⟨a, ns, rfl, hS, hl, fun _ => rfl⟩, hF⟩
#print axioms PySem.Challenge.cw_fairbatches_k01_errors_holds
