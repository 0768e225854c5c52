import PyProof.Rows.All
import Wide.All
import OpenK.AllK
import Wide.FinOn
import HandS.ForMost
import HandS.ForExc
import HandS.ExcInit
import HandS.ExcField
import HandS.ExcIs
import HandS.ExcValue
import HandS.IsInst
import HandS.Wide
import HandS.WideMore
import HandS.Property
import HandS.ClsMeth
import HandS.Gcd
import HandS.Flow
import HandS.More
import HandS.Small
import HandS.RaiseMore
import HandS.StrMore
import HandS.StrSplit
import HandS.FStr
import HandS.SetKeys
import HandS.DictComp
import HandS.Defaults
import HandS.MakeKw
import HandS.Deep
import HandS.SortKw
import HandS.Evl
import HandS.Steps
import HandS.Head2
import HandS.HeadEnd
import HandS.EndBits
import HandS.HeadHook2
import HandS.SlotsOwn
import KE.KOpsOwn
import HandS.MakeKwOnly
import HandS.TryOnly
import HandS.Text
import HandS.HeadNt
import HandS.IterVal
import HandS.Head3
import PySem.Challenge.RW_fairbatches_k03_texts_of_ratios
set_option Elab.async false
set_option linter.all false
set_option maxRecDepth 100000
set_option maxHeartbeats 4000000
namespace My
open PySem PySem.Spec PyProof.Rows L2
/-! ## defs that are called while no object is being shown (repr's own guards are known to be none) -/
structure FnG (P : Program) (w : World) (K : PySem.W.Frag) (mg : Str → Option Value)
    (base : Heap) (CX : CXT) (k : Nat) (f : Addr) (fd : FuncData) (ps : List Str) (sp : Sp) : Prop where
  len : ∀ vs H Q E, sp vs H Q E → vs.length = ps.length
  run : ∀ (A : Around) (outer : List Env) (s : Shared) (H : Hp) (args : Args) (us : List Value)
    (vs : List V) (Q : VK) (E : XK), A.guards = some [] → Room k A →
    Env0 P w K mg base A outer s H → BindsTo s fd args (ps.zip us) → Vals vs us → sp vs H Q E →
    codeAny (model P w) A (.call (.ref f) args) (CR CX outer P w H s Q E) s
section
variable {P : Program} {w : World} {K : PySem.W.Frag} {mg : Str → Option Value} {base : Heap}
variable {CX : CXT} {j k : Nat} {f : Addr} {fd : FuncData} {ps : List Str} {sp : Sp}
theorem FnG.of (F : FnOk P w K mg base CX k f fd ps sp) : FnG P w K mg base CX k f fd ps sp :=
  ⟨F.len, fun A outer s H args us vs Q E _ => F.run A outer s H args us vs Q E⟩
theorem FnG.up (F : FnG P w K mg base CX j f fd ps sp) (h : j ≤ k) : FnG P w K mg base CX k f fd ps sp :=
  ⟨F.len, fun A outer s H args us vs Q E hg hr => F.run A outer s H args us vs Q E hg (hr.mono h)⟩
end
section
variable {X : Cx} {CX : CXT} {k : Nat} {f C : Addr} {fd : FuncData} {ps : List Str} {sp : Sp}
variable {dvs : List V} {ds : List Value} {E : XK} {x m : Str} {p pos apos : Pos} {e o : Expr}
variable {es : List Expr} {ta : TE} {t : TA}
theorem run_g {pins : List (Addr × Obj)} {σ : L2.St} {H : Hp} {s : Shared} {Q : VK} {us : List Value} {vs : List V}
    (hg : X.A.guards = some []) (F : FnG X.prog X.w X.K X.mg X.base CX k f fd ps sp) (hr : Room k X.A)
    (hb : L2.Binds X.K fd ps ds) (hd : Vals dvs ds) (hx : Passes CX X E)
    (I : L2.Inv X pins σ H s) (r : Vals vs us) (h : sp (vs ++ dvs) H Q E) :
    wpAny (model X.prog X.w) X.A (call (.ref f) us) (EP X pins σ Q) X.xe s := by
  have rr : Vals (vs ++ dvs) (us ++ ds) := r.append hd
  have hl : (us ++ ds).length = ps.length := by
    rw [← rr.length]
    exact F.len _ _ _ _ h
  refine wpAny_call (codeAny_mono (F.run X.A X.stack s H ⟨us, []⟩ (us ++ ds) (vs ++ dvs) Q E hg hr
    I.env0 (hb s us I.kIn hl) rr h) ?_)
  intro res s' hq
  match res, hq with
  | .error er, hq => exact hx pins σ H s er s' I hq
  | .ok (.ret u), hq => exact I.after hq
  | .ok .next, hq => exact hq.elim
  | .ok .brk, hq => exact hq.elim
  | .ok .cont, hq => exact hq.elim
theorem pe_callG (hgd : X.A.guards = some []) (F : FnG X.prog X.w X.K X.mg X.base CX k f fd ps sp) (hr : Room k X.A)
    (hg : Gl X x) (hm : X.mg x = some (.ref f)) (hk : PySem.W.keepIn X.K (.ref f) = true)
    (hb : L2.Binds X.K fd ps ds) (hd : Vals dvs ds) (hx : Passes CX X E) (ha : PA X (e :: es) t)
    (hdb : (x == ("__debug__" : Str)) = false := by decide)
    (he : starEach (e :: es) X.env = (false, eval e X.env) :: starEach es X.env := by rfl)
    (hpl : (backTo pos (starEach es X.env)).any (·.1) = false := by rfl) :
    PE X (.Call (.Name x p) (e :: es) [] pos) (tCall sp dvs E t) := by
  constructor
  intro pins s σ H Q I h
  refine wpAny_Call_Name_kw (ld_glob I hg hm ?_ hdb)
  refine PySem.W.callWith_K (h₀ := X.base) I.ok.mod.kin hk ?_ he hpl
  refine thn (ha.run pos pins s σ H _ I h) ?_
  rintro us s1 ⟨vs, H1, I1, r, q⟩
  exact ⟨I1.kIn, run_g hgd F hr hb hd hx I1 r q⟩
theorem pe_callG0 (hgd : X.A.guards = some []) (F : FnG X.prog X.w X.K X.mg X.base CX k f fd ps sp) (hr : Room k X.A)
    (hg : Gl X x) (hm : X.mg x = some (.ref f)) (hk : PySem.W.keepIn X.K (.ref f) = true)
    (hb : L2.Binds X.K fd ps ds) (hd : Vals dvs ds) (hx : Passes CX X E)
    (hdb : (x == ("__debug__" : Str)) = false := by decide) :
    PE X (.Call (.Name x p) [] [] pos) (tCall sp dvs E tNil) := by
  constructor
  intro pins s σ H Q I h
  refine wpAny_Call_Name_kw (ld_glob I hg hm ?_ hdb)
  exact PySem.W.callWith_K0 I.kIn hk (run_g (us := []) hgd F hr hb hd hx I .nil h)
end
/-- a def of the text by its body, called while nothing is being shown -/
theorem fnG_of {CX : CXT} {P : Program} {w : World} {K : PySem.W.Frag} {mg : Str → Option Value} {base : Heap} {k : Nat}
    {f : Addr} {name qual : Str} {params : Arguments} {body : List Stmt} {scope : Scope}
    {dV kV doc pm cdv ct oc : Value} {an od : Option Addr} {osl : Array (Option Value)} {N ps : List Str} {sp : Sp}
    (lk : K.lookup f = some ⟨oc, od, .func (PySem.W.fnOf name qual params body scope dV kV doc pm an cdv ct), osl⟩)
    (hcd : PySem.W.codeIn K cdv qual = true) (S : FnScope N ps scope)
    (len : ∀ vs H Q E, sp vs H Q E → vs.length = ps.length)
    (hbody : ∀ (A : Around) (outer : List Env) (s : Shared) (H : Hp) (vs : List V) (Q : VK) (E : XK),
      A.guards = some [] → Room k (A.deeper (envOfC qual scope s.heap.objs.size f cdv)) → sp vs H Q E →
      ∃ t, PSs (cxOf CX P w K mg base N qual scope f cdv A outer s H E) body t ∧
        t { nx := fun _ H' => Q .non H', rt := Q } (start N vs) H) :
    FnG P w K mg base CX (k + 1) f (PySem.W.fnOf name qual params body scope dV kV doc pm an cdv ct) ps sp := by
  refine ⟨len, ?_⟩
  intro A outer s H args us vs Q E hgd hr e0 hb r hsp
  have KX : K.In s.heap := e0.mod.kin.keeps (fun b o e => (e0.bs b o e).1)
  have lim : s.heap.NoLimit := e0.mod.nolimit.keeps (fun b o e => (e0.bs b o e).1)
  have hkind : ∀ y ∈ ps.zip us, scope.names.lookup y.1 = some .local ∨
      (scope.names.lookup y.1 = some .cell ∧
        ((cellsFrom (s.heap.objs.size + 1) scope.names []).lookup y.1).isSome = true) := by
    rintro ⟨n, v⟩ hy
    rcases S.par n (List.of_mem_zip hy).1 with q | q
    · exact Or.inl q
    · exact Or.inr ⟨q, PySem.W.cellsFrom_some _ _ _ (Or.inl q)⟩
  refine codeAny_call_function hr.depth (KX _ _ lk) rfl S.co S.gen rfl (PySem.W.codeRec_of KX hcd) (hb _ _ _ _ ?_)
  refine wpAny_newFunctionEnv_cells S.kind hkind ?_
  intro env he s1 x
  subst he
  refine ⟨lim.keeps x.toInCall.keep, codeAny_func ?_⟩
  obtain ⟨t, ht, hq⟩ := hbody A outer s H vs Q E hgd (hr.deeper _) hsp
  have I := inv_start (CX := CX) (E := E) S hr.hd e0 (len _ _ _ _ hsp) r x
  refine wpAny_mono (ht.run [] s1 (start N vs) H _ I hq) ?_ (fun e s' hs => hs)
  intro fl s' hs
  match fl, hs with
  | .ret u, ⟨v, σ', H', J, rv, q⟩ => exact ⟨v, H', J.os, J.bare, J.base, J.hok, rv, q⟩
  | .next, ⟨σ', H', J, q⟩ => exact ⟨V.non, H', J.os, J.bare, J.base, J.hok, rfl, q⟩
  | .brk, ⟨_, _, _, q⟩ => exact q.elim
  | .cont, ⟨_, _, _, q⟩ => exact q.elim
theorem guards_deeper {A : Around} {env : Env} (h : A.guards = some []) : (A.deeper env).guards = some [] := h
/-- the law's own call: as the layer's law_call, for a promise kept while nothing is being shown -/
theorem law_callG {P : Program} {w : World} {K : PySem.W.Frag} {mg mb : Str → Option Value} {CX : CXT} {k : Nat}
    {fa a : Addr} {fd : FuncData} {x : Str} {sp : Sp} {s₁ : Shared} {vs : List Value} {ns : List Int}
    (KX : K.In s₁.heap) (hns : s₁.heap.Ns mainGlobals mg) (hb : s₁.heap.Ns builtinsNs mb)
    (hbb : ∀ x : Str, x ≠ "__name__" → mb x = bootBuiltins x) (hlim : s₁.heap.NoLimit) (hg : s₁.gens = #[])
    (ha : s₁.heap.get? a = some { cls := .type "list", data := .seq vs.toArray }) (hi : IntsAre vs ns)
    (hl : ns.length ≤ sizeLine) (hr : Room k callerA)
    (F : ∀ base : Heap, K.In base → base.Ns mainGlobals mg → FnG P w K mg base CX k fa fd [x] sp)
    (hbind : ∀ (s : Shared) (u : Value), BindsTo s fd ⟨[u], []⟩ [(x, u)])
    (hsp : ∀ H : Hp, Only H → SqL K H a (ns.map V.int) → sp [.ref a] H (fun v _ => v = .bl true) fun _ _ _ => False)
    (hCX : ∀ H e s', CX [] H s₁ (fun _ _ _ => False) e s' → False) :
    codeAny (model P w) callerA (.call (.ref fa) ⟨[.ref a], []⟩)
      (fun r s' => r = .ok (.ret (.bool true)) ∧ OldK s₁.heap s'.heap ∧ s'.os = s₁.os ∧ AllBare s'.gens) s₁ := by
  have rv := vals_ints hi
  have lenV := hi.length
  have core : ∀ H : Hp, Only H → SqL K H a (ns.map V.int) → HOk P w H s₁.heap → (∀ b, H b ≠ none → b = a) →
      (H a ≠ none → K.lookup a = none) →
      codeAny (model P w) callerA (.call (.ref fa) ⟨[.ref a], []⟩)
        (fun r s' => r = .ok (.ret (.bool true)) ∧ OldK s₁.heap s'.heap ∧ s'.os = s₁.os ∧ AllBare s'.gens) s₁ := by
    intro H hO hS hok hA hK
    have none_or : ∀ b, H b = none ∨ b = a := by
      intro b
      by_cases h : H b = none
      · exact Or.inl h
      · exact Or.inr (hA b h)
    have noA : ∀ {b : Addr} {o : Obj} {es : Array DictEntry} {ep : Nat}, s₁.heap.get? b = some o →
        o.data = .dict es ep → H b = none := by
      intro b o es ep e d
      rcases none_or b with h | h
      · exact h
      · rw [h, ha] at e
        cases e
        cases d
    have nsK : ∀ {b : Addr} {m : Str → Option Value}, s₁.heap.Ns b m → (hidT s₁.heap H).Ns b m := by
      rintro b m ⟨o, es, ep, e, d, r⟩
      exact ⟨o, es, ep, hidT_get e (noA e d), d, r⟩
    have hKb : K.In (hidT s₁.heap H) := by
      intro b o e
      refine hidT_get (KX b o e) ?_
      by_cases h : H b = none
      · exact h
      · have eb := hA b h
        subst eb
        rw [hK h] at e
        cases e
    obtain ⟨mc, hc1, hc2⟩ := hlim
    have hM : L2.Mod K mg (hidT s₁.heap H) := ⟨hKb, nsK hns, ⟨mb, nsK hb, hbb⟩, ⟨mc, nsK hc1, hc2⟩⟩
    have e0 : Env0 P w K mg (hidT s₁.heap H) callerA [] s₁ H :=
      { frames := rfl, mod := hM, bs := fun b o e => of_hidT e, bsz := Nat.le_of_eq (hidT_size _ _), funs := trivial,
        frf := (fun b z => nomatch (show b ∈ ([] : List Addr) from z)), hok := hok, bare := .of_eq hg }
    refine codeAny_mono ((F _ hKb (nsK hns)).run callerA [] s₁ H ⟨[.ref a], []⟩ [.ref a] [.ref a] _ _ rfl hr e0
      (hbind s₁ (.ref a)) (.cons rfl .nil) (hsp H hO hS)) ?_
    intro r s' h
    match r, h with
    | .error er, h => exact (hCX H er s' h).elim
    | .ok .next, h => exact h.elim
    | .ok .brk, h => exact h.elim
    | .ok .cont, h => exact h.elim
    | .ok (.ret u), ⟨v, H', os, bare, un, hok', r', q⟩ =>
      have q' : v = .bl true := q
      subst q'
      obtain rfl : u = Value.bool true := r'
      refine ⟨rfl, OldK.of_keep ?_, os, bare⟩
      intro b o e
      rcases hO b with z | ⟨ob, xs, z⟩
      · exact un.keep b o e z (fun y => nomatch (show b ∈ ([] : List Addr) from y)) (fun y => nomatch y)
      · have e1 := (hok b _ z).1
        have e2 := (hok' b _ (un.frzs b ob _ z)).1
        rw [e] at e1
        cases e1
        exact e2
  cases hk : K.lookup a with
  | some o =>
    have e := KX a o hk
    rw [ha] at e
    cases e
    have hsz : vs.toArray.size ≤ sizeLine := by
      rw [List.size_toArray, lenV]
      exact hl
    exact core (fun _ => none) (fun _ => Or.inl rfl) (Or.inr ⟨_, vs.toArray, _, hk, rfl, rfl, rfl, hsz, by simpa using rv⟩)
      (fun b u z => nomatch (show (none : Option HO) = some u from z)) (fun b z => (z rfl).elim) (fun z => (z rfl).elim)
  | none =>
    have at_a : ∀ b, b ≠ a → (fun b => if b = a then some (HO.frz { cls := .type "list", data := .seq vs.toArray } (.lst (ns.map V.int))) else none : Hp) b = none :=
      fun b hb => if_neg hb
    refine core (fun b => if b = a then some (.frz { cls := .type "list", data := .seq vs.toArray } (.lst (ns.map V.int))) else none)
      (fun b => ?_) (Or.inl (Or.inr ⟨{ cls := .type "list", data := .seq vs.toArray }, if_pos rfl⟩)) (fun b u z => ?_) (fun b z => ?_) fun _ => hk
    · by_cases hba : b = a
      · exact Or.inr ⟨_, _, if_pos hba⟩
      · exact Or.inl (if_neg hba)
    · by_cases hba : b = a
      · have z2 := (if_pos hba).symm.trans z
        cases z2
        subst hba
        have hln : (ns.map V.int).length ≤ sizeLine := by
          rw [List.length_map]
          exact hl
        exact ⟨ha, hln, vs, _, rv, ha⟩
      · have z2 := (if_neg hba).symm.trans z
        cases z2
    · by_cases hba : b = a
      · exact hba
      · exact (z (if_neg hba)).elim
theorem walk_ofG {l : PySem.W.OpenLaw} {n k : Nat} {q : Program} {loose : List Str}
    {XP : (Str → Option Value) → Heap → Prop} {YP : World → Heap → Prop} {d : DefRec} {CX : World → CXT} {x : Str}
    (hn : l.most = some n) (hn2 : n ≤ sizeLine) (hdf : d.params.defaults = []) (hr : Room k callerA)
    (F : ∀ (w : World) (mg : Str → Option Value) (fa : Addr) (h : Heap), YP w h → h.Ns mainGlobals mg → mg d.name = some (.ref fa) →
      ∃ (K : PySem.W.Frag) (fd : FuncData) (sp : Sp), K.In h ∧ (∀ (s : Shared) (u : Value), BindsTo s fd ⟨[u], []⟩ [(x, u)]) ∧
        (∀ (H : Hp) (a : Addr) (ns : List Int), ns.length ≤ n → (∀ z ∈ ns, Builtin.Int.intBits z ≤ 1048576) → Only H → SqL K H a (ns.map V.int) →
          sp [.ref a] H (fun v _ => v = .bl true) fun _ _ _ => False) ∧
        ∀ base : Heap, K.In base → base.Ns mainGlobals mg → FnG l.prog w K mg base (CX w) k fa fd [x] sp)
    (hCX : ∀ (w : World) (H : Hp) (s : Shared) (e : Value) (s' : Shared), CX w [] H s (fun _ _ _ => False) e s' → False) :
    PySem.W.WalkO q loose XP YP l.row.toRowW d [] (fun f vs => PySem.call f vs) := by
  refine Att.attach_callB hn hdf ?_
  intro w s₀ s₁ mg mb fa o pm cd doc a vs ns G Y ho hd hcd hmg hobj hints hlen hbits hg
  obtain ⟨K, fd, sp, KX, hb, hsp, hF⟩ := F w mg fa _ Y G.T.g hmg
  exact law_callG KX G.T.g G.T.b G.T.builtins G.T.nolimit hg hobj hints (Nat.le_trans hlen hn2) hr hF hb
    (fun H hO hS => hsp H a ns hlen hbits hO hS) (fun H e s' => hCX w H s₁ e s')
end My

set_option Elab.async false
set_option linter.all false
set_option maxRecDepth 100000
set_option maxHeartbeats 4000000
namespace My
open PySem PySem.Spec PyProof.Rows L2
/-! ## data, a dict of flat values among it; repr of data -/
def flatD : V → Option PyData
  | .non => some .none
  | .bl b => some (.bool b)
  | .int i => some (.int i)
  | .str x => some (.str x)
  | _ => none
def keyD : Key → PyData
  | .inl i => .int i
  | .inr x => .str x
def pairsD : List (Key × V) → Option (List (PyData × PyData))
  | [] => some []
  | (k, v) :: r => (flatD v).bind fun d => (pairsD r).map fun l => (keyD k, d) :: l
/-- v is the data d: any data without a dict, or a dict of flat values -/
inductive Dv (K : PySem.W.Frag) (H : Hp) : V → PyData → Prop
  | of {v : V} {d : PyData} (h : Dp K H v d) (n : d.hasDict = false) : Dv K H v d
  | dic {a : Addr} {kvs : List (Key × V)} {l : List (PyData × PyData)} (h : H a = some (.dK kvs)) (e : pairsD kvs = some l) : Dv K H (.ref a) (.dict l)
theorem flatD_reads {h : Heap} {v : V} {u : Value} {d : PyData} (e : flatD v = some d) (r : L2.RelV v u) : Reads h u d [] := by
  cases v with
  | non => cases e; cases r; exact .none
  | bl b => cases e; cases r; exact .bool b
  | int i => cases e; obtain ⟨t, rfl⟩ := r; exact .int i t
  | str x => cases e; obtain ⟨t, rfl⟩ := r; exact .str x t
  | _ => cases e
theorem keyD_reads {h : Heap} {k : Key} {u : Value} (r : keyIs k u = true) : Reads h u (keyD k) [] := by
  rcases keyIs_shape r with ⟨i, t, rfl, rfl⟩ | ⟨x, t, rfl, rfl⟩
  · exact .int i t
  · exact .str x t
theorem pairs_reads {P : Program} {w : World} {h : Heap} : ∀ {kvs : List (Key × V)} {l : List (PyData × PyData)} {es : List DictEntry} {vs : List (Key × Value)},
    pairsD kvs = some l → KV kvs vs → PySem.Pairs (mixKind P w) es vs → ReadsAll h (es.map (·.key)) (l.map (·.1)) [] ∧ ReadsAll h (es.map (·.val)) (l.map (·.2)) []
  | [], l, es, vs, e, r, p => by
    cases e
    cases r
    cases p
    exact ⟨.nil, .nil⟩
  | (k, v) :: kvs, l, es, vs, e, r, p => by
    unfold pairsD at e
    cases e1 : flatD v with
    | none =>
      rw [e1] at e
      cases e
    | some d =>
      rw [e1] at e
      cases e2 : pairsD kvs with
      | none =>
        rw [e2] at e
        cases e
      | some l' =>
        rw [e2] at e
        cases e
        cases r with
        | cons r1 r2 =>
          cases p with
          | cons p1 p2 p3 =>
            obtain ⟨q1, q2⟩ := pairs_reads (h := h) e2 r2 p3
            obtain ⟨rk, rv⟩ := r1
            have z1 := keyD_reads (h := h) (by rw [← rk] at p1; exact p1)
            have z2 := flatD_reads (h := h) e1 rv
            rw [← p2] at z2
            exact ⟨ReadsAll.cons (as := []) (bs := []) z1 q1, ReadsAll.cons (as := []) (bs := []) z2 q2⟩
section
variable {X : Cx} {pins : List (Addr × Obj)} {σ : L2.St} {H : Hp} {s : Shared}
theorem Dv.reads (I : L2.Inv X pins σ H s) {v : V} {u : Value} {d : PyData} (h : Dv X.K H v d) (r : L2.RelV v u) :
    ∃ as, Reads s.heap u d as ∧ (d.hasDict = true → sysModules ∉ as) := by
  cases h with
  | of h n =>
    obtain ⟨as, q⟩ := Dp.reads I d v u h r
    exact ⟨as, q, fun z => by rw [n] at z; cases z⟩
  | @dic a kvs l h e =>
    cases r
    obtain ⟨_, hs, vs, rv, o, es, ep, h1, h2, h3, _, h5, _⟩ := (show ObjOk X.prog X.w H s.heap a (.dK kvs) from I.hok a _ h)
    obtain ⟨q1, q2⟩ := pairs_reads (h := s.heap) e rv h5
    refine ⟨_, Reads.dict h1 h2.1 h3 q1 q2, fun _ z => ?_⟩
    have z2 : sysModules = a := by simpa using z
    rw [← z2] at hs
    simp at hs
end
/-- repr(x) of data that can be shown -/
def rRepr (K : PySem.W.Frag) : List V → Hp → VK → Prop := fun vs H Q => ∃ x d, vs = [x] ∧ Dv K H x d ∧ d.showable = true ∧ d.depth ≤ 40 ∧ d.shown.length ≤ sizeLine ∧ Q (.str d.shown) H
section
variable {X : Cx}
theorem call_reprD (hg : X.A.guards = some []) (hu : X.A.units + 64 < cLine) : CallR X (.builtin "repr") (rRepr X.K) := by
  intro pins s σ H xs us Q I r h
  obtain ⟨x, d, rfl, hd, hs, hdp, hz, q⟩ := h
  obtain ⟨u, rfl, rx⟩ := Vals.one r
  obtain ⟨as, hr, hsm⟩ := Dv.reads I hd rx
  have fin : ∀ h' tk t, (∀ b o, s.heap.get? b = some o → h'.get? b = some o) → EP X pins σ Q (.str d.shown t) { s with heap := h', toks := tk } :=
    fun h' tk t k => ⟨.str _, H, I.kept k, ⟨_, rfl⟩, q⟩
  cases hr with
  | none => exact PySem.P.repr_of_none (fin s.heap _ _ fun _ _ e => e)
  | bool b => exact PySem.P.repr_of_bool (fin s.heap _ _ fun _ _ e => e)
  | int i t => exact PySem.P.repr_of_int (by simpa [PyData.showable] using hs) (fin s.heap _ _ fun _ _ e => e)
  | str y t => exact PySem.P.repr_of_str (fin s.heap _ _ fun _ _ e => e) hz
  | list h1 h2 h3 h4 => exact repr_of_reads' (.list h1 h2 h3 h4) hs hsm hg (by omega) (fun _ _ e => e) (fun h' u tk k => fin h' tk u k) hz
  | tuple h1 h2 h3 h4 => exact repr_of_reads' (.tuple h1 h2 h3 h4) hs hsm hg (by omega) (fun _ _ e => e) (fun h' u tk k => fin h' tk u k) hz
  | dict h1 h2 h3 h4 h5 => exact repr_of_reads' (.dict h1 h2 h3 h4 h5) hs hsm hg (by omega) (fun _ _ e => e) (fun h' u tk k => fin h' tk u k) hz
end
end My

set_option Elab.async false
set_option linter.all false
set_option maxRecDepth 100000
set_option maxHeartbeats 4000000
/-! ## C(.., k = v) of an own exception class: the making with keywords -/
namespace My
open PySem PySem.W PySem.Calls PyProof.Rows PySem.HandSPX
section
variable {M : Model} {A : Around} {E : Value → Shared → Prop} {h : Heap} {g : Array GenState} {d : Drawn} {t : Nat} {os : OsState}
variable {nm q : Str} {C N : Addr} {bs bm bmB : List Value} {hdct : Bool} {sn : List Str} {sub : List Value} {ab : Bool}
variable {col : Option Bool} {dd : Option Addr} {k0 k1 k2 k3 k5 : Option Value} {B newId initId : String} {kw : List (Str × Value)}
theorem check_newK (F : ExcBaseFacts B newId initId bmB) (hT : ∀ X : String, bm.contains (.type X) = bmB.contains (.type X))
    {rest : List Value} {Q : Unit → Shared → Prop}
    (hC : h.get? C = some (excClassObj nm q C N bs bm hdct sn sub ab col dd k0 k1 k2 k3 k5 newId)) (hq : Q () ⟨h, g, d, t, os⟩) :
    wpAny M A (checkBuiltinCall newId ⟨.ref C :: rest, kw⟩) Q E ⟨h, g, d, t, os⟩ := by
  have hB : (Value.ref C :: bm).contains (.type B) = true := by
    rw [List.contains_cons, hT, F.hasB, Bool.or_true]
  have hstar := F.noStar
  simp only [checkBuiltinCall, F.newKind, F.newSplit, F.newRow]
  repeat (first
    | refine wpAny_loadPart_at hC ?_
    | (refine wpAny_isSubtype_exc hC ?_; rw [hB])
    | refine wpAny_staticBase_exc hC ?_
    | refine wpAny_madeBy_exc hC ?_
    | simp only [bne_self_eq_false, Bool.false_eq_true, if_false]
    | wp_step)
  exact hq
end
section
variable {prog : Program} {w : World} {A : Around} {E : Value → Shared → Prop} {R : Result → Shared → Prop} {h : Heap}
variable {g : Array GenState} {d : Drawn} {t : Nat} {os : OsState} {kw : List (Str × Value)}
variable {nm q : Str} {C N : Addr} {bs bm bmB : List Value} {hdct : Bool} {sn : List Str} {sub : List Value} {ab : Bool}
variable {col : Option Bool} {dd : Option Addr} {k0 k1 k2 k3 k5 : Option Value} {B newId initId : String}
theorem newK (F : ExcBaseFacts B newId initId bmB) (hT : ∀ X : String, bm.contains (.type X) = bmB.contains (.type X)) {rest : List Value}
    (hC : h.get? C = some (excClassObj nm q C N bs bm hdct sn sub ab col dd k0 k1 k2 k3 k5 newId))
    (hq : R (.ok (.ret (.ref (h.objs.size + 1)))) ⟨(h.push (kdv_tup rest)).push (excO C h.objs.size), g, d, t, os⟩) (hrest : rest.length ≤ sizeLine) :
    codeAny (model prog w) A (.builtin newId ⟨.ref C :: rest, kw⟩) R ⟨h, g, d, t, os⟩ := by
  have hends := F.ends
  have cB : (Value.ref C :: bm).contains (.type B) = true := by
    rw [List.contains_cons, hT, F.hasB, Bool.or_true]
  have cA : (Value.ref C :: bm).contains (.type "AttributeError") = false := by
    rw [List.contains_cons, hT, F.noAttr]
    rfl
  have cN : (Value.ref C :: bm).contains (.type "NameError") = false := by
    rw [List.contains_cons, hT, F.noName]
    rfl
  refine codeAny_builtinAt F.entry ?_
  unfold Builtin.«BaseException.__new__»
  refine PySem.wpAt_bind ?_
  show PySem.wpAt _ _ _ (stack >>= _) _ _ _
  refine PySem.wpAt_bind (PySem.wpAt_stack (fun p below => PySem.wpAt_of_wpAny ?_))
  wp_walk
  refine PySem.wpAt_of_wpAny ?_
  rw [F.owner]
  repeat (first
    | with_reducible refine wpAny_madeHere_exc F.canon hC ?_
    | with_reducible refine wpAny_loadPart_at hC ?_
    | (with_reducible refine wpAny_isSubtype_exc hC ?_; first | rw [cB] | rw [cA] | rw [cN])
    | wp_step)
  show R _ _
  rw [Heap.size_push]
  exact hq
theorem type_callK (F : ExcBaseFacts B newId initId bmB) (hT : ∀ X : String, bm.contains (.type X) = bmB.contains (.type X))
    {rest : List Value} {fI : Addr} {Q : Fin → Shared → Prop}
    (hC : h.get? C = some (excClassObj nm q C N bs bm hdct sn sub ab col dd k0 k1 k2 k3 k5 newId))
    (hi : W.Looks (model prog w) h (typeLookup (.ref C) "__init__") (some (.ref fI)))
    (hb : ∀ self, W.Looks (model prog w) h (bindSpecial (.ref fI) self) (.ref fI, [self])) (hrest : rest.length ≤ sizeLine)
    (hq : codeAny (model prog w) A (.call (.ref fI) ⟨.ref (h.objs.size + 1) :: rest, kw⟩)
      (fun r s' => match r with
        | .ok (.ret v) => v = .none ∧ Q (.done (.ret (.ref (h.objs.size + 1)))) s'
        | .ok _ => False
        | .error e => E e s')
      ⟨(h.push (W.kdv_tup rest)).push (excO C h.objs.size), g, d, t, os⟩) :
    wpAny (model prog w) A (Builtin.«type.__call__» ⟨.ref C :: rest, kw⟩) Q E ⟨h, g, d, t, os⟩ := by
  repeat (first
    | with_reducible refine wpAny_loadPart_at hC ?_
    | with_reducible refine wpAny_madeBy_exc hC ?_
    | wp_step)
  refine codeAny_call_builtin_code (Code.quiet_builtin _ F.quiet) (check_newK F hT hC ?_)
  refine newK F hT hC ?_ hrest
  show wpAny _ _ _ _ _ _
  have kk : ∀ b o, h.get? b = some o → ((h.push (W.kdv_tup rest)).push (excO C h.objs.size)).get? b = some o :=
    fun b o e => Heap.get?_push_of_some _ (Heap.get?_push_of_some _ e)
  have hC1 := kk _ _ hC
  have hget1 : ((h.push (W.kdv_tup rest)).push (excO C h.objs.size)).get? (h.objs.size + 1) = some (excO C h.objs.size) := by
    heap_get
  have hself : (Value.ref C :: bm).contains (.ref C) = true := by simp
  have i1 := hi.keeps kk
  have b1 := (hb (.ref (h.objs.size + 1))).keeps kk
  unfold isInstance
  repeat (first
    | with_reducible refine wpAny_loadPart_at hget1 ?_
    | (with_reducible refine wpAny_isSubtype_exc hC1 ?_; rw [hself])
    | wp_step)
  show wpAny _ _ (typeLookup (.ref C) _) _ _ _
  refine i1.at ?_
  refine wpAny_holding (wpAny_bind (b1.at ?_))
  refine wpAny_bind (wpAny_call (codeAny_mono hq ?_))
  intro r s' z
  rcases r with e | (v | _ | _ | _) <;> first | exact z | exact z.elim | skip
  obtain ⟨rfl, z⟩ := z
  first
    | exact wpAny_pure (wpAny_pure z)
    | (wp_walk; exact z)
theorem check_tcallK {rest : List Value} {Q : Unit → Shared → Prop} {M : Model}
    (hC : h.get? C = some (excClassObj nm q C N bs bm hdct sn sub ab col dd k0 k1 k2 k3 k5 newId))
    (hq : Q () ⟨h, g, d, t, os⟩) : wpAny M A (checkBuiltinCall "type.__call__" ⟨.ref C :: rest, kw⟩) Q E ⟨h, g, d, t, os⟩ := by
  have f3 := tc_sub
  have hT : (⟨h, g, d, t, os⟩ : Shared).TypeIs (.ref C) "type" := ⟨_, hC, rfl⟩
  simp only [checkBuiltinCall, tc_kind, tc_split]
  repeat (any_goals (first
    | assumption
    | with_reducible refine wpAny_loadPart_at hC ?_
    | with_reducible refine wpAny_onRaise ?_
    | with_reducible refine wpAny_map ?_
    | wp_step))
theorem call_ownK (F : ExcBaseFacts B newId initId bmB) (hT : ∀ X : String, bm.contains (.type X) = bmB.contains (.type X))
    {rest : List Value} {fI : Addr} (hC : h.get? C = some (excClassObj nm q C N bs bm hdct sn sub ab col dd k0 k1 k2 k3 k5 newId))
    (hi : W.Looks (model prog w) h (typeLookup (.ref C) "__init__") (some (.ref fI)))
    (hb : ∀ self, W.Looks (model prog w) h (bindSpecial (.ref fI) self) (.ref fI, [self])) (hrest : rest.length ≤ sizeLine)
    (hq : codeAny (model prog w) (A.under (.builtin "type.__call__" ⟨.ref C :: rest, kw⟩))
      (.call (.ref fI) ⟨.ref (h.objs.size + 1) :: rest, kw⟩) (W.InitBack (h.objs.size + 1) R)
      ⟨(h.push (W.kdv_tup rest)).push (excO C h.objs.size), g, d, t, os⟩) :
    codeAny (model prog w) A (.call (.ref C) ⟨rest, kw⟩) R ⟨h, g, d, t, os⟩ := by
  have f1 := tc_lookup
  have f2 := tc_bind (.ref C)
  have hTy : (⟨h, g, d, t, os⟩ : Shared).TypeIs (.ref C) "type" := ⟨_, hC, rfl⟩
  refine codeAny_of_tree ?_
  show wpAny _ _ (callAny (.ref C) _) _ _ _
  repeat (any_goals (first
    | assumption
    | with_reducible refine wpAny_loadPart_at hC ?_
    | wp_step))
  refine ⟨rfl, ?_⟩
  refine codeAny_call_builtin_at (Code.quiet_builtin _ (by decide +kernel)) entry_typeCall (check_tcallK hC (type_callK F hT hC hi hb hrest ?_))
  refine codeAny_mono hq ?_
  intro r s' z
  rcases r with e | (v | _ | _ | _) <;> exact z
end
/-! ## isinstance of an exception that has its own dict (or none) -/
section
variable {prog : Program} {w : World} {A : Around} {E : Value → Shared → Prop} {s : Shared} {K : Frag} {x D : Addr} {ox : Obj} {od : Option Obj}
theorem findObj_data {C : Addr} {name : Str} {a g : Value} (hc : (clsIn K C).isSome = true) (ha : findIn K (.ref C) name = some (some a))
    (hg : specialIn K a "__get__" = some (some g)) (ht : takesIn K a = some true) : findObj K C od name = some (.bind g a) := by
  obtain ⟨cd, hcd⟩ := Option.isSome_iff_exists.mp hc
  unfold findObj
  rw [hcd, Option.bind_some, ha, Option.bind_some]
  simp [hg, ht]
theorem kin_classX {Q : Option Value → Shared → Prop} (T : L2.ExcC K D) (X : K.In s.heap) (I : InstAt s.heap x ox D od)
    (h : Q (some (.ref D)) { s with toks := s.toks + 1 }) : wpAny (model prog w) A (getAttr? (.ref x) "__class__") Q E s := by
  have hsome : (clsIn K D).isSome = true := by
    obtain ⟨cd, hc, _⟩ := any_some T.hd
    rw [hc]
    rfl
  have hf : findObj K D od "__class__" = some (.bind (.builtin "getset_descriptor.__get__") (.builtin "object.__class__")) :=
    findObj_data hsome T.ha T.hn T.ht
  obtain ⟨hp, g, d, t, os⟩ := s
  have l0 := I.type (M := model prog w)
  have l1 := looks_findIn (M := model prog w) X T.hg
  have l2 := looks_findIn (M := model prog w) X T.hk
  have l3 := looks_find (M := model prog w) X I hf
  have sub : Looks (model prog w) hp (isInstance (.ref x) (.type "BaseException")) true := l0.andThen (looks_subIn X T.hs)
  have n0 : (false && onTheHeap (Value.builtin "BaseException.__getattribute__")) = false := rfl
  have n2 : (Value.builtin "BaseException.__getattribute__" == Value.builtin "object.__getattribute__") = false := by
    decide +kernel
  have n1 : (onTheHeap (Value.ref D) && Value.builtin "BaseException.__getattribute__" == Value.builtin "object.__getattribute__") = false := by
    rw [n2]
    rfl
  unfold getAttr? getAttrBy? getAttrBy
  refine wpAny_bind (wpAny_mkText (wpAny_bind (wpAny_attempt (wpAny_holding (wpAny_bind (l0.at (wpAny_bind (l1.at ?_))))))))
  show wpAny _ _ (if (onTheHeap (Value.ref D) && Value.builtin "BaseException.__getattribute__" == Value.builtin "object.__getattribute__") = true then
    _ else _) _ _ _
  rw [n1, if_neg Bool.false_ne_true]
  unfold getAttrByItsOwn hookBefore
  refine wpAny_bind ?_
  rw [if_pos (show onTheHeap (Value.ref D) = true from rfl)]
  refine l2.at ?_
  refine wpAny_bind (wpAny_attempt (wpAny_holding ?_))
  unfold callGetattribute
  rw [n0, if_neg Bool.false_ne_true]
  unfold boundAndCalled
  rw [PySem.F.excAttr_ValueError.ga.bind (.ref x)]
  refine wpAny_bind (wpAny_pure ?_)
  show wpAny _ _ (call (.builtin "BaseException.__getattribute__") [.ref x, .str "__class__" t]) _ _ _
  refine wpAny_call (codeAny_call_builtin PySem.F.excAttr_ValueError.ga.plain PySem.F.entry_bexc_ga ?_)
  refine @check_slot (model prog w) _ _ ⟨hp, g, d, t + 1, os⟩ "BaseException.__getattribute__" "BaseException" "__getattribute__"
    (.ref x) [.str "__class__" t] [] _ (by decide +kernel) (by decide +kernel) sub (PySem.F.args_bexc_ga (.ref x) (.str "__class__" t)) ?_
  unfold Builtin.«object.__getattribute__»
  refine wpAny_bind (wpAny_of_eq (a := ((Value.ref x : Value), [Value.str "__class__" t]))
    (by first | rfl | (simp only [slotArgs]; rfl)) ?_)
  refine wpAny_bind (wpAny_pure (wpAny_bind (l0.at (wpAny_bind (l3.at ?_)))))
  show wpAny _ _ (holding [Value.builtin "object.__class__"]
    (call (.builtin "getset_descriptor.__get__") [.builtin "object.__class__", .ref x, .ref D]) >>= ret) _ _ _
  refine wpAny_bind (wpAny_holding (wpAny_call (class_get (s := ⟨hp, g, d, t + 1, os⟩) (ox := ox) (od := od) X I T.hm ?_)))
  refine wpAny_pure ?_
  show wpAny _ _ (handedOut (.ref D)) _ _ _
  rw [handedOut_of (v := .ref D) rfl]
  first
    | exact wpAny_pure (wpAny_pure h)
    | exact wpAny_pure h
    | exact wpAny_pure (wpAny_bind (wpAny_pure (wpAny_pure h)))
theorem kitx_excX (T : L2.ExcC K D) : KitX K (.ref x) (.ref D) (fun h => ∃ ox od, InstAt h x ox D od) where
  ty := fun _ _ _ ⟨_, _, I⟩ => I.type
  it := fun _ _ X _ => by
    obtain ⟨cdD, hcD, _⟩ := any_some T.hd
    unfold clsIn at hcD
    split at hcD
    · rename_i c' d' cd' sl' ho
      intro A' Q' E' s' k q
      unfold isType loadHead
      exact wpAny_bind (wpAny_loadPart (k _ _ (X _ _ ho)) (wpAny_pure q))
    · cases hcD
  ne := fun h tp dd its n sl X htp => by
    obtain ⟨cdD, hcD, _⟩ := any_some T.hd
    refine Bool.eq_false_iff.mpr ?_
    intro q
    have e : D = tp := Value.ref.inj (beq_iff_eq.mp q)
    subst e
    unfold clsIn at hcD
    split at hcD
    · rename_i c' d' cd' sl' ho
      cases (X _ _ ho).symm.trans htp
    · cases hcD
  ca := fun X ⟨_, _, I⟩ k => kin_classX T X I k
end
end My

set_option Elab.async false
set_option linter.all false
set_option maxRecDepth 100000
set_option maxHeartbeats 4000000
/-! ## own errors as values -/
namespace My
open PySem PySem.Spec PyProof.Rows L2
/-- what the written part says of an own error class with an __init__ that keeps one field f -/
structure ErrC (K : PySem.W.Frag) (mg : Str → Option Value) (x f : Str) (C fI : Addr) : Prop where
  oex : OexC K C
  xf : XfC K C
  exc : ExcC K C
  noF : PySem.W.findIn K (.ref C) f = some none
  mgC : mg x = some (.ref C)
  iC : PySem.W.findIn K (.ref C) "__init__" = some (some (.ref fI))
  tI : PySem.W.typeIn K (.ref fI) = some (.type "function")
/-- at a stands an error of the class at C whose field f is v -/
def ErrAt (H : Hp) (a C : Addr) (f : Str) (v : V) : Prop :=
  ∃ dx, H a = some (exo a C (some dx)) ∧ H dx = some (exd dx [(f, v)])
theorem ErrAt.same {H H' : Hp} {a C : Addr} {f : Str} {v : V} (e : ErrAt H a C f v) (s : Same H H') : ErrAt H' a C f v := by
  obtain ⟨dx, h1, h2⟩ := e
  exact ⟨dx, s _ _ h1, s _ _ h2⟩
theorem Same.upd {H : Hp} {p : Addr} {o : HO} (h : H p = none) : Same H (L2.upd H p o) := by
  intro b u e
  rw [upd_ne (ne_of_none e h)]
  exact e
/-- the __init__'s promise -/
def spErrI (K : PySem.W.Frag) (C : Addr) (f : Str) : Sp := fun vs H Q _ => ∃ (a : Addr) (v : V), vs = [.ref a, v] ∧ OexC K C ∧
  PySem.W.findIn K (.ref C) f = some none ∧ H a = some (exo a C none) ∧
  ∀ dx, H dx = none → dx ≠ a → Q .non (upd (upd H dx (exd dx [(f, v)])) a (exo a C (some dx)))
section
variable {P : Program} {w : World} {K : PySem.W.Frag} {mg : Str → Option Value} {base : Heap}
theorem ok_given {x qual : Str} {params : Arguments} {body : List Stmt} {scope : Scope} {dvs : List V} {kws : List (Str × V)} {fI C : Addr} {fd : FuncData}
    (F : FunD K x qual params body scope dvs kws fI fd) (S : FnScope ["self", "given"] ["self", "given"] scope)
    (hs : scope = { kind := .function, names := [("self", .local), ("given", .local)], isGenerator := false, isCoroutine := false, more := [] })
    {p1 p2 p3 p4 : Pos} (hb : body = [.Assign [.Attribute (.Name "self" p1) "given" p2] (.Name "given" p3) p4]) :
    FnOk P w K mg base CX0 1 fI fd ["self", "given"] (spErrI K C "given") := by
  subst hs hb
  refine F.ok S ?_ ?_
  · rintro vs H Q E ⟨a, v, rfl, _⟩
    rfl
  · rintro cdv A outer s H vs Q E hr ⟨a, v, rfl, T, hno, ha, k⟩
    refine ⟨_, PSs.nox (pss_one (ps_ost (pv 0) (pv 1))), ?_⟩
    exact ⟨_, rfl, _, rfl, a, C, rfl, T, hno, Or.inl ⟨ha, fun dx h1 h2 => k dx h1 h2⟩⟩
theorem ok_line {x qual : Str} {params : Arguments} {body : List Stmt} {scope : Scope} {dvs : List V} {kws : List (Str × V)} {fI C : Addr} {fd : FuncData}
    (F : FunD K x qual params body scope dvs kws fI fd) (S : FnScope ["self", "line"] ["self", "line"] scope)
    (hs : scope = { kind := .function, names := [("self", .local), ("line", .local)], isGenerator := false, isCoroutine := false, more := [] })
    {p1 p2 p3 p4 : Pos} (hb : body = [.Assign [.Attribute (.Name "self" p1) "line" p2] (.Name "line" p3) p4]) :
    FnOk P w K mg base CX0 1 fI fd ["self", "line"] (spErrI K C "line") := by
  subst hs hb
  refine F.ok S ?_ ?_
  · rintro vs H Q E ⟨a, v, rfl, _⟩
    rfl
  · rintro cdv A outer s H vs Q E hr ⟨a, v, rfl, T, hno, ha, k⟩
    refine ⟨_, PSs.nox (pss_one (ps_ost (pv 0) (pv 1))), ?_⟩
    exact ⟨_, rfl, _, rfl, a, C, rfl, T, hno, Or.inl ⟨ha, fun dx h1 h2 => k dx h1 h2⟩⟩
/-- how the one argument is bound -/
structure ErrB (fd : FuncData) (f : Str) : Prop where
  pos : ∀ (s : Shared) (v u : Value), BindsTo s fd ⟨[v, u], []⟩ [("self", v), (f, u)]
  kw : ∀ (s : Shared) (v u : Value), BindsTo s fd ⟨[v], [(f, u)]⟩ [("self", v), (f, u)]
end
/-- C(e) | C(f = e), an error's making as a value -/
def tErr (C : Addr) (f : Str) (te : TE) : TE := fun σ H Q => te σ H fun v H1 => ∀ a H2, H1 a = none → Same H1 H2 → ErrAt H2 a C f v → Q (.ref a) H2
section
variable {X : Cx} {x f : Str} {C fI : Addr} {fd : FuncData} {e : Expr} {te : TE} {p pos kpos : Pos}
theorem run_err {pins : List (Addr × Obj)} {σ : L2.St} {H : Hp} {s : Shared} {Q : VK} {v : V} {u : Value} {rest : List Value} {kw : List (Str × Value)} {k : Nat}
    (T : ErrC X.K X.mg x f C fI) (F : FnOk X.prog X.w X.K X.mg X.base CX0 k fI fd ["self", f] (spErrI X.K C f)) (hr : Room (k + 1) X.A)
    (hb : ∀ (s : Shared) (z : Value), BindsTo s fd ⟨z :: rest, kw⟩ [("self", z), (f, u)]) (hl : rest.length ≤ 1)
    (I : L2.Inv X pins σ H s) (rv : L2.RelV v u) (h : ∀ a H2, H a = none → Same H H2 → ErrAt H2 a C f v → Q (.ref a) H2) :
    wpAny (model X.prog X.w) X.A (call (.ref C) rest kw) (EP X pins σ Q) X.xe s := by
  obtain ⟨nm, q, N, bs, bm, sn, sub, ab, col, dd, k0, k1, k2, k3, k5, hC, hbm⟩ := T.oex.cls
  obtain ⟨hp, g, dr, tk, os⟩ := s
  have hsz : hp.objs.size ≤ hp.objs.size + 1 := Nat.le_succ _
  have hn : H (hp.objs.size + 1) = none := I.hok.fresh hsz
  have kk : ∀ b o, hp.get? b = some o → ((hp.push (PySem.W.kdv_tup rest)).push (PySem.HandSPX.excO C hp.objs.size)).get? b = some o :=
    fun b o e => Heap.get?_push_of_some _ (Heap.get?_push_of_some _ e)
  have hget : ((hp.push (PySem.W.kdv_tup rest)).push (PySem.HandSPX.excO C hp.objs.size)).get? (hp.objs.size + 1) = some (PySem.HandSPX.excO C hp.objs.size) := by
    heap_get
  have I2 : L2.Inv X pins σ (upd H (hp.objs.size + 1) (exo (hp.objs.size + 1) C none))
      ⟨(hp.push (PySem.W.kdv_tup rest)).push (PySem.HandSPX.excO C hp.objs.size), g, dr, tk, os⟩ :=
    I.laid (t' := tk) (a := hp.objs.size + 1) (o := exo (hp.objs.size + 1) C none)
      (h' := (hp.push (PySem.W.kdv_tup rest)).push (PySem.HandSPX.excO C hp.objs.size)) kk hsz (exo_ok hget)
  have hrl : rest.length ≤ sizeLine := by
    rw [sizeLine_eq]
    omega
  have hq : spErrI X.K C f [.ref (hp.objs.size + 1), v] (upd H (hp.objs.size + 1) (exo (hp.objs.size + 1) C none))
      (fun v' H3 => v' = .non ∧ Q (.ref (hp.objs.size + 1)) H3) (fun _ _ _ => False) := by
    refine ⟨_, v, rfl, T.oex, T.noF, upd_same, fun dx h1 h2 => ⟨rfl, ?_⟩⟩
    have hdx : H dx = none := by
      rw [upd_ne h2] at h1
      exact h1
    refine h _ _ hn (fun b o eb => ?_) ⟨dx, upd_same, ?_⟩
    · rw [upd_ne (ne_of_none eb hn), upd_ne (ne_of_none eb hdx), upd_ne (ne_of_none eb hn)]
      exact eb
    · rw [upd_ne h2, upd_same]
  refine wpAny_call (call_ownK PySem.F.excBase_ValueError (fun Y => PySem.HandSPX.refsVE_contains Y bm hbm) (I.kIn _ _ hC) (PySem.W.looks_findIn I.kIn T.iC)
    (fun self => PySem.W.bind_fn I.kIn self T.tI) hrl
    (codeAny_mono (F.run _ X.stack _ _ ⟨.ref (hp.objs.size + 1) :: rest, kw⟩ [.ref (hp.objs.size + 1), u] _ _ (fun _ _ _ => False) (hr.make C rest kw) (I2.env0.make C rest kw)
      (hb _ _) (.cons (show L2.RelV (.ref (hp.objs.size + 1)) (.ref (hp.objs.size + 1)) from rfl) (.cons rv .nil)) hq) ?_))
  intro r s' hq'
  match r, hq' with
  | .error er, hq' => exact hq'.elim
  | .ok .next, hq' => exact hq'.elim
  | .ok .brk, hq' => exact hq'.elim
  | .ok .cont, hq' => exact hq'.elim
  | .ok (.ret u'), hq' =>
    obtain ⟨v', H3, I3, rv', ev, q2⟩ := I2.after hq'
    subst ev
    exact ⟨rv', .ref (hp.objs.size + 1), H3, I3, rfl, q2⟩
theorem pe_err {k : Nat} (T : ErrC X.K X.mg x f C fI) (F : FnOk X.prog X.w X.K X.mg X.base CX0 k fI fd ["self", f] (spErrI X.K C f)) (hr : Room (k + 1) X.A) (hb : ErrB fd f)
    (hg : Gl X x) (he : PE X e te) (hdb : (x == ("__debug__" : Str)) = false := by decide)
    (hse : starEach (e :: []) X.env = (false, eval e X.env) :: starEach [] X.env := by rfl)
    (hpl : (backTo pos (starEach [] X.env)).any (·.1) = false := by rfl) :
    PE X (.Call (.Name x p) [e] [] pos) (tErr C f te) := by
  constructor
  intro pins s σ H Q I h
  refine wpAny_Call_Name_kw (ld_glob I hg T.mgC ?_ hdb)
  refine PySem.W.callWith_K (h₀ := X.base) I.ok.mod.kin T.oex.kC ?_ hse hpl
  refine thn ((pa_cons he pa_nil hse).run pos pins s σ H (fun vs H1 => ∃ v, vs = [v] ∧ ∀ a H2, H1 a = none → Same H1 H2 → ErrAt H2 a C f v → Q (.ref a) H2) I ?_) ?_
  · show te σ H _
    refine (fun z => z) (show te σ H (fun v H1 => ∃ v', [v] = [v'] ∧ ∀ a H2, H1 a = none → Same H1 H2 → ErrAt H2 a C f v' → Q (.ref a) H2) from ?_)
    have z : (fun (v : V) (H1 : Hp) => ∃ v', [v] = [v'] ∧ ∀ a H2, H1 a = none → Same H1 H2 → ErrAt H2 a C f v' → Q (.ref a) H2) =
        fun v H1 => ∀ a H2, H1 a = none → Same H1 H2 → ErrAt H2 a C f v → Q (.ref a) H2 := by
      funext v H1
      apply propext
      constructor
      · rintro ⟨v', ev, k⟩
        cases ev
        exact k
      · exact fun k => ⟨v, rfl, k⟩
    rw [z]
    exact h
  · rintro us s1 ⟨vs, H1, I1, r, v, rfl, q⟩
    obtain ⟨u, rfl, rv⟩ := Vals.one r
    exact ⟨I1.kIn, run_err (rest := [u]) (kw := []) T F hr (fun s z => hb.pos s z u) (by simp) I1 rv q⟩
theorem pe_errK {k : Nat} (T : ErrC X.K X.mg x f C fI) (F : FnOk X.prog X.w X.K X.mg X.base CX0 k fI fd ["self", f] (spErrI X.K C f)) (hr : Room (k + 1) X.A) (hb : ErrB fd f)
    (hg : Gl X x) (he : PE X e te) (hdb : (x == ("__debug__" : Str)) = false := by decide)
    (hall : (backToKw pos (keywordEach [⟨some f, e, kpos⟩] X.env)).all (·.1.isSome) = true := by rfl)
    (hks : (backToKw pos (keywordEach [⟨some f, e, kpos⟩] X.env)).filterMap (·.1) = [f] := by rfl)
    (hpl : ((backTo pos (starEach [] X.env)).any (·.1) || (backToKw pos (keywordEach [⟨some f, e, kpos⟩] X.env)).any (·.1.isNone)) = false := by rfl) :
    PE X (.Call (.Name x p) [] [⟨some f, e, kpos⟩] pos) (tErr C f te) := by
  constructor
  intro pins s σ H Q I h
  refine wpAny_Call_Name_kw (ld_glob I hg T.mgC ?_ hdb)
  refine PySem.W.callWith_KW0 (h₀ := X.base) I.ok.mod.kin T.oex.kC hall ?_ hpl
  refine thn ((pk_cons he pk_nil).run pos pins s σ H (fun vs H1 => ∃ v, vs = [v] ∧ ∀ a H2, H1 a = none → Same H1 H2 → ErrAt H2 a C f v → Q (.ref a) H2) I ?_) ?_
  · refine (fun z => z) (show te σ H (fun v H1 => ∃ v', [v] = [v'] ∧ ∀ a H2, H1 a = none → Same H1 H2 → ErrAt H2 a C f v' → Q (.ref a) H2) from ?_)
    have z : (fun (v : V) (H1 : Hp) => ∃ v', [v] = [v'] ∧ ∀ a H2, H1 a = none → Same H1 H2 → ErrAt H2 a C f v' → Q (.ref a) H2) =
        fun v H1 => ∀ a H2, H1 a = none → Same H1 H2 → ErrAt H2 a C f v → Q (.ref a) H2 := by
      funext v H1
      apply propext
      constructor
      · rintro ⟨v', ev, k⟩
        cases ev
        exact k
      · exact fun k => ⟨v, rfl, k⟩
    rw [z]
    exact h
  · rintro us s1 ⟨vs, H1, I1, r, v, rfl, q⟩
    obtain ⟨u, rfl, rv⟩ := Vals.one r
    refine ⟨I1.kIn, ?_⟩
    rw [hks]
    exact run_err (rest := []) (kw := [(f, u)]) T F hr (fun s z => hb.kw s z u) (by simp) I1 rv q
/-- e.f, e an error of ours -/
def tErrF (K : PySem.W.Frag) (f : Str) (te : TE) : TE := fun σ H Q => te σ H fun x H1 => ∃ a C v, x = .ref a ∧ ErrAt H1 a C f v ∧ XfC K C ∧ PySem.W.findIn K (.ref C) f = some none ∧ Q v H1
theorem pe_errF (he : PE X e te) (hb : attributeBase e f X.env (eval e X.env) = eval e X.env := by rfl) : PE X (.Attribute e f pos) (tErrF X.K f te) := by
  constructor
  intro pins s σ H Q I h
  refine attr_of hb (thn (he.run pins s σ H _ I h) ?_)
  rintro u s1 ⟨x, H1, I1, rx, a, C, v, rfl, ⟨dx, h1, h2⟩, T, hno, q⟩
  obtain rfl : u = Value.ref a := rx
  obtain ⟨t1, ho⟩ := exo_at I1.hok h1
  obtain ⟨mA, hns, hr⟩ := exd_at I1.hok h2
  obtain ⟨od, hod, hl⟩ := lookIn_ns hns
  have l : List.lookup f [(f, v)] = some v := by simp [List.lookup]
  obtain ⟨w', hw, rw'⟩ := RelO.some_of (v := v) (o := mA f) (by rw [← l]; exact hr f)
  have J : PySem.W.InstAt s1.heap a ({ cls := .ref C, dict := some dx, data := .fields #[.ref t1, .none, .none, .none, .bool false, .none] } : Obj) C (some od) :=
    ⟨ho, rfl, rfl, hod⟩
  exact HandSPX.exc_get I1.kIn J T.ga T.gg T.exC (PySem.W.findObj_own T.hdC hno rfl (by rw [hl, hw])) (handed_of rw') ⟨v, H1, I1.tok _, rw', q⟩
/-- isinstance(e, c), e an error of ours (with its own dict, or a plain one) -/
def rIsErr (K : PySem.W.Frag) : List V → Hp → VK → Prop := fun xs H Q => ∃ (a C : Addr) (c : V) (cv : Value) (b : Bool), xs = [.ref a, c] ∧
  ((∃ f v, ErrAt H a C f v) ∨ H a = some (ExO (.ref C) a)) ∧ ExcC K C ∧ ClsV c cv ∧ PySem.W.kitOne K (.ref C) cv = some b ∧ Q (.bl b) H
theorem inst_err {pins : List (Addr × Obj)} {σ : L2.St} {H : Hp} {s : Shared} {a C : Addr} (I : L2.Inv X pins σ H s) (h : (∃ f v, ErrAt H a C f v) ∨ H a = some (ExO (.ref C) a)) :
    ∃ ox od, PySem.W.InstAt s.heap a ox C od := by
  rcases h with ⟨f, v, dx, h1, h2⟩ | h
  · obtain ⟨t1, ho⟩ := exo_at I.hok h1
    obtain ⟨mA, ⟨od, es, ep, hod, _⟩, _⟩ := exd_at I.hok h2
    exact ⟨_, some od, ho, rfl, rfl, hod⟩
  · obtain ⟨⟨oe, vs, ho, hz, hd, _⟩, _, _⟩ := I.hok a _ h
    exact ⟨oe, none, ho, hz.1, by unfold PySem.W.notCls; rw [hd] <;> rfl, by rw [hz.2] <;> trivial⟩
theorem call_isErr : CallR X (.builtin "isinstance") (rIsErr X.K) := by
  intro pins s σ H xs us Q I r h
  obtain ⟨a, C, c, cv, b, rfl, hE, T, hc, hk, q⟩ := h
  obtain ⟨u, v, rfl, ru, rc⟩ := Vals.two r
  cases ru
  have ec := hc.eq rc
  subst ec
  exact PySem.W.kia_one (kitx_excX T) I.kIn (inst_err I hE) hk (fun z => nomatch z) (fun tk => ⟨.bl b, H, I.tok _, rfl, q⟩)
end
end My

set_option Elab.async false
set_option linter.all false
set_option maxRecDepth 100000
set_option maxHeartbeats 4000000
/-! ## the head's facts: any Bools of the written part, and the defs by name -/
namespace My
open PySem PySem.Spec PyProof.Rows L2
abbrev Fx : Type := PySem.W.Frag → Bool
def obsX (B : List Fx) (fn : List He.DefD) (K : PySem.W.Frag) : He.AlD :=
  (B.all (fun b => b K) && fn.all (fun d => d.ok K), fn.map (fun d => He.fnW K d.at_))
def SaysX (B : List Fx) (fn : List He.DefD) (K : PySem.W.Frag) : Prop := obsX B fn K = He.valD fn
def obsXG (n : Nat) (B : List Fx) (fn : List He.DefD) (g : Addr → Option Obj) : He.AlD := obsX B fn (He.frG g (He.asD g n))
def hookX (n : Nat) (B : List Fx) (fn : List He.DefD) : PySem.W.Hook where
  α := He.AlD
  obs := fun s => obsXG n B fn s.heap.get?
  val := fun _ => He.valD fn
  says := fun _ h => ∃ K : PySem.W.Frag, K.In h ∧ SaysX B fn K
  of := fun _ _ e => ⟨_, He.frG_in, e⟩
  keeps := by
    rintro _ h h' ⟨K, hK, c⟩ k
    exact ⟨K, hK.keeps k, c⟩
theorem obsXG_eq {n : Nat} {B : List Fx} {fn : List He.DefD} {g : Addr → Option Obj} {s : Shared} (h : ∀ a, g a = s.heap.get? a) :
    obsXG n B fn g = (hookX n B fn).obs s := by
  obtain rfl : g = s.heap.get? := funext h
  rfl
section
variable {B : List Fx} {fn : List He.DefD} {K : PySem.W.Frag}
theorem SaysX.two (c : SaysX B fn K) : (∀ b ∈ B, b K = true) ∧ ∀ d ∈ fn, d.ok K = true := by
  have z : (B.all (fun b => b K) && fn.all (fun d => d.ok K)) = true := congrArg Prod.fst c
  obtain ⟨z1, z2⟩ := Bool.and_eq_true_iff.mp z
  exact ⟨List.all_eq_true.mp z1, List.all_eq_true.mp z2⟩
theorem SaysX.fact (c : SaysX B fn K) (i : Nat) {f : Fx} (h : B[i]? = some f := by rfl) : f K = true := c.two.1 f (List.mem_of_getElem? h)
theorem SaysX.fn_ (c : SaysX B fn K) (i : Nat) {d : He.DefD} (h : fn[i]? = some d := by rfl) :
    ∃ fd, FunD K d.name d.qual d.params d.body d.scope (d.dvs K) (d.kws K) (He.fAd K d.at_) fd := by
  have e : fn.map (fun d => He.fnW K d.at_) = fn.map He.DefD.val := congrArg Prod.snd c
  have e2 := congrArg (fun l => l[i]?) e
  simp only [List.getElem?_map, h, Option.map_some, Option.some.injEq] at e2
  exact He.DefD.funD e2 (c.two.2 d (List.mem_of_getElem? h))
end
/-! ### facts -/
def fGlo (x : Str) : Fx := fun K => (He.Fa.glo x).ok K
def fFree (x : Str) : Fx := fun K => (He.Fa.free x).ok K
def fBfun (x : Str) (id : String) : Fx := fun K => decide (PySem.W.nsIn K mainGlobals x = some (some (.builtin id)))
def excObjB (K : PySem.W.Frag) (C : Addr) : Bool := match K.lookup C with
  | some ⟨.type t, _, .cls cd, sl⟩ => (match cd.mro, sl.toList with
    | .ref C' :: bm, [_, _, _, _, some (.builtin n), _] =>
      decide (t = "type") && (decide (C' = C) && (decide (n = "ValueError.__new__") && (!cd.hasDel && (cd.hasDict && PySem.HandSPX.refsVE bm))))
    | _, _ => false)
  | _ => false
theorem excObjB_ok {K : PySem.W.Frag} {C : Addr} (h : excObjB K C = true) :
    ∃ nm q N bs bm sn sub ab col dd k0 k1 k2 k3 k5, K.lookup C = some (excClassObj nm q C N bs bm true sn sub ab col dd k0 k1 k2 k3 k5 "ValueError.__new__") ∧
      PySem.HandSPX.refsVE bm = true := by
  unfold excObjB at h
  split at h
  · rename_i t dd cd sl ho
    split at h
    · rename_i C' bm k0 k1 k2 k3 n k5 hm hs
      simp only [Bool.and_eq_true, decide_eq_true_eq, Bool.not_eq_true'] at h
      obtain ⟨rfl, rfl, rfl, hdel, hdct, hr⟩ := h
      obtain ⟨nm, bs, mro, ns, qn, hd, sn, sub, ab, col, del⟩ := cd
      dsimp only at hm hdel hdct
      subst hm hdel hdct
      obtain ⟨l⟩ := sl
      dsimp only at hs
      subst hs
      exact ⟨nm, qn, ns, bs, bm, sn, sub, ab, col, dd, k0, k1, k2, k3, k5, ho, hr⟩
    · cases h
  · cases h
def oexB (K : PySem.W.Frag) (C : Addr) : Bool :=
  excObjB K C && (decide (PySem.W.findIn K (.ref C) "__setattr__" = some (some (.builtin "object.__setattr__"))) &&
    (decide (PySem.W.subIn K (.ref C) (.type "BaseException") = some true) && (decide (PySem.W.typeIn K (.ref C) = some (.type "type")) && PySem.W.keepIn K (.ref C))))
theorem oexB_ok {K : PySem.W.Frag} {C : Addr} (h : oexB K C = true) : OexC K C := by
  unfold oexB at h
  simp only [Bool.and_eq_true, decide_eq_true_eq] at h
  obtain ⟨h1, h2, h3, h4, h5⟩ := h
  exact ⟨excObjB_ok h1, h2, h3, h4, h5⟩
def excB (K : PySem.W.Frag) (C : Addr) : Bool :=
  decide (PySem.W.findIn K (.ref C) "__getattribute__" = some (some (.builtin "BaseException.__getattribute__"))) &&
  (decide (PySem.W.findIn K (.ref C) "__getattr__" = some none) && (decide (PySem.W.subIn K (.ref C) (.type "BaseException") = some true) &&
  (PySem.W.hasDictIn K C && (decide (PySem.W.findIn K (.ref C) "__class__" = some (some (.builtin "object.__class__"))) &&
  (decide (PySem.W.specialIn K (.builtin "object.__class__") "__get__" = some (some (.builtin "getset_descriptor.__get__"))) &&
  (decide (PySem.W.takesIn K (.builtin "object.__class__") = some true) && decide (PySem.W.mroIn K C (.type "object") = some true)))))))
theorem excB_ok {K : PySem.W.Frag} {C : Addr} (h : excB K C = true) : ExcC K C ∧ XfC K C := by
  unfold excB at h
  simp only [Bool.and_eq_true, decide_eq_true_eq] at h
  obtain ⟨h1, h2, h3, h4, h5, h6, h7, h8⟩ := h
  exact ⟨⟨h1, h2, h3, h4, h5, h6, h7, h8⟩, ⟨h1, h2, h3, h4⟩⟩
/-- an own error class with an __init__ that keeps one field -/
def fErr (x f : Str) : Fx := fun K => oexB K (He.ga K x) && (excB K (He.ga K x) &&
  (decide (PySem.W.findIn K (.ref (He.ga K x)) f = some none) && ((He.Fa.glo x).ok K &&
  (decide (PySem.W.findIn K (.ref (He.ga K x)) "__init__" = some (some (.ref (He.ma K (He.ga K x) "__init__")))) &&
   decide (PySem.W.typeIn K (.ref (He.ma K (He.ga K x) "__init__")) = some (.type "function"))))))
theorem fErr_ok {K : PySem.W.Frag} {x f : Str} {h : Heap} {mg : Str → Option Value} (X : K.In h) (G : h.Ns mainGlobals mg) (c : fErr x f K = true) :
    ErrC K mg x f (He.ga K x) (He.ma K (He.ga K x) "__init__") := by
  unfold fErr at c
  simp only [Bool.and_eq_true, decide_eq_true_eq] at c
  obtain ⟨h1, h2, h3, h4, h5, h6⟩ := c
  exact ⟨oexB_ok h1, (excB_ok h2).2, (excB_ok h2).1, h3, He.glo_ok X G h4, h5, h6⟩
/-- a plain own error class -/
def fExc (x : Str) : Fx := fun K => (He.Fa.exc x).ok K && (excB K (He.ga K x) && (He.Fa.glo x).ok K)
/-- isinstance of an instance of the class x: of the class y; of a built-in type -/
def fIs (x y : Str) (b : Bool) : Fx := fun K => decide (PySem.W.kitOne K (.ref (He.ga K x)) (.ref (He.ga K y)) = some b)
def fIsT (x : Str) (T : String) (b : Bool) : Fx := fun K => decide (PySem.W.kitOne K (.ref (He.ga K x)) (.type T) = some b)
end My

set_option Elab.async false
set_option linter.all false
set_option maxRecDepth 100000
set_option maxHeartbeats 4000000
/-! ## readings, one step each (the heads are found syntactically) -/
namespace My
open PySem PySem.Spec PyProof.Rows L2
/-- all that was tracked at a place other than b is as it was -/
def SameX (b : Addr) (H H' : Hp) : Prop := ∀ c o, c ≠ b → H c = some o → H' c = some o
theorem SameX.refl {b : Addr} {H : Hp} : SameX b H H := fun _ _ _ h => h
theorem SameX.trans {b : Addr} {H H1 H2 : Hp} (s : SameX b H H1) (t : SameX b H1 H2) : SameX b H H2 := fun c o hc h => t c o hc (s c o hc h)
theorem SameX.of {b : Addr} {H H1 : Hp} (s : Same H H1) : SameX b H H1 := fun c o _ h => s c o h
theorem SameX.upd {b : Addr} {H : Hp} {o : HO} : SameX b H (L2.upd H b o) := fun c u hc h => by
  rw [upd_ne hc]
  exact h
theorem Same.get {H H' : Hp} {a : Addr} {o : HO} (s : Same H H') (h : H a = some o) : H' a = some o := s a o h
theorem SameX.get {b : Addr} {H H' : Hp} {a : Addr} {o : HO} (s : SameX b H H') (n : a ≠ b) (h : H a = some o) : H' a = some o := s a o n h
theorem SameX.same {b : Addr} {H H1 H2 : Hp} (s : Same H H1) (n : H b = none) (t : SameX b H1 H2) : Same H H2 := fun c o h => t c o (ne_of_none h n) (s c o h)
theorem Same.none {H H' : Hp} {p : Addr} (s : Same H H') (h : H' p = none) : H p = none := s.free h
theorem Rd.same {H H' : Hp} {a : Addr} {u : HO} (s : Same H H') (h : Rd H a u) : Rd H' a u := by
  rcases h with h | ⟨o, h⟩
  · exact Or.inl (s _ _ h)
  · exact Or.inr ⟨o, s _ _ h⟩
theorem SqT_same {K : PySem.W.Frag} {H H' : Hp} {a : Addr} {xs : List V} (s : Same H H') (h : SqT K H a xs) : SqT K H' a xs := by
  rcases h with h | h
  · exact Or.inl (Rd.same s h)
  · exact Or.inr h
/-- the field f of an error, of an instance -/
def ErrF (K : PySem.W.Frag) (f : Str) (x : V) (H : Hp) (Q : VK) : Prop := ∃ a C v, x = .ref a ∧ ErrAt H a C f v ∧ XfC K C ∧ PySem.W.findIn K (.ref C) f = some none ∧ Q v H
def FldR (K : PySem.W.Frag) (f : Str) (x : V) (H : Hp) (Q : VK) : Prop := ∃ a C dx fs v, x = .ref a ∧ H a = some (.ins C dx fs) ∧ Cls K C ∧ NoAttr K C f ∧ fs.lookup f = some v ∧ Q v H
/-- a new list, a new tuple of the items xs -/
def NewL (xs : List V) (H : Hp) (Q : VK) : Prop := xs.length ≤ sizeLine ∧ ∀ p, H p = none → Q (.ref p) (upd H p (.lst xs))
def NewT (xs : List V) (H : Hp) (Q : VK) : Prop := xs.length ≤ sizeLine ∧ ∀ p, H p = none → Q (.ref p) (upd H p (.tup xs))
section
variable {σ : L2.St} {H : Hp} {Q : VK} {K : PySem.W.Frag} {D : Ends} {ta tb te tc : TE} {t u : TT} {tx ty : TS} {i : Nat} {v x y : V}
theorem r_var (h : σ[i]? = some (some v)) (q : Q v H) : tVar i σ H Q := ⟨v, h, q⟩
theorem r_c (q : Q v H) : tC v σ H Q := q
theorem r_op {r : R2} (h : ta σ H fun x H1 => tb σ H1 fun y H2 => r x y H2 Q) : tOp r ta tb σ H Q := h
theorem r_un {r : V → Hp → VK → Prop} (h : ta σ H fun x H1 => r x H1 Q) : tUn r ta σ H Q := h
theorem r_I0 {g : Int → Int → V} {i j : Int} (q : Q (g i j) H) : rI0 g (.int i) (.int j) H Q := ⟨i, j, rfl, rfl, q⟩
theorem r_I {C : Int → Int → Prop} {g : Int → Int → V} {i j : Int} (c : C i j) (q : Q (g i j) H) : rI C g (.int i) (.int j) H Q := ⟨i, j, rfl, rfl, c, q⟩
theorem r_U {g : Int → V} {i : Int} (q : Q (g i) H) : rU g (.int i) H Q := ⟨i, rfl, q⟩
theorem r_eq (h : scal x y = true) (q : Q (.bl (decide (x = y))) H) : rEq x y H Q := ⟨h, q⟩
theorem r_ne (h : scal x y = true) (q : Q (.bl (!decide (x = y))) H) : rNe x y H Q := ⟨h, q⟩
theorem r_cb {r : List V → Hp → VK → Prop} {ts : TA} (h : ts σ H fun vs H1 => r vs H1 Q) : tCB r ts σ H Q := h
theorem r_call {sp : Sp} {dvs : List V} {E : XK} {ts : TA} (h : ts σ H fun vs H1 => sp (vs ++ dvs) H1 Q E) : tCall sp dvs E ts σ H Q := h
theorem r_nil {R : List V → Hp → Prop} (h : R [] H) : tNil σ H R := h
theorem r_cons {R : List V → Hp → Prop} {tr : TA} (h : te σ H fun x H1 => tr σ H1 fun xs H2 => R (x :: xs) H2) : tCons te tr σ H R := h
theorem r_if {ta tb : TE} (h : t σ H fun c H1 => if c = true then ta σ H1 Q else tb σ H1 Q) : tIf t ta tb σ H Q := h
theorem r_test {R : Bool → Hp → Prop} (h : te σ H fun x H' => ∃ k, x = .bl k ∧ R k H') : tTest te σ H R := h
theorem r_B {R : Bool → Hp → Prop} (h : te σ H fun x H' => ∃ k, x = .bl k ∧ R k H') : tB te σ H R := h
theorem r_and {R : Bool → Hp → Prop} (h : t σ H fun c H1 => if c = true then u σ H1 R else R false H1) : tAnd t u σ H R := h
theorem r_or {R : Bool → Hp → Prop} (h : t σ H fun c H1 => if c = true then R true H1 else u σ H1 R) : tOr t u σ H R := h
theorem r_not {R : Bool → Hp → Prop} (h : t σ H fun c H1 => R (!c) H1) : tNot t σ H R := h
theorem r_andV (h : ta σ H fun x H1 => ∃ c, x = .bl c ∧ if c = true then tb σ H1 Q else Q (.bl false) H1) : tAndV ta tb σ H Q := h
theorem r_orV (h : ta σ H fun x H1 => ∃ c, x = .bl c ∧ if c = true then Q (.bl true) H1 else tb σ H1 Q) : tOrV ta tb σ H Q := h
theorem r_notV (h : ta σ H fun x H1 => ∃ c, x = .bl c ∧ Q (.bl (!c)) H1) : tNotV ta σ H Q := h
theorem r_bl {b : Bool} {R : Bool → Prop} (h : R b) : ∃ k, (V.bl b) = .bl k ∧ R k := ⟨b, rfl, h⟩
theorem r_lst {ts : TA} (h : ts σ H fun xs H1 => NewL xs H1 Q) : tLst ts σ H Q := h
theorem r_tup {ts : TA} (h : ts σ H fun xs H1 => NewT xs H1 Q) : tTup ts σ H Q := h
/-- something new is laid: from then on only what is known of the heap counts -/
theorem r_newL {xs : List V} (hn : xs.length ≤ 100000) (q : ∀ p H', H p = none → Same H H' → H' p = some (.lst xs) → Q (.ref p) H') : NewL xs H Q :=
  ⟨Evl.sz_of hn, fun p hp => q p _ hp (Same.upd hp) upd_same⟩
theorem r_newT {xs : List V} (hn : xs.length ≤ 100000) (q : ∀ p H', H p = none → Same H H' → H' p = some (.tup xs) → Q (.ref p) H') : NewT xs H Q :=
  ⟨Evl.sz_of hn, fun p hp => q p _ hp (Same.upd hp) upd_same⟩
theorem r_dnew (q : ∀ p H', H p = none → Same H H' → H' p = some (.dK []) → Q (.ref p) H') : tDNewK σ H Q := fun p hp => q p _ hp (Same.upd hp) upd_same
theorem r_tFld {f : Str} (h : ta σ H fun x H1 => FldR K f x H1 Q) : tFld K ta f σ H Q := h
theorem r_fld {f : Str} {a C dx : Addr} {fs : List (Str × V)} (h : H a = some (.ins C dx fs)) (c : Cls K C) (n : NoAttr K C f) (l : fs.lookup f = some v) (q : Q v H) :
    FldR K f (.ref a) H Q := ⟨a, C, dx, fs, v, rfl, h, c, n, l, q⟩
theorem r_ixL {p : Addr} {xs : List V} {k : Int} (h : SqL K H p xs) (e : atI xs k = some v) (q : Q v H) : rIxL K (.ref p) (.int k) H Q := ⟨p, xs, k, v, rfl, rfl, h, e, q⟩
theorem r_ixT {p : Addr} {xs : List V} {k : Int} (h : SqT K H p xs) (e : atI xs k = some v) (q : Q v H) : rIxT K (.ref p) (.int k) H Q := ⟨p, xs, k, v, rfl, rfl, h, e, q⟩
theorem r_cat {l b : Addr} {xs zs : List V} (h1 : H l = some (.lst xs)) (h2 : H b = some (.lst zs)) (hn : xs.length + zs.length ≤ 100000)
    (q : ∀ p H', H p = none → Same H H' → H' p = some (.lst (xs ++ zs)) → Q (.ref p) H') : rCat (.ref l) (.ref b) H Q :=
  ⟨l, b, xs, zs, rfl, rfl, h1, h2, Evl.sz_of hn, fun p hp => q p _ hp (Same.upd hp) upd_same⟩
theorem r_tErr {C : Addr} {f : Str} (h : te σ H fun v H1 => ∀ a H2, H1 a = none → Same H1 H2 → ErrAt H2 a C f v → Q (.ref a) H2) : tErr C f te σ H Q := h
theorem r_tErrF {f : Str} (h : te σ H fun x H1 => ErrF K f x H1 Q) : tErrF K f te σ H Q := h
theorem r_errF {f : Str} {a C : Addr} (e : ErrAt H a C f v) (T : XfC K C) (n : PySem.W.findIn K (.ref C) f = some none) (q : Q v H) : ErrF K f (.ref a) H Q :=
  ⟨a, C, v, rfl, e, T, n, q⟩
/-! ### statements -/
theorem r_seq (h : tx { D with nx := ty D } σ H) : tSeq tx ty D σ H := h
theorem r_asg {g : TG} (h : te σ H fun x H1 => g x σ H1 D.nx) : tAsg te g D σ H := h
theorem r_gname {R : L2.St → Hp → Prop} (h : R (σ.set i (some v)) H) : gName i v σ H R := h
theorem r_ret (h : te σ H D.rt) : tRet te D σ H := h
theorem r_retN (h : D.rt .non H) : tRetN D σ H := h
theorem r_next (h : D.nx σ H) : tNext D σ H := h
theorem r_drop (h : te σ H fun _ H1 => D.nx σ H1) : tDrop te D σ H := h
theorem r_ifS (h : t σ H fun b H1 => if b = true then tx D σ H1 else ty D σ H1) : tIfS t tx ty D σ H := h
theorem r_brk (h : D.bk σ H) : tBreak D σ H := h
theorem r_cont (h : D.ct σ H) : tCont D σ H := h
theorem r_setL {p : Addr} {xs : List V} {k : Int} {j : Nat} {R : Hp → Prop} (h : H p = some (.lst xs)) (e : ixN xs.length k = some j) (q : R (upd H p (.lst (xs.set j v)))) :
    rSetL (.ref p) (.int k) v H R := ⟨p, xs, k, j, rfl, rfl, h, e, q⟩
theorem r_gSub {to ti : TE} {t : TSet} {R : L2.St → Hp → Prop} (h : to σ H fun o H1 => ti σ H1 fun i H2 => t o i v H2 fun H3 => R σ H3) : gSub to ti t v σ H R := h
end
/-- the step -/
local macro_rules | `(tactic| walk_at "rd") => `(tactic| (repeat (first
  | with_reducible refine r_var (by exact rfl) ?_
  | with_reducible refine r_c ?_
  | with_reducible refine r_seq ?_
  | with_reducible refine r_asg ?_
  | with_reducible refine r_gname ?_
  | with_reducible refine r_op ?_
  | with_reducible refine r_I0 ?_
  | with_reducible refine r_un ?_
  | with_reducible refine r_U ?_
  | with_reducible refine r_cb ?_
  | with_reducible refine r_call ?_
  | with_reducible refine r_cons ?_
  | with_reducible refine r_nil ?_
  | with_reducible refine r_bl ?_
  | with_reducible refine r_test ?_
  | with_reducible refine r_B ?_
  | with_reducible refine r_and ?_
  | with_reducible refine r_or ?_
  | with_reducible refine r_not ?_
  | with_reducible refine r_andV ?_
  | with_reducible refine r_orV ?_
  | with_reducible refine r_notV ?_
  | with_reducible refine r_if ?_
  | with_reducible refine r_lst ?_
  | with_reducible refine r_tup ?_
  | with_reducible refine r_tErr ?_
  | with_reducible refine r_tErrF ?_
  | with_reducible refine r_ret ?_
  | with_reducible refine r_retN ?_
  | with_reducible refine r_next ?_
  | with_reducible refine r_drop ?_
  | with_reducible refine r_ifS ?_
  | with_reducible refine r_brk ?_
  | with_reducible refine r_cont ?_
  | with_reducible refine r_gSub ?_)))
end My

set_option Elab.async false
set_option linter.all false
set_option maxRecDepth 100000
set_option maxHeartbeats 4000000
/-! ## more operators; callees as bundles -/
namespace My
open PySem PySem.Spec PyProof.Rows L2
def CPowW (i j : Int) : Prop := 0 ≤ j ∧ ((i.natAbs.log2 + 1 : Nat) : Int) * j ≤ 2 ^ 27
def CDivZ (_ j : Int) : Prop := j ≠ 0 ∧ j.natAbs.log2 < 9000
def rPowW : R2 := rI CPowW fun i j => .int (i ^ j.toNat)
def rDivZ : R2 := rI CDivZ fun i j => .int (i.fdiv j)
def rDivW : R2 := rI CDivW fun i j => .int (i / j)
def rMulW : R2 := rI CMulW fun i j => .int (i * j)
def rMod : R2 := rI (fun _ j => 0 < j) fun i j => .int (i % j)
def rModN : R2 := rI (fun _ j => j ≠ 0) fun i j => .int (i.fmod j)
def rInt1 : List V → Hp → VK → Prop := fun xs H Q => (∃ i, xs = [.int i] ∧ Q (.int i) H) ∨ ∃ k, xs = [.bl k] ∧ Q (.int (if k then 1 else 0)) H
def rAbs : List V → Hp → VK → Prop := fun xs H Q => ∃ i, xs = [.int i] ∧ Q (.int (if i < 0 then -i else i)) H
def rStrI : List V → Hp → VK → Prop := fun xs H Q => ∃ i, xs = [.int i] ∧ i.natAbs.log2 < 1920 ∧ Q (.str (toString i)) H
def rLenQ (K : PySem.W.Frag) : List V → Hp → VK → Prop := fun xs H Q => ∃ p ys, xs = [.ref p] ∧ (SqL K H p ys ∨ SqT K H p ys) ∧ Q (.int ys.length) H
def rLenS : List V → Hp → VK → Prop := fun xs H Q => ∃ z, xs = [.str z] ∧ z.length ≤ sizeLine ∧ Q (.int z.length) H
def rMax2 : List V → Hp → VK → Prop := fun xs H Q => ∃ i j, xs = [.int i, .int j] ∧ Q (.int (if j > i then j else i)) H
def rMin2 : List V → Hp → VK → Prop := fun xs H Q => ∃ i j, xs = [.int i, .int j] ∧ Q (.int (if j < i then j else i)) H
def rListOf (K : PySem.W.Frag) : List V → Hp → VK → Prop := fun xs H Q => ∃ p ys, xs = [.ref p] ∧ (SqL K H p ys ∨ SqT K H p ys) ∧ ∀ l, H l = none → Q (.ref l) (upd H l (.lst ys))
def rAddS : R2 := fun x y H Q => ∃ i j, x = .str i ∧ y = .str j ∧ i.length + j.length ≤ sizeLine ∧ Q (.str (i ++ j)) H
section
variable {X : Cx}
theorem op_powW : OpR X (binaryOp .Pow) rPowW := opI fun i j _ _ _ _ _ hc q => by
  refine pow_int hc.1 ?_ q
  have b : Builtin.Int.intBits i ≤ i.natAbs.log2 + 1 := by
    unfold Builtin.Int.intBits
    split <;> omega
  refine Int.le_trans (Int.mul_le_mul_of_nonneg_right ?_ hc.1) hc.2
  exact Int.ofNat_le.mpr b
theorem op_fdivZ : OpR X (binaryOp .FloorDiv) rDivZ := opI fun i j _ _ _ _ _ hc q => floordiv_int hc.1 q (Or.inl (PyProof.noPylong_of_log2 hc.2))
theorem op_divW : OpR X (binaryOp .FloorDiv) rDivW := op_fdivW
theorem op_mulw : OpR X (binaryOp .Mult) rMulW := op_mulW
theorem op_modP : OpR X (binaryOp .Mod) rMod := op_mod
theorem op_modZ : OpR X (binaryOp .Mod) rModN := op_modN
theorem cl_int : CallR X (.type "int") rInt1 := call_int1
theorem cl_abs : CallR X (.builtin "abs") rAbs := call_abs
theorem cl_str : CallR X (.type "str") rStrI := call_str_int
theorem cl_len : CallR X (.builtin "len") (rLenQ X.K) := call_len_seq
theorem cl_lenS : CallR X (.builtin "len") rLenS := call_len_str
theorem cl_max (hc : X.calm = true) : CallR X (.builtin "max") rMax2 := call_max2 hc
theorem cl_min (hc : X.calm = true) : CallR X (.builtin "min") rMin2 := call_min2 hc
theorem cl_list : CallR X (.type "list") (rListOf X.K) := call_list_of
theorem op_adds : OpR X (binaryOp .Add) rAddS := op_add_str
end
section
variable {H : Hp} {Q : VK} {K : PySem.W.Frag} {i j : Int}
theorem r_PowW (c : CPowW i j) (q : Q (.int (i ^ j.toNat)) H) : rPowW (.int i) (.int j) H Q := r_I (C := CPowW) (g := fun i j => .int (i ^ j.toNat)) c q
theorem r_DivZ (c : CDivZ i j) (q : Q (.int (i.fdiv j)) H) : rDivZ (.int i) (.int j) H Q := r_I (C := CDivZ) (g := fun i j => .int (i.fdiv j)) c q
theorem r_DivW (c : CDivW i j) (q : Q (.int (i / j)) H) : rDivW (.int i) (.int j) H Q := r_I (C := CDivW) (g := fun i j => .int (i / j)) c q
theorem r_MulW (c : CMulW i j) (q : Q (.int (i * j)) H) : rMulW (.int i) (.int j) H Q := r_I (C := CMulW) (g := fun i j => .int (i * j)) c q
theorem r_Mod (c : 0 < j) (q : Q (.int (i % j)) H) : rMod (.int i) (.int j) H Q := r_I (C := fun _ j => 0 < j) (g := fun i j => .int (i % j)) c q
theorem r_ModN (c : j ≠ 0) (q : Q (.int (i.fmod j)) H) : rModN (.int i) (.int j) H Q := r_I (C := fun _ j => j ≠ 0) (g := fun i j => .int (i.fmod j)) c q
theorem r_int (q : Q (.int i) H) : rInt1 [.int i] H Q := Or.inl ⟨i, rfl, q⟩
theorem r_abs (q : Q (.int (if i < 0 then -i else i)) H) : rAbs [.int i] H Q := ⟨i, rfl, q⟩
theorem r_str (h : i.natAbs.log2 < 1920) (q : Q (.str (toString i)) H) : rStrI [.int i] H Q := ⟨i, rfl, h, q⟩
theorem r_lenL {p : Addr} {ys : List V} (h : SqL K H p ys) (q : Q (.int ys.length) H) : rLenQ K [.ref p] H Q := ⟨p, ys, rfl, Or.inl h, q⟩
theorem r_lenT {p : Addr} {ys : List V} (h : SqT K H p ys) (q : Q (.int ys.length) H) : rLenQ K [.ref p] H Q := ⟨p, ys, rfl, Or.inr h, q⟩
theorem r_lenS {z : Str} (h : z.length ≤ 1000000) (q : Q (.int z.length) H) : rLenS [.str z] H Q := ⟨z, rfl, Nat.le_trans h (by decide), q⟩
theorem r_max2 (q : Q (.int (if j > i then j else i)) H) : rMax2 [.int i, .int j] H Q := ⟨i, j, rfl, q⟩
theorem r_min2 (q : Q (.int (if j < i then j else i)) H) : rMin2 [.int i, .int j] H Q := ⟨i, j, rfl, q⟩
theorem r_listL {p : Addr} {ys : List V} (h : SqL K H p ys) (q : ∀ l H', H l = none → Same H H' → H' l = some (.lst ys) → Q (.ref l) H') : rListOf K [.ref p] H Q :=
  ⟨p, ys, rfl, Or.inl h, fun l hl => q l _ hl (Same.upd hl) upd_same⟩
theorem r_listT {p : Addr} {ys : List V} (h : SqT K H p ys) (q : ∀ l H', H l = none → Same H H' → H' l = some (.lst ys) → Q (.ref l) H') : rListOf K [.ref p] H Q :=
  ⟨p, ys, rfl, Or.inr h, fun l hl => q l _ hl (Same.upd hl) upd_same⟩
theorem r_adds {x y : Str} (h : x.length + y.length ≤ 1000000) (q : Q (.str (x ++ y)) H) : rAddS (.str x) (.str y) H Q := ⟨x, y, rfl, rfl, Nat.le_trans h (by decide), q⟩
end
/-! ### callees -/
section
variable (P : Program) (w : World) (K : PySem.W.Frag) (mg : Str → Option Value) (base : Heap)
structure Cal (CX : CXT) (k : Nat) (x : Str) (ps : List Str) (sp : Sp) where
  f : Addr
  fd : FuncData
  ok : FnOk P w K mg base CX k f fd ps sp
  gl : mg x = some (.ref f)
  kp : PySem.W.keepIn K (.ref f) = true
  b : L2.Binds K fd ps []
structure CalG (CX : CXT) (k : Nat) (x : Str) (ps : List Str) (sp : Sp) where
  f : Addr
  fd : FuncData
  ok : FnG P w K mg base CX k f fd ps sp
  gl : mg x = some (.ref f)
  kp : PySem.W.keepIn K (.ref f) = true
  b : L2.Binds K fd ps []
/-- an own error class with one field -/
structure CalE (x f : Str) where
  C : Addr
  fI : Addr
  fd : FuncData
  T : ErrC K mg x f C fI
  ok : FnOk P w K mg base CX0 1 fI fd ["self", f] (spErrI K C f)
  b : ErrB fd f
/-- a plain own error class -/
structure CalP (x : Str) where
  C : Addr
  exc : ExcC K C
  xin : PySem.W.excIn K C He.veBase "ValueError.__new__" = true
  kC : PySem.W.keepIn K (.ref C) = true
  exC : PySem.W.subIn K (.ref C) (.type "BaseException") = some true
  tyC : PySem.W.typeIn K (.ref C) = some (.type "type")
  mgC : mg x = some (.ref C)
end
/-- an own class, by its name alone -/
structure CalC (mg : Str → Option Value) (x : Str) where
  C : Addr
  gC : mg x = some (.ref C)
theorem CalE.gC {P : Program} {w : World} {K : PySem.W.Frag} {mg : Str → Option Value} {base : Heap} {x f : Str} (D : CalE P w K mg base x f) : mg x = some (.ref D.C) := D.T.mgC
theorem CalP.gC {K : PySem.W.Frag} {mg : Str → Option Value} {x : Str} (D : CalP K mg x) : mg x = some (.ref D.C) := D.mgC
section
variable {X : Cx} {CX : CXT} {k : Nat} {x f : Str} {ps : List Str} {sp : Sp} {p pos kpos : Pos} {e : Expr} {es : List Expr} {t : TA} {te : TE} {E : XK}
theorem pe_cal (D : Cal X.prog X.w X.K X.mg X.base CX k x ps sp) (hr : Room k X.A) (hx : Passes CX X E) (ha : PA X (e :: es) t) (hg : Gl X x := by rfl)
    (hdb : (x == ("__debug__" : Str)) = false := by decide)
    (he : starEach (e :: es) X.env = (false, eval e X.env) :: starEach es X.env := by rfl)
    (hpl : (backTo pos (starEach es X.env)).any (·.1) = false := by rfl) :
    PE X (.Call (.Name x p) (e :: es) [] pos) (tCall sp [] E t) := pe_call D.ok hr hg D.gl D.kp D.b .nil hx ha hdb he hpl
theorem pe_cal0 (D : Cal X.prog X.w X.K X.mg X.base CX k x ps sp) (hr : Room k X.A) (hx : Passes CX X E) (hg : Gl X x := by rfl)
    (hdb : (x == ("__debug__" : Str)) = false := by decide) :
    PE X (.Call (.Name x p) [] [] pos) (tCall sp [] E tNil) := pe_call0 D.ok hr hg D.gl D.kp D.b .nil hx hdb
theorem pe_calG (hgd : X.A.guards = some []) (D : CalG X.prog X.w X.K X.mg X.base CX k x ps sp) (hr : Room k X.A) (hx : Passes CX X E) (ha : PA X (e :: es) t) (hg : Gl X x := by rfl)
    (hdb : (x == ("__debug__" : Str)) = false := by decide)
    (he : starEach (e :: es) X.env = (false, eval e X.env) :: starEach es X.env := by rfl)
    (hpl : (backTo pos (starEach es X.env)).any (·.1) = false := by rfl) :
    PE X (.Call (.Name x p) (e :: es) [] pos) (tCall sp [] E t) := pe_callG hgd D.ok hr hg D.gl D.kp D.b .nil hx ha hdb he hpl
theorem pe_calG0 (hgd : X.A.guards = some []) (D : CalG X.prog X.w X.K X.mg X.base CX k x ps sp) (hr : Room k X.A) (hx : Passes CX X E) (hg : Gl X x := by rfl)
    (hdb : (x == ("__debug__" : Str)) = false := by decide) :
    PE X (.Call (.Name x p) [] [] pos) (tCall sp [] E tNil) := pe_callG0 hgd D.ok hr hg D.gl D.kp D.b .nil hx hdb
theorem pe_mkE (D : CalE X.prog X.w X.K X.mg X.base x f) (hr : Room 2 X.A) (he : PE X e te) (hg : Gl X x := by rfl)
    (hdb : (x == ("__debug__" : Str)) = false := by decide)
    (hse : starEach (e :: []) X.env = (false, eval e X.env) :: starEach [] X.env := by rfl)
    (hpl : (backTo pos (starEach [] X.env)).any (·.1) = false := by rfl) :
    PE X (.Call (.Name x p) [e] [] pos) (tErr D.C f te) := pe_err D.T D.ok hr D.b hg he hdb hse hpl
theorem pe_mkEK (D : CalE X.prog X.w X.K X.mg X.base x f) (hr : Room 2 X.A) (he : PE X e te) (hg : Gl X x := by rfl)
    (hdb : (x == ("__debug__" : Str)) = false := by decide)
    (hall : (backToKw pos (keywordEach [⟨some f, e, kpos⟩] X.env)).all (·.1.isSome) = true := by rfl)
    (hks : (backToKw pos (keywordEach [⟨some f, e, kpos⟩] X.env)).filterMap (·.1) = [f] := by rfl)
    (hpl : ((backTo pos (starEach [] X.env)).any (·.1) || (backToKw pos (keywordEach [⟨some f, e, kpos⟩] X.env)).any (·.1.isNone)) = false := by rfl) :
    PE X (.Call (.Name x p) [] [⟨some f, e, kpos⟩] pos) (tErr D.C f te) := pe_errK D.T D.ok hr D.b hg he hdb hall hks hpl
/-- a plain error, made with nothing -/
def tExc0 (C : Addr) : TE := fun _ H Q => ∀ a H2, H a = none → Same H H2 → H2 a = some (ExO (.ref C) a) → Q (.ref a) H2
theorem pe_mkP0 (D : CalP X.K X.mg x) (hg : Gl X x := by rfl) (hdb : (x == ("__debug__" : Str)) = false := by decide) :
    PE X (.Call (.Name x p) [] [] pos) (tExc0 D.C) := by
  constructor
  intro pins s σ H Q I h
  refine wpAny_Call_Name_kw (ld_glob I hg D.mgC ?_ hdb)
  refine PySem.W.callWith_K0 I.kIn D.kC ?_
  obtain ⟨bm, N, nm, qn, bs, hdct, sn, sub, ab, col, dd, k0, k1, k2, k3, k5, mN, hC, hN, hni, T⟩ := exc_obj I.kIn D.xin
  refine wpAny_call_exc_subT PySem.F.excBase_ValueError T hC hN hni (fun h' a hm => ?_) (Nat.zero_le _)
  have hn : H a = none := I.hok.gone hm.new
  obtain ⟨t, ht, _, _⟩ := hm.there
  exact ⟨.ref a, upd H a (ExO (.ref D.C) a), I.laidN hm.keeps hm.new hn (exO_ok ht ⟨rfl, rfl⟩ rfl rfl rfl (show 4 < 6 by decide)), rfl, h a _ hn (Same.upd hn) upd_same⟩
end
end My

set_option Elab.async false
set_option linter.all false
set_option maxRecDepth 100000
set_option maxHeartbeats 4000000
/-! ## the law's own draws: what is promised of them, whatever the script -/
namespace My
open PySem PySem.Spec PyProof.Rows L2
theorem fun_okG {P : Program} {w : World} {K : PySem.W.Frag} {mg : Str → Option Value} {base : Heap} {x qual : Str} {params : Arguments} {body : List Stmt}
    {scope : Scope} {dvs : List V} {kws : List (Str × V)} {f : Addr} {fd : FuncData} {CX : CXT} {N ps : List Str} {k : Nat} {sp : Sp}
    (F : FunD K x qual params body scope dvs kws f fd) (S : FnScope N ps scope) (len : ∀ vs H Q E, sp vs H Q E → vs.length = ps.length)
    (hbody : ∀ (cdv : Value) (A : Around) (outer : List Env) (s : Shared) (H : Hp) (vs : List V) (Q : VK) (E : XK), A.guards = some [] →
      Room k (A.deeper (envOfC qual scope s.heap.objs.size f cdv)) → sp vs H Q E →
      ∃ t, PSs (cxOf CX P w K mg base N qual scope f cdv A outer s H E) body t ∧ t { nx := fun _ H' => Q .non H', rt := Q } (start N vs) H) :
    FnG P w K mg base CX (k + 1) f fd ps sp := by
  obtain ⟨oc, od, dV, kV, doc, pm, an, cdv, ct, osl, rfl, lk, hcd, _, _⟩ := F.ex
  exact fnG_of lk hcd S len (fun A outer s H vs Q E => hbody cdv A outer s H vs Q E)
abbrev FnP (K : PySem.W.Frag) (x : Str) (st : Stmt) (f : Addr) (fd : FuncData) : Prop := FunD K x x (defArgs st) (defBody st) (defScope st) [] [] f fd
theorem powW {i j : Int} (h : i.natAbs < 2 ^ 4000) (h0 : 0 ≤ j) (h3 : j ≤ 200) : CPowW i j := by
  refine ⟨h0, ?_⟩
  have x := PySem.Flt.log2_lt_of (by decide : 0 < 4000) h
  have y : ((i.natAbs.log2 + 1 : Nat) : Int) ≤ 4000 := by omega
  refine Int.le_trans (Int.mul_le_mul_of_nonneg_right y h0) ?_
  refine Int.le_trans (Int.mul_le_mul_of_nonneg_left h3 (by decide)) (by decide)
/-- b holds the numbers of a draw, after at most c draws -/
def BoxAt (H : Hp) (b : Addr) (c : Nat) : Prop := ∃ x y z : Int, H b = some (.lst [.int x, .int y, .int z]) ∧ 0 ≤ x ∧ 0 ≤ y ∧ y ≤ (c : Int) ∧ 0 ≤ z ∧ z ≤ 10000000
theorem BoxAt.same {H H' : Hp} {b : Addr} {c : Nat} (h : BoxAt H b c) (s : Same H H') : BoxAt H' b c := by
  obtain ⟨x, y, z, h, r⟩ := h
  exact ⟨x, y, z, s _ _ h, r⟩
theorem BoxAt.mono {H : Hp} {b : Addr} {c d : Nat} (h : BoxAt H b c) (e : c ≤ d) : BoxAt H b d := by
  obtain ⟨x, y, z, h, h1, h2, h3, r⟩ := h
  exact ⟨x, y, z, h, h1, h2, by omega, r⟩
def spCel (K : PySem.W.Frag) : Sp := fun vs H Q _ => ∃ (a : Addr) (ns : List Int) (k : Int), vs = [.ref a, .int k] ∧ SqL K H a (ns.map V.int) ∧ ns.length ≤ 63 ∧ 0 ≤ k ∧ k ≤ 63 ∧ ∀ z, Q (.int z) H
def spBx (K : PySem.W.Frag) : Sp := fun vs H Q _ => ∃ (a : Addr) (ns : List Int) (k : Int), vs = [.ref a, .int k] ∧ SqL K H a (ns.map V.int) ∧ ns.length ≤ 63 ∧ 0 ≤ k ∧ k ≤ 63 ∧
  ∀ p H', H p = none → Same H H' → BoxAt H' p 0 → Q (.ref p) H'
def spTk : Sp := fun vs H Q _ => ∃ (b : Addr) (m : Int) (c : Nat), vs = [.ref b, .int m] ∧ BoxAt H b c ∧ c ≤ 1000000 ∧ 0 < m ∧ m.natAbs < 2 ^ 4000 ∧
  ∀ r H', 0 ≤ r → r < m → SameX b H H' → BoxAt H' b (c + 1) → Q (.int r) H'
end My

set_option Elab.async false
set_option linter.all false
set_option maxRecDepth 100000
set_option maxHeartbeats 4000000
/-! ## loops and comprehensions over lists, in short -/
namespace My
open PySem PySem.Spec PyProof.Rows L2
section
variable {σ : L2.St} {H : Hp} {Q : VK} {K : PySem.W.Frag} {D : Ends} {ta tb te tl : TE} {tt : TT} {tx : TS} {i : Nat}
theorem wipe_one (σ : L2.St) (i : Nat) (x : V) : wipe ((wipe σ [i]).set i (some x)) [i] = wipe σ [i] := by
  show (((σ.set i none).set i (some x)).set i none) = σ.set i none
  rw [List.set_set, List.set_set]
/-- a comprehension over a list, behind its source -/
def LC (K : PySem.W.Frag) (i : Nat) (tt : TT) (te : TE) (σ : L2.St) (x : V) (H : Hp) (Q : VK) : Prop :=
  ∃ a', x = .ref a' ∧ (∃ ys, SqL K H a' ys) ∧ ∀ D, H D = none → ∃ W : Nat → Nat → Hp → Prop, (∃ m, W 0 m (upd H D (.lst []))) ∧ ∀ n m H, W n m H →
      ((Itl K a').stop n H ∧ Q (.ref D) H) ∨ ((Itl K a').go n H ∧ ∃ Nx : Hp → Prop, (∀ H', Nx H' → ∃ m', m' < m ∧ W (n + 1) m' H') ∧ ∀ x H', (Itl K a').yld n H x H' →
        gName i x (wipe σ [i]) H' fun σ2 H2 => wipe σ2 [i] = wipe σ [i] ∧ tt σ2 H2 fun b H3 =>
          if b = true then te σ2 H3 fun y H4 => ∃ acc, H4 D = some (.lst acc) ∧ acc.length < sizeLine ∧ Nx (upd H4 D (.lst (acc ++ [y]))) else Nx H3)
theorem r_lc {tt : TT} {vs : List Nat} (h : tl σ H fun x H1 => LC K i tt te σ x H1 Q) (hv : vs = [i] := by rfl) : tLc (iList K tl) (gName i) tt te vs σ H Q := by
  subst hv
  exact h
/-- [f x for x in xs if b x], test and element by the item alone -/
theorem r_lcA {a : Addr} {xs : List V} (b : V → Bool) (f : V → V) (hS : SqL K H a xs) (hn : xs.length ≤ 10000)
    (ht : ∀ x H1, x ∈ xs → Same H H1 → ∀ R : Bool → Hp → Prop, (∀ H2, Same H1 H2 → R (b x) H2) → tt ((wipe σ [i]).set i (some x)) H1 R)
    (he : ∀ x H1, x ∈ xs → b x = true → Same H H1 → ∀ R : VK, (∀ H2, Same H1 H2 → R (f x) H2) → te ((wipe σ [i]).set i (some x)) H1 R)
    (q : ∀ p H', H p = none → Same H H' → H' p = some (.lst ((xs.filter b).map f)) → Q (.ref p) H') :
    LC K i tt te σ (.ref a) H Q := by
  refine ⟨a, rfl, ⟨xs, hS⟩, fun D hD => ?_⟩
  refine lc_list (K := K) (a := a) (xs := xs) (fun n H' => Same H H' ∧ H' D = some (.lst (((xs.take n).filter b).map f)))
    ⟨Same.upd hD, upd_same⟩ (fun n H' _ h => h.1.seq hS) ?_ ?_
  · rintro n x H' hx ⟨s, h⟩
    show wipe ((wipe σ [i]).set i (some x)) [i] = wipe σ [i] ∧ _
    have hm : x ∈ xs := List.mem_of_getElem? hx
    have hlt : n < xs.length := (List.getElem?_eq_some_iff.mp hx).1
    have ex : xs.take (n + 1) = xs.take n ++ [x] := by
      rw [List.take_add_one, hx]
      rfl
    refine ⟨wipe_one σ i x, ht x H' hm s _ (fun H2 s2 => ?_)⟩
    cases eb : b x with
    | false =>
      refine iteF ⟨s.trans s2, ?_⟩
      rw [ex, List.filter_append, List.filter_cons_of_neg (by rw [eb]; decide), List.filter_nil, List.append_nil]
      exact s2 _ _ h
    | true =>
      refine iteT (he x H2 hm eb (s.trans s2) _ (fun H4 s4 => ?_))
      refine ⟨_, s4 _ _ (s2 _ _ h), ?_, ?_, ?_⟩
      · refine Nat.lt_of_le_of_lt (m := 10000) ?_ (by decide)
        rw [List.length_map]
        exact Nat.le_trans (List.length_filter_le _ _) (Nat.le_trans (by rw [List.length_take]; exact Nat.min_le_right _ _) hn)
      · intro c o hc
        rw [upd_ne (ne_of_none hc hD)]
        exact s4 _ _ (s2 _ _ (s _ _ hc))
      · rw [upd_same, ex, List.filter_append, List.filter_cons_of_pos eb, List.filter_nil, List.map_append]
        rfl
  · rintro H' ⟨s, h⟩
    rw [List.take_length] at h
    exact q D H' hD s h
theorem r_rng1 {R : It → Hp → Prop} {j : Int} (h1 : -(2 ^ 62) ≤ j) (h2 : j < 2 ^ 62) (q : R (Itr 0 j.toNat) H) :
    ∃ j' : Int, [V.int j] = [.int j'] ∧ -(2 ^ 62) ≤ j' ∧ j' < 2 ^ 62 ∧ R (Itr 0 j'.toNat) H := ⟨j, rfl, h1, h2, q⟩
end
end My

set_option Elab.async false
set_option linter.all false
set_option maxRecDepth 100000
set_option maxHeartbeats 4000000
/-! ## what is known of a value stays known -/
namespace My
open PySem PySem.Spec PyProof.Rows L2
section
variable {K : PySem.W.Frag} {H H' : Hp}
mutual
theorem Dp_same (s : Same H H') : ∀ (d : PyData) (v : V), Dp K H v d → Dp K H' v d
  | .none, _, h => by cases h; exact .non
  | .bool b, _, h => by cases h; exact .bl b
  | .int i, _, h => by cases h; exact .int i
  | .str x, _, h => by cases h; exact .str x
  | .list ds, _, h => by
    cases h with
    | lst hs ha => exact .lst (s.seq hs) (DpAll_same s ds _ ha)
  | .tuple ds, _, h => by
    cases h with
    | tup hs ha => exact .tup (SqT_same s hs) (DpAll_same s ds _ ha)
  | .dict _, _, h => by cases h
theorem DpAll_same (s : Same H H') : ∀ (ds : List PyData) (vs : List V), DpAll K H vs ds → DpAll K H' vs ds
  | [], _, h => by cases h; exact .nil
  | d :: ds, _, h => by
    cases h with
    | cons h1 h2 => exact .cons (Dp_same s d _ h1) (DpAll_same s ds _ h2)
end
theorem Dv.same (s : Same H H') {v : V} {d : PyData} (h : Dv K H v d) : Dv K H' v d := by
  cases h with
  | of h n => exact .of (Dp_same s d v h) n
  | dic h e => exact .dic (s _ _ h) e
theorem TyOf_same (s : Same H H') {v : V} {t : Value} (h : TyOf K H v t) : TyOf K H' v t := by
  cases h with
  | non => exact .non
  | bl b => exact .bl b
  | int i => exact .int i
  | str x => exact .str x
  | flt x => exact .flt x
  | lst e => exact .lst (s _ _ e)
  | frz e => exact .frz (s _ _ e)
  | tup e => exact .tup (s _ _ e)
  | dK e => exact .dK (s _ _ e)
  | dT e => exact .dT (s _ _ e)
  | ins e cl ha hn ht hm => exact .ins (s _ _ e) cl ha hn ht hm
theorem TyX_same (s : Same H H') {v : V} {t : Value} (h : TyX K H v t) : TyX K H' v t := by
  cases h with
  | base h => exact .base (TyOf_same s h)
  | byt b => exact .byt b
  | set e => exact .set (s _ _ e)
  | kList e c => exact .kList e c
  | kTuple e c => exact .kTuple e c
  | kDict e c => exact .kDict e c
  | fTuple e => exact .fTuple (s _ _ e)
  | fDict e => exact .fDict (s _ _ e)
/-- v can be shown, and it is known whether it is a bool -/
def Shw (K : PySem.W.Frag) (H : Hp) (v : V) : Prop := ∃ d t b, Dv K H v d ∧ d.showable = true ∧ d.depth ≤ 40 ∧ d.shown.length ≤ 100000 ∧ TyX K H v t ∧ PySem.W.kitOne K t (.type "bool") = some b
theorem Shw.same (s : Same H H') {v : V} (h : Shw K H v) : Shw K H' v := by
  obtain ⟨d, t, b, h1, h2, h3, h4, h5, h6⟩ := h
  exact ⟨d, t, b, h1.same s, h2, h3, h4, TyX_same s h5, h6⟩
theorem shw_non : Shw K H .non := ⟨.none, _, false, .of .non rfl, rfl, Nat.zero_le _, by decide +kernel, .base .non, kit_ty (by decide +kernel)⟩
theorem shw_bl (b : Bool) : Shw K H (.bl b) := ⟨.bool b, _, true, .of (.bl b) rfl, rfl, Nat.zero_le _, by cases b <;> decide +kernel, .base (.bl b), kit_ty (by decide +kernel)⟩
theorem shw_int (i : Int) (h : (PyData.int i).showable = true) (h2 : (PyData.int i).shown.length ≤ 100000) : Shw K H (.int i) :=
  ⟨.int i, _, false, .of (.int i) rfl, h, Nat.zero_le _, h2, .base (.int i), kit_ty (by decide +kernel)⟩
theorem shw_str (x : Str) (h2 : (PyData.str x).shown.length ≤ 100000) : Shw K H (.str x) :=
  ⟨.str x, _, false, .of (.str x) rfl, rfl, Nat.zero_le _, h2, .base (.str x), kit_ty (by decide +kernel)⟩
theorem shw_lst {p : Addr} {xs : List V} {ds : List PyData} (h : H p = some (.lst xs)) (ha : DpAll K H xs ds) (n : (PyData.list ds).hasDict = false) (h1 : (PyData.list ds).showable = true)
    (h2 : (PyData.list ds).depth ≤ 40) (h3 : (PyData.list ds).shown.length ≤ 100000) : Shw K H (.ref p) :=
  ⟨.list ds, _, false, .of (.lst (SqL.of h) ha) n, h1, h2, h3, .base (.lst h), kit_ty (by decide +kernel)⟩
theorem shw_tup {p : Addr} {xs : List V} {ds : List PyData} (h : H p = some (.tup xs)) (ha : DpAll K H xs ds) (n : (PyData.tuple ds).hasDict = false) (h1 : (PyData.tuple ds).showable = true)
    (h2 : (PyData.tuple ds).depth ≤ 40) (h3 : (PyData.tuple ds).shown.length ≤ 100000) : Shw K H (.ref p) :=
  ⟨.tuple ds, _, false, .of (.tup (SqT.of h) ha) n, h1, h2, h3, .base (.tup h), kit_ty (by decide +kernel)⟩
theorem shw_dic {p : Addr} {kvs : List (Key × V)} {l : List (PyData × PyData)} (h : H p = some (.dK kvs)) (e : pairsD kvs = some l) (h1 : (PyData.dict l).showable = true)
    (h2 : (PyData.dict l).depth ≤ 40) (h3 : (PyData.dict l).shown.length ≤ 100000) : Shw K H (.ref p) :=
  ⟨.dict l, _, false, .dic h e, h1, h2, h3, .base (.dK h), kit_ty (by decide +kernel)⟩
theorem r_repr {Q : VK} {v : V} {d : PyData} (h1 : Dv K H v d) (h2 : d.showable = true) (h3 : d.depth ≤ 40) (h4 : d.shown.length ≤ 100000) (q : Q (.str d.shown) H) :
    rRepr K [v] H Q := ⟨v, d, rfl, h1, h2, h3, Nat.le_trans h4 (by decide), q⟩
theorem r_isiT {Q : VK} {v : V} {n : String} {t : Value} {b : Bool} (h : TyX K H v t) (e : PySem.W.kitOne K t (.type n) = some b) (q : Q (.bl b) H) :
    rIsi K [v, .ty n] H Q := ⟨v, .ty n, t, .type n, b, rfl, .ty n, h, e, q⟩
theorem r_eqD {Q : VK} {x y : V} {d e : PyData} (h1 : Dp K H x d) (h2 : Dp K H y e) (h3 : SeqAt.shaped d = true) (h4 : SeqAt.shaped e = true) (q : Q (.bl (PyData.eqv d e)) H) :
    rEqD K x y H Q := ⟨d, e, h1, h2, h3, h4, q⟩
/-- a place within a list: something of it -/
theorem atI_mem {xs : List V} {i : Int} (h0 : 0 ≤ i) (h : i < xs.length) : ∃ v, atI xs i = some v ∧ v ∈ xs := by
  obtain ⟨j, rfl⟩ := Int.eq_ofNat_of_zero_le h0
  have hj : j < xs.length := by omega
  exact ⟨xs[j], atI_nat (List.getElem?_eq_getElem hj), List.getElem_mem hj⟩
def isBl : V → Bool
  | .bl _ => true
  | _ => false
def isT : V → Bool
  | .bl b => b
  | _ => false
theorem bl_of : ∀ {v : V}, isBl v = true → ∃ b, v = .bl b
  | .bl b, _ => ⟨b, rfl⟩
  | .non, h => by cases h
  | .int _, h => by cases h
  | .str _, h => by cases h
  | .byt _, h => by cases h
  | .flt _, h => by cases h
  | .ref _, h => by cases h
  | .ty _, h => by cases h
end
end My

set_option Elab.async false
set_option linter.all false
set_option maxRecDepth 100000
set_option maxHeartbeats 4000000
/-! ## the rules that name the written part, with its name given (for comprehensions) -/
namespace My
open PySem PySem.Spec PyProof.Rows L2
section
variable {X : Cx} (K : PySem.W.Frag) (hK : X.K = K)
include hK
theorem isErrA : CallR X (.builtin "isinstance") (rIsErr K) := by subst hK; exact call_isErr
theorem isiA : CallR X (.builtin "isinstance") (rIsi K) := by subst hK; exact call_isi
theorem lenA : CallR X (.builtin "len") (rLenQ K) := by subst hK; exact cl_len
theorem listA : CallR X (.type "list") (rListOf K) := by subst hK; exact cl_list
theorem reprA (hg : X.A.guards = some []) (hu : X.A.units + 64 < cLine) : CallR X (.builtin "repr") (rRepr K) := by subst hK; exact call_reprD hg hu
theorem ixLA : IxR X (rIxL K) := by subst hK; exact ix_list
theorem ixTA : IxR X (rIxT K) := by subst hK; exact ix_tup
theorem eqDA (hu : X.A.units + 64 < cLine) : OpR X (compareOp .Eq) (rEqD K) := by subst hK; exact op_eqD hu
theorem neDA (hu : X.A.units + 64 < cLine) : OpR X (compareOp .NotEq) (rNeD K) := by subst hK; exact op_neD hu
theorem inA : OpR X (compareOp .In) (rIn K false) := by subst hK; exact op_in_seq
theorem notInA : OpR X (compareOp .NotIn) (rIn K true) := by subst hK; exact op_notIn_seq
theorem slLA : SlR X (rSlL K) := by subst hK; exact sl_list
theorem pe_errFA {e : Expr} {te : TE} {f : Str} {pos : Pos} (he : PE X e te) (hb : attributeBase e f X.env (eval e X.env) = eval e X.env := by rfl) :
    PE X (.Attribute e f pos) (tErrF K f te) := by subst hK; exact pe_errF he hb
theorem pe_fldA {e : Expr} {te : TE} {f : Str} {pos : Pos} (he : PE X e te) (hb : attributeBase e f X.env (eval e X.env) = eval e X.env := by rfl) :
    PE X (.Attribute e f pos) (tFld K te f) := by subst hK; exact pe_fld he hb
theorem pi_listA {tg e : Expr} {te : TE} (he : PE X e te) : PI X tg e (iList K te) := by subst hK; exact pi_list he
end
section
variable {σ : L2.St} {H : Hp} {Q : VK} {K : PySem.W.Frag} {te : TE} {tt : TT} {i : Nat}
/-- [.. for x in xs if b], where no test holds -/
theorem r_lcN {a : Addr} {xs : List V} (hS : SqL K H a xs) (hn : xs.length ≤ 10000)
    (ht : ∀ x H1, x ∈ xs → Same H H1 → ∀ R : Bool → Hp → Prop, (∀ H2, Same H1 H2 → R false H2) → tt ((wipe σ [i]).set i (some x)) H1 R)
    (q : ∀ p H', H p = none → Same H H' → H' p = some (.lst []) → Q (.ref p) H') : LC K i tt te σ (.ref a) H Q := by
  refine r_lcA (fun _ => false) id hS hn ht (fun x H1 _ h => by cases h) (fun p H' n s h => q p H' n s ?_)
  have e : List.map id (List.filter (fun _ : V => false) xs) = [] := by
    rw [List.filter_eq_nil_iff.mpr (fun _ _ => Bool.false_ne_true)]
    rfl
  rw [e] at h
  exact h
theorem r_eqNil {p q : Addr} (h1 : H p = some (.lst [])) (h2 : H q = some (.lst [])) (k : Q (.bl true) H) : rEqD K (.ref p) (.ref q) H Q :=
  r_eqD (d := .list []) (e := .list []) (.lst (SqL.of h1) .nil) (.lst (SqL.of h2) .nil) (by decide) (by decide) (by
    have e : PyData.eqv (.list []) (.list []) = true := by decide
    rw [e]
    exact k)
end
end My

set_option Elab.async false
set_option linter.all false
set_option maxRecDepth 100000
set_option maxHeartbeats 4000000
/-! ## for loops -/
namespace My
open PySem PySem.Spec PyProof.Rows L2
section
variable {σ : L2.St} {H : Hp} {K : PySem.W.Frag} {D : Ends} {tj tl : TE} {g : TG} {tb : TS}
/-- the loop's walk, its source being walked -/
def ForW (J : It) (g : TG) (tb : TS) (D : Ends) (σ : L2.St) (H1 : Hp) : Prop :=
  ∃ W : Nat → Nat → L2.St → Hp → Prop, (∃ m, W 0 m σ H1) ∧ ∀ i m σ H, W i m σ H →
    (J.stop i H ∧ D.nx σ H) ∨ (J.go i H ∧ ∃ N : L2.St → Hp → Prop, (∀ σ' H', N σ' H' → ∃ m', m' < m ∧ W (i + 1) m' σ' H') ∧
      ∀ x H', J.yld i H x H' → g x σ H' fun σ2 H2 => tb { D with nx := N, ct := N, bk := D.nx } σ2 H2)
def FR (g : TG) (tb : TS) (D : Ends) (σ : L2.St) (x : V) (H : Hp) : Prop := ∃ j : Int, x = .int j ∧ -(2 ^ 62) ≤ j ∧ j < 2 ^ 62 ∧ ForW (Itr 0 j.toNat) g tb D σ H
def FL (K : PySem.W.Frag) (g : TG) (tb : TS) (D : Ends) (σ : L2.St) (x : V) (H : Hp) : Prop := ∃ a, x = .ref a ∧ (∃ xs, SqL K H a xs) ∧ ForW (Itl K a) g tb D σ H
theorem r_forR (h : tj σ H fun x H1 => FR g tb D σ x H1) : tFor (iRng1 (tCons tj tNil)) g tb D σ H := by
  have e : (fun (x : V) (H1 : Hp) => FR g tb D σ x H1) = fun x H1 => ∃ j : Int, [x] = [.int j] ∧ -(2 ^ 62) ≤ j ∧ j < 2 ^ 62 ∧ ForW (Itr 0 j.toNat) g tb D σ H1 := by
    funext x H1
    apply propext
    constructor
    · rintro ⟨j, rfl, r⟩
      exact ⟨j, rfl, r⟩
    · rintro ⟨j, ex, r⟩
      cases ex
      exact ⟨j, rfl, r⟩
  rw [e] at h
  exact h
theorem r_forL (h : tl σ H fun x H1 => FL K g tb D σ x H1) : tFor (iList K tl) g tb D σ H := h
/-- for i in range(n): what holds of the turn, the slots, the heap -/
theorem r_range (n : Nat) (Pv : Nat → L2.St → Hp → Prop) {j : Int} (hj : j = (n : Int)) (hn : n ≤ 1000000) (h0 : Pv 0 σ H)
    (hs : ∀ i σ H, i < n → Pv i σ H → g (.int (i : Int)) σ H fun σ2 H2 => tb { D with nx := Pv (i + 1), ct := Pv (i + 1), bk := D.nx } σ2 H2)
    (hd : ∀ σ H, Pv n σ H → D.nx σ H) : FR g tb D σ (.int j) H := by
  subst hj
  refine ⟨(n : Int), rfl, by omega, by omega, ?_⟩
  show ForW (Itr 0 n) g tb D σ H
  refine for_range (lo := 0) (n := n) Pv h0 (fun i σ H hi p => ?_) hd
  rw [Int.zero_add]
  exact hs i σ H hi p
theorem r_each {a : Addr} {xs : List V} (Pv : Nat → L2.St → Hp → Prop) (hS : SqL K H a xs) (h0 : Pv 0 σ H) (hl : ∀ i σ H, i ≤ xs.length → Pv i σ H → SqL K H a xs)
    (hs : ∀ i x σ H, xs[i]? = some x → Pv i σ H → g x σ H fun σ2 H2 => tb { D with nx := Pv (i + 1), ct := Pv (i + 1), bk := D.nx } σ2 H2)
    (hd : ∀ σ H, Pv xs.length σ H → D.nx σ H) : FL K g tb D σ (.ref a) H :=
  ⟨a, rfl, ⟨xs, hS⟩, for_list (xs := xs) Pv h0 hl hs hd⟩
theorem BoxAt.ne {b p : Addr} {c : Nat} (h : BoxAt H b c) (n : H p = none) : p ≠ b := by
  obtain ⟨x, y, z, h, _⟩ := h
  exact (ne_of_none h n).symm
end
end My

set_option Elab.async false
set_option linter.all false
set_option maxRecDepth 100000
set_option maxHeartbeats 4000000
/-! ## from the head's facts to callees -/
namespace My
open PySem PySem.Spec PyProof.Rows L2
section
variable {P : Program} {w : World} {K : PySem.W.Frag} {mg : Str → Option Value} {base : Heap} {h : Heap}
theorem fGlo_ok (X : K.In h) (G : h.Ns mainGlobals mg) {x : Str} (c : fGlo x K = true) : mg x = some (.ref (He.ga K x)) := He.glo_ok X G c
theorem fFree_ok (X : K.In h) (G : h.Ns mainGlobals mg) {x : Str} (c : fFree x K = true) : mg x = none := He.free_ok X G c
theorem errB_of {x qual f : Str} {params : Arguments} {body : List Stmt} {scope : Scope} {g : Addr} {fd : FuncData} (F : FunD K x qual params body scope [] [] g fd)
    (h1 : ∀ (kV doc pm : Value) (an : Option Addr) (cdv ct v u : Value), bindArgs (PySem.W.fnOf x qual params body scope .none kV doc pm an cdv ct) ⟨[v, u], []⟩ = pure [(("self" : Str), v), (f, u)])
    (h2 : ∀ (kV doc pm : Value) (an : Option Addr) (cdv ct v u : Value), bindArgs (PySem.W.fnOf x qual params body scope .none kV doc pm an cdv ct) ⟨[v], [(f, u)]⟩ = pure [(("self" : Str), v), (f, u)]) : ErrB fd f := by
  obtain ⟨oc, od, dV, kV, doc, pm, an, cdv, ct, osl, rfl, lk, hcd, hD, hK⟩ := F.ex
  rcases hD with ⟨_, rfl⟩ | ⟨e, _⟩
  · exact ⟨fun s v u => .of_eq (h1 kV doc pm an cdv ct v u), fun s v u => .of_eq (h2 kV doc pm an cdv ct v u)⟩
  · exact absurd rfl e
def calP_of (X : K.In h) (G : h.Ns mainGlobals mg) {x : Str} (c : fExc x K = true) : CalP K mg x := by
  have c' := c
  unfold fExc at c'
  have c1 := (Bool.and_eq_true_iff.mp c').1
  have c2 := (Bool.and_eq_true_iff.mp (Bool.and_eq_true_iff.mp c').2).1
  have c3 := (Bool.and_eq_true_iff.mp (Bool.and_eq_true_iff.mp c').2).2
  have z := He.exc_ok c1
  exact ⟨He.ga K x, (excB_ok c2).1, z.1, z.2.1, z.2.2.1, z.2.2.2, He.glo_ok X G c3⟩
end
end My

set_option Elab.async false
set_option linter.all false
set_option maxRecDepth 100000
set_option maxHeartbeats 4000000
/-! ## operators of an own class -/
namespace My
open PySem PySem.W PySem.Calls PyProof.Rows
theorem bind_objne (self : Value) : bindSpecial (.builtin "object.__ne__") self = pure (.builtin "object.__ne__", [self]) := by
  have a1 : withoutEnding? "object.__ne__" "#opaque" = none := by decide +kernel
  have a2 : withoutEnding? "object.__ne__" "#data" = none := by decide +kernel
  simp only [bindSpecial, typeOf, builtinType, a1, a2, PySem.F.cmpKind_ne]
  rfl
theorem plain_objne : plainId "object.__ne__" = true := by decide +kernel
section
variable {prog : Program} {w : World} {A : Around} {E : Value → Shared → Prop} {s : Shared} {K : Frag} {x C f : Addr} {ox : Obj} {od : Option Obj}
theorem ne_body {b : Value} {Q : Fin → Shared → Prop} (hu : A.units < cLine) (X : K.In s.heap) (I : InstAt s.heap x ox C od)
    (hs : findIn K (.ref C) "__eq__" = some (some (.ref f))) (hf : isFn K (.ref f) = true)
    (h : wpAny (model prog w) A (call (.ref f) [.ref x, b]) (fun v s' => ∃ r, v = .bool r ∧ Q (.done (.ret (.bool (!r)))) s') E s) :
    wpAny (model prog w) A (Builtin.«object.__ne__» ⟨[.ref x, b], []⟩) Q E s := by
  unfold Builtin.«object.__ne__»
  refine wpAny_bind (wpAny_of_eq (a := ((Value.ref x : Value), [b])) (by first | rfl | (simp only [slotArgs]; rfl)) ?_)
  refine wpAny_bind (wpAny_cRoomFor hu ?_)
  refine wpAny_bind (ifBound_K X I hs hf (wpAny_mono h ?_ (fun _ _ e => e)))
  rintro v s' ⟨r, rfl, q⟩
  refine wpAny_bind (wpAny_truthy_bool ?_)
  exact wpAny_pure q
theorem ne_bound {args : List Value} {Q : Option Value → Shared → Prop} {M : Model} (X : K.In s.heap) (I : InstAt s.heap x ox C od)
    (hne : findIn K (.ref C) "__ne__" = some (some (.builtin "object.__ne__")))
    (h : wpAny M A (call (.builtin "object.__ne__") (.ref x :: args)) (fun v => Q (some v)) E s) :
    wpAny M A (callSpecialIfBound? (.ref x) "__ne__" args) Q E s := by
  have L : Looks M s.heap (bindSpecial (.builtin "object.__ne__") (.ref x)) (.builtin "object.__ne__", [.ref x]) := Looks.of_pure (bind_objne (.ref x))
  simp only [callSpecialIfBound?, bindSpecialIfBound?]
  refine wpAny_holding (wpAny_bind (wpAny_bind (wpAny_bind (I.type.here ((looks_findIn X hne).here ?_)))))
  refine wpAny_bind (wpAny_askSetting (wpAny_ite ?_))
  have fin : wpAny M A (call (.builtin "object.__ne__") ([.ref x] ++ args) >>= fun v => pure (some v)) Q E s :=
    wpAny_bind (wpAny_mono h (fun v s' h' => wpAny_pure h') fun _ _ h' => h')
  split
  · exact wpAny_bind (L.here (wpAny_pure (by exact fin)))
  · exact wpAny_tryCatch (wpAny_bind (L.here (wpAny_pure (by exact fin))))
theorem ne_try {b : Value} {Q : Value → Shared → Prop} (hu : A.units + 1 < cLine) (X : K.In s.heap) (I : InstAt s.heap x ox C od)
    (hne : findIn K (.ref C) "__ne__" = some (some (.builtin "object.__ne__"))) (hm : mroIn K C (.type "object") = some true)
    (hs : findIn K (.ref C) "__eq__" = some (some (.ref f))) (hf : isFn K (.ref f) = true)
    (h : wpAny (model prog w) A.in1 (call (.ref f) [.ref x, b]) (fun v s' => ∃ r, v = .bool r ∧ Q (.bool (!r)) s') E s) :
    wpAny (model prog w) A (tryCompare (.ref x) "__ne__" b) (fun r s' => ∃ v, r = some (.bool v) ∧ Q (.bool v) s') E s := by
  have sub : Looks (model prog w) s.heap (isInstance (.ref x) (.type "object")) true := I.type.andThen (looks_mroIn X hm)
  unfold tryCompare
  refine wpAny_bind (ne_bound X I hne (wpAny_call (codeAny_call_builtin plain_objne PySem.F.cmpEntry_ne ?_)))
  refine check_slot PySem.F.cmpKind_ne PySem.F.cmpSplit_ne sub (PySem.F.cmpArgs_ne _ _) ?_
  refine ne_body (A := A.in1) hu X I hs hf (wpAny_mono h ?_ (fun _ _ e => e))
  rintro v s' ⟨r, rfl, q⟩
  exact ⟨r, rfl, wpAny_pure ⟨!r, rfl, q⟩⟩
/-- x != b, where the class has its own == and object's != -/
theorem ne_own {b : Value} {tb : Value} {Q : Value → Shared → Prop} (hu : A.units + 1 < cLine) (X : K.In s.heap) (I : InstAt s.heap x ox C od)
    (hb : Looks (model prog w) s.heap (typeOf b) tb) (hn : notFirst K C tb = true)
    (hne : findIn K (.ref C) "__ne__" = some (some (.builtin "object.__ne__"))) (hm : mroIn K C (.type "object") = some true)
    (hs : findIn K (.ref C) "__eq__" = some (some (.ref f))) (hf : isFn K (.ref f) = true)
    (h : wpAny (model prog w) A.in1 (call (.ref f) [.ref x, b]) (fun v s' => ∃ r, v = .bool r ∧ Q (.bool (!r)) s') E s) :
    wpAny (model prog w) A (richCompare .NotEq (.ref x) b) Q E s := by
  have one := ne_try hu X I hne hm hs hf h
  unfold richCompare
  simp only [oneThing_ref]
  refine wpAny_holding (wpAny_bind (wpAny_cRoomFor (Nat.lt_of_succ_lt hu) ?_))
  rw [cmpInfo_NotEq]
  dsimp only
  refine wpAny_bind (I.type.here (wpAny_bind (hb.here ?_)))
  split
  · rename_i q
    have e2 : subIn K tb (.ref C) = some false := by
      unfold notFirst at hn
      rcases Bool.or_eq_true_iff.mp hn with z | z
      · rw [beq_iff_eq.mp z] at q
        simp at q
      · exact beq_iff_eq.mp z
    refine wpAny_bind ((looks_subIn X e2).here ?_)
    simp only [Bool.false_eq_true, if_false]
    refine wpAny_bind (wpAny_mono one ?_ (fun _ _ e => e))
    rintro r s' ⟨v, rfl, hq⟩
    exact wpAny_pure hq
  · refine wpAny_bind (wpAny_pure ?_)
    simp only [Bool.false_eq_true, if_false]
    refine wpAny_bind (wpAny_mono one ?_ (fun _ _ e => e))
    rintro r s' ⟨v, rfl, hq⟩
    exact wpAny_pure hq
end
end My
namespace My
open PySem PySem.Spec PyProof.Rows L2
/-- what an own class must have for its instances to be operands -/
structure InsC (K : PySem.W.Frag) (C : Addr) : Prop where
  cl : Cls K C
  ca : PySem.W.findIn K (.ref C) "__class__" = some (some (.builtin "object.__class__"))
  cn : PySem.W.specialIn K (.builtin "object.__class__") "__get__" = some (some (.builtin "getset_descriptor.__get__"))
  ct : PySem.W.takesIn K (.builtin "object.__class__") = some true
  cm : PySem.W.mroIn K C (.type "object") = some true
  sf : PySem.W.selfFirst K C = true
theorem InsC.ty {K : PySem.W.Frag} {C : Addr} (T : InsC K C) {H : Hp} {a dx : Addr} {fs : List (Str × V)} (h : H a = some (.ins C dx fs)) : TyX K H (.ref a) (.ref C) :=
  .base (.ins h T.cl T.ca T.cn T.ct T.cm)
section
variable {X : Cx} {CX : CXT} {C f : Addr} {k : Nat} {fd : FuncData} {ps : List Str} {sp : Sp} {E : XK}
/-- x op y: x an instance of the class, y another one or an int -/
def rOwnB (C : Addr) (sp : Sp) (E : XK) : R2 := fun x y H Q => ∃ a dx fs, x = .ref a ∧ H a = some (.ins C dx fs) ∧
  ((∃ b dy gs, y = .ref b ∧ H b = some (.ins C dy gs)) ∨ ∃ i, y = .int i) ∧ sp [x, y] H Q E
/-- x op y for a comparison: y anything -/
def rOwnC (K : PySem.W.Frag) (C : Addr) (sp : Sp) (E : XK) : R2 := fun x y H Q => ∃ a dx fs t, x = .ref a ∧ H a = some (.ins C dx fs) ∧ TyX K H y t ∧ PySem.W.notFirst K C t = true ∧ sp [x, y] H Q E
/-- x != y by the class's own == -/
def rOwnN (K : PySem.W.Frag) (C : Addr) (sp : Sp) (E : XK) : R2 := fun x y H Q => ∃ a dx fs t, x = .ref a ∧ H a = some (.ins C dx fs) ∧ TyX K H y t ∧ PySem.W.notFirst K C t = true ∧
  sp [x, y] H (fun v H' => ∃ r, v = .bl r ∧ Q (.bl (!r)) H') E
def rOwnU (C : Addr) (sp : Sp) (E : XK) : V → Hp → VK → Prop := fun x H Q => ∃ a dx fs, x = .ref a ∧ H a = some (.ins C dx fs) ∧ sp [x] H Q E
/-- how the class stands to ints as right operands -/
structure IntR (K : PySem.W.Frag) (C : Addr) (nm : String) : Prop where
  rf : PySem.W.findIn K (.ref C) (dunderR nm) = some none
  l : ∃ fo, PySem.W.findIn K (.type "int") (PySem.dunder nm) = some fo
  r : ∃ ro, PySem.W.findIn K (.type "int") (dunderR nm) = some ro
  sub : PySem.W.subIn K (.type "int") (.ref C) = some false
theorem op_ownB {op : Operator} (T : InsC X.K C) (hs : PySem.W.findIn X.K (.ref C) (PySem.dunder op.info.2) = some (some (.ref f))) (hf : PySem.W.isFn X.K (.ref f) = true)
    (hi : IntR X.K C op.info.2) (F : FnOk X.prog X.w X.K X.mg X.base CX k f fd ps sp) (hr : Room k X.A) (hb : L2.Binds X.K fd ps []) (hx : Passes CX X E) :
    OpR X (binaryOp op) (rOwnB C sp E) := by
  intro pins s σ H x y v u Q I rx ry h
  obtain ⟨a, dx, fs, rfl, ha, hy, q⟩ := h
  cases (show v = Value.ref a from rx)
  obtain ⟨mA, O, _⟩ := ins_get I.hok ha
  obtain ⟨od, J, _⟩ := O.look
  obtain ⟨m, hF⟩ := I.fr
  rcases hy with ⟨b, dy, gs, rfl, hb2⟩ | ⟨i, rfl⟩
  · cases (show u = Value.ref b from ry)
    obtain ⟨mB, O2, _⟩ := ins_get I.hok hb2
    obtain ⟨od2, J2, _⟩ := O2.look
    refine PySem.W.binop_K hF I.ok.mod.kin J J2.type T.sf hs hf ?_
    refine wpAny_mono (run_fn (us := [.ref a, .ref b]) (vs := [.ref a, .ref b]) F hr hb .nil hx I (.cons rfl (.cons rfl .nil)) q) ?_ (fun _ _ e => e)
    rintro w' s' ⟨z, H', I', rz, qz⟩
    exact SlX.cmpback rz ⟨z, H', I', rz, qz⟩
  · obtain ⟨t, rfl⟩ := ry
    obtain ⟨fo, hl⟩ := hi.l
    obtain ⟨ro, hr2⟩ := hi.r
    refine PySem.W.ksp_binT (T := "int") hF I.ok.mod.kin J (by rfl) T.sf hs hf hi.rf (Or.inl rfl) hl hr2 hi.sub ?_
    refine wpAny_mono (run_fn (us := [.ref a, .int i t]) (vs := [.ref a, .int i]) F hr hb .nil hx I (.cons rfl (.cons ⟨t, rfl⟩ .nil)) q) ?_ (fun _ _ e => e)
    rintro w' s' ⟨z, H', I', rz, qz⟩
    exact SlX.cmpback rz ⟨z, H', I', rz, qz⟩
theorem op_ownC {op : CmpOp} (hop : ∀ a b, compareOp op a b = richCompare op a b) (hs : PySem.W.findIn X.K (.ref C) (cmpInfo op).2.1 = some (some (.ref f))) (hf : PySem.W.isFn X.K (.ref f) = true)
    (F : FnOk X.prog X.w X.K X.mg X.base CX k f fd ps sp) (hr : Room k X.A) (hb : L2.Binds X.K fd ps []) (hx : Passes CX X E) : OpR X (compareOp op) (rOwnC X.K C sp E) := by
  intro pins s σ H x y v u Q I rx ry h
  obtain ⟨a, dx, fs, t, rfl, ha, hy, hn, q⟩ := h
  cases (show v = Value.ref a from rx)
  obtain ⟨mA, O, _⟩ := ins_get I.hok ha
  obtain ⟨od, J, _⟩ := O.look
  obtain ⟨m, hF⟩ := I.fr
  obtain ⟨P, kx, hP, _⟩ := kit_of I ry hy
  rw [hop]
  refine PySem.W.cmp_K (op := op) (tb := t) hr.units0 hF I.ok.mod.kin J (kx.ty _ _ I.kIn hP) hn hs hf ?_
  refine wpAny_mono (run_fn (us := [.ref a, u]) (vs := [.ref a, y]) F hr hb .nil hx I (.cons rfl (.cons ry .nil)) q) ?_ (fun _ _ e => e)
  rintro w' s' ⟨z, H', I', rz, qz⟩
  exact SlX.cmpback rz ⟨z, H', I', rz, qz⟩
theorem run_in1 {pins : List (Addr × Obj)} {σ : L2.St} {H : Hp} {s : Shared} {Q : VK} {us : List Value} {vs : List V} (F : FnOk X.prog X.w X.K X.mg X.base CX k f fd ps sp) (hr : Room (k + 1) X.A)
    (hb : L2.Binds X.K fd ps []) (hx : Passes CX X E) (I : L2.Inv X pins σ H s) (r : Vals vs us) (h : sp vs H Q E) :
    wpAny (model X.prog X.w) X.A.in1 (call (.ref f) us) (EP X pins σ Q) X.xe s := by
  have hl : us.length = ps.length := by
    rw [← r.length]
    exact F.len _ _ _ _ h
  have hb2 := hb s us I.kIn (by rw [List.append_nil]; exact hl)
  rw [List.append_nil] at hb2
  refine wpAny_call (codeAny_mono (F.run X.A.in1 X.stack s H ⟨us, []⟩ us vs Q E hr.in1 I.env0.in1 hb2 r h) ?_)
  intro res s' hq
  match res, hq with
  | .error er, hq => exact hx pins σ H s er s' I hq
  | .ok (.ret u), hq => exact I.after hq
  | .ok .next, hq => exact hq.elim
  | .ok .brk, hq => exact hq.elim
  | .ok .cont, hq => exact hq.elim
theorem op_ownN (hne : PySem.W.findIn X.K (.ref C) "__ne__" = some (some (.builtin "object.__ne__"))) (hm : PySem.W.mroIn X.K C (.type "object") = some true)
    (hs : PySem.W.findIn X.K (.ref C) "__eq__" = some (some (.ref f))) (hf : PySem.W.isFn X.K (.ref f) = true)
    (F : FnOk X.prog X.w X.K X.mg X.base CX k f fd ps sp) (hr : Room (k + 1) X.A) (hb : L2.Binds X.K fd ps []) (hx : Passes CX X E) : OpR X (compareOp .NotEq) (rOwnN X.K C sp E) := by
  intro pins s σ H x y v u Q I rx ry h
  obtain ⟨a, dx, fs, t, rfl, ha, hy, hn, q⟩ := h
  cases (show v = Value.ref a from rx)
  obtain ⟨mA, O, _⟩ := ins_get I.hok ha
  obtain ⟨od, J, _⟩ := O.look
  obtain ⟨P, kx, hP, _⟩ := kit_of I ry hy
  show wpAny _ _ (richCompare .NotEq (.ref a) u) _ _ _
  refine ne_own (tb := t) (Nat.lt_of_le_of_lt (Nat.add_le_add_left (by decide : 1 ≤ 64) _) hr.units) I.kIn J (kx.ty _ _ I.kIn hP) hn hne hm hs hf ?_
  refine wpAny_mono (run_in1 (us := [.ref a, u]) (vs := [.ref a, y]) F hr hb hx I (.cons rfl (.cons ry .nil)) q) ?_ (fun _ _ e => e)
  rintro w' s' ⟨z, H', I', rz, r, rfl, qz⟩
  cases rz
  exact ⟨r, rfl, .bl (!r), H', I', rfl, qz⟩
theorem un_ownU (hs : PySem.W.findIn X.K (.ref C) "__neg__" = some (some (.ref f))) (hf : PySem.W.isFn X.K (.ref f) = true)
    (F : FnOk X.prog X.w X.K X.mg X.base CX k f fd ps sp) (hr : Room k X.A) (hb : L2.Binds X.K fd ps []) (hx : Passes CX X E) : UnR X (unaryOp .USub) (rOwnU C sp E) := by
  intro pins s σ H x v Q I rx h
  obtain ⟨a, dx, fs, rfl, ha, q⟩ := h
  cases (show v = Value.ref a from rx)
  obtain ⟨mA, O, _⟩ := ins_get I.hok ha
  obtain ⟨od, J, _⟩ := O.look
  unfold unaryOp
  refine wpAny_holding ?_
  simp only [show (UnaryOp.USub == UnaryOp.Not) = false from rfl, Bool.false_eq_true, if_false]
  refine wpAny_bind (PySem.W.special_fn I.kIn J hs (beq_iff_eq.mp hf) (wpAny_mono (run_fn (us := [.ref a]) (vs := [.ref a]) F hr hb .nil hx I (.cons rfl .nil) q) ?_ (fun _ _ e => e)))
  intro w' s' hq
  exact wpAny_pure hq
end
end My

set_option Elab.async false
set_option linter.all false
set_option maxRecDepth 100000
set_option maxHeartbeats 4000000
/-! ## quotients: core Lean's Rat, and what the program reckons -/
namespace My
open PySem
theorem gcd_pos {t b : Int} (hb : b ≠ 0) : 0 < Nat.gcd t.natAbs b.natAbs := Nat.gcd_pos_of_pos_right _ (by omega)
/-- the sign that the program gives the divisor -/
def sgcd (t b : Int) : Int := if b < 0 then -((Nat.gcd t.natAbs b.natAbs : Nat) : Int) else ((Nat.gcd t.natAbs b.natAbs : Nat) : Int)
theorem sgcd_ne {t b : Int} (hb : b ≠ 0) : sgcd t b ≠ 0 := by
  have h := gcd_pos (t := t) hb
  unfold sgcd
  split <;> omega
theorem fdiv_of_dvd {a c : Int} (h : c ∣ a) : a.fdiv c = a / c := by
  obtain ⟨k, rfl⟩ := h
  by_cases hc : c = 0
  · subst hc
    simp
  · rw [Int.mul_comm, Int.mul_fdiv_cancel _ hc, Int.mul_ediv_cancel _ hc]
theorem gcd_dvd_l (t b : Int) : ((Nat.gcd t.natAbs b.natAbs : Nat) : Int) ∣ t := Int.ofNat_dvd_left.mpr (Nat.gcd_dvd_left _ _)
theorem gcd_dvd_r (t b : Int) : ((Nat.gcd t.natAbs b.natAbs : Nat) : Int) ∣ b := Int.ofNat_dvd_left.mpr (Nat.gcd_dvd_right _ _)
theorem sgcd_dvd_l (t b : Int) : sgcd t b ∣ t := by
  unfold sgcd
  split
  · exact Int.neg_dvd.mpr (gcd_dvd_l t b)
  · exact gcd_dvd_l t b
theorem sgcd_dvd_r (t b : Int) : sgcd t b ∣ b := by
  unfold sgcd
  split
  · exact Int.neg_dvd.mpr (gcd_dvd_r t b)
  · exact gcd_dvd_r t b
theorem num_mk {t b : Int} (hb : b ≠ 0) : t.fdiv (sgcd t b) = (Rat.divInt t b).num := by
  rw [fdiv_of_dvd (sgcd_dvd_l t b), Rat.num_divInt]
  have e : (Int.gcd b t : Int) = ((Nat.gcd t.natAbs b.natAbs : Nat) : Int) := by
    rw [Int.gcd, Nat.gcd_comm]
  rw [e]
  unfold sgcd
  split
  · rename_i h
    rw [Int.sign_eq_neg_one_of_neg h, Int.ediv_neg, Int.neg_mul, Int.one_mul, Int.neg_ediv_of_dvd (gcd_dvd_l t b)]
  · rename_i h
    rw [Int.sign_eq_one_of_pos (by omega), Int.one_mul]
theorem den_mk {t b : Int} (hb : b ≠ 0) : b.fdiv (sgcd t b) = ((Rat.divInt t b).den : Int) := by
  rw [fdiv_of_dvd (sgcd_dvd_r t b), Rat.den_divInt, if_neg hb]
  have e : Int.gcd b t = Nat.gcd t.natAbs b.natAbs := by rw [Int.gcd, Nat.gcd_comm]
  rw [e, Int.natCast_ediv]
  unfold sgcd
  split
  · rename_i h
    rw [Int.ofNat_natAbs_of_nonpos (by omega), Int.ediv_neg, Int.neg_ediv_of_dvd (gcd_dvd_r t b)]
  · rename_i h
    rw [Int.natAbs_of_nonneg (by omega)]
/-- a bound for top and bottom -/
def Sz (n : Nat) (q : Rat) : Prop := q.num.natAbs < 2 ^ n ∧ q.den < 2 ^ n
theorem sz_mk {t b : Int} {n : Nat} (ht : t.natAbs < 2 ^ n) (hb : b.natAbs < 2 ^ n) (h0 : b ≠ 0) : Sz n (Rat.divInt t b) := by
  have h1 := num_mk (t := t) h0
  have h2 := den_mk (t := t) h0
  rw [fdiv_of_dvd (sgcd_dvd_l t b)] at h1
  rw [fdiv_of_dvd (sgcd_dvd_r t b)] at h2
  constructor
  · rw [← h1]
    exact Nat.lt_of_le_of_lt (Int.natAbs_ediv_le_natAbs _ _) ht
  · have h3 : (Rat.divInt t b).den = (b / sgcd t b).natAbs := by omega
    rw [h3]
    exact Nat.lt_of_le_of_lt (Int.natAbs_ediv_le_natAbs _ _) hb
theorem Sz.mono {n m : Nat} {q : Rat} (h : Sz n q) (e : n ≤ m) : Sz m q :=
  ⟨Nat.lt_of_lt_of_le h.1 (Nat.pow_le_pow_right (by decide) e), Nat.lt_of_lt_of_le h.2 (Nat.pow_le_pow_right (by decide) e)⟩
theorem sz_int {i : Int} {n : Nat} (h : i.natAbs < 2 ^ n) (h1 : 0 < n) : Sz n (i : Rat) := by
  refine ⟨by rw [Rat.num_intCast]; exact h, ?_⟩
  rw [Rat.den_intCast]
  exact Nat.one_lt_two_pow (by omega)
theorem den_ne (q : Rat) : (q.den : Int) ≠ 0 := by have := q.den_nz; omega
theorem mkRat_den (a : Int) (n : Nat) : mkRat a n = Rat.divInt a (n : Int) := (Rat.divInt_ofNat a n).symm
theorem rat_add (p q : Rat) : Rat.divInt (p.num * q.den + q.num * p.den) (p.den * q.den) = p + q := by
  rw [Rat.add_def', mkRat_den, Int.natCast_mul]
theorem rat_sub (p q : Rat) : Rat.divInt (p.num * q.den - q.num * p.den) (p.den * q.den) = p - q := by
  rw [Rat.sub_def', mkRat_den, Int.natCast_mul]
theorem rat_mul (p q : Rat) : Rat.divInt (p.num * q.num) (p.den * q.den) = p * q := by
  rw [Rat.mul_def', mkRat_den, Int.natCast_mul]
theorem rat_div (p q : Rat) : Rat.divInt (p.num * q.den) (p.den * q.num) = p / q := by
  rw [Rat.div_def, Rat.inv_def]
  conv => rhs; rw [← Rat.num_divInt_den p]
  rw [Rat.divInt_mul_divInt]
theorem rat_neg (p : Rat) : Rat.divInt (-p.num) p.den = -p := by
  conv => rhs; rw [← Rat.num_divInt_den p]
  rw [Rat.neg_divInt]
theorem rat_int (i : Int) : Rat.divInt i 1 = (i : Rat) := Rat.num_divInt_den (i : Rat)
theorem rat_self (q : Rat) : Rat.divInt q.num q.den = q := Rat.num_divInt_den q
theorem ab_mul {a b : Int} {n m : Nat} (ha : a.natAbs < 2 ^ n) (hb : b.natAbs < 2 ^ m) : (a * b).natAbs < 2 ^ (n + m) := L2.wide_lt ha hb
theorem ab_add {a b : Int} {n : Nat} (ha : a.natAbs < 2 ^ n) (hb : b.natAbs < 2 ^ n) : (a + b).natAbs < 2 ^ (n + 1) := by
  have := Int.natAbs_add_le a b
  rw [Nat.pow_succ]
  omega
theorem ab_sub {a b : Int} {n : Nat} (ha : a.natAbs < 2 ^ n) (hb : b.natAbs < 2 ^ n) : (a - b).natAbs < 2 ^ (n + 1) := by
  have := Int.natAbs_sub_le a b
  rw [Nat.pow_succ]
  omega
theorem Sz.den' {n : Nat} {q : Rat} (h : Sz n q) : ((q.den : Int)).natAbs < 2 ^ n := h.2
theorem ab_up {a : Int} {n m : Nat} (h : a.natAbs < 2 ^ n) (e : n ≤ m) : a.natAbs < 2 ^ m := Nat.lt_of_lt_of_le h (Nat.pow_le_pow_right (by decide) e)
theorem sz_add {n m : Nat} {p q : Rat} (hp : Sz n p) (hq : Sz m q) : Sz (n + m + 1) (p + q) := by
  rw [← rat_add]
  have e : m + n = n + m := Nat.add_comm _ _
  have h1 := ab_mul hp.1 hq.den'
  have h2 := ab_mul hq.1 hp.den'
  rw [e] at h2
  exact sz_mk (ab_add h1 h2) (ab_up (ab_mul hp.den' hq.den') (Nat.le_succ _)) (Int.mul_ne_zero (den_ne p) (den_ne q))
theorem sz_sub {n m : Nat} {p q : Rat} (hp : Sz n p) (hq : Sz m q) : Sz (n + m + 1) (p - q) := by
  rw [← rat_sub]
  have e : m + n = n + m := Nat.add_comm _ _
  have h1 := ab_mul hp.1 hq.den'
  have h2 := ab_mul hq.1 hp.den'
  rw [e] at h2
  exact sz_mk (ab_sub h1 h2) (ab_up (ab_mul hp.den' hq.den') (Nat.le_succ _)) (Int.mul_ne_zero (den_ne p) (den_ne q))
theorem sz_mul {n m : Nat} {p q : Rat} (hp : Sz n p) (hq : Sz m q) : Sz (n + m) (p * q) := by
  rw [← rat_mul]
  exact sz_mk (ab_mul hp.1 hq.1) (ab_mul hp.den' hq.den') (Int.mul_ne_zero (den_ne p) (den_ne q))
theorem sz_div {n m : Nat} {p q : Rat} (hp : Sz n p) (hq : Sz m q) (h : q ≠ 0) : Sz (n + m) (p / q) := by
  rw [← rat_div]
  exact sz_mk (ab_mul hp.1 hq.den') (ab_mul hp.den' hq.1) (Int.mul_ne_zero (den_ne p) (fun z => h (Rat.num_eq_zero.mp z)))
theorem sz_neg {n : Nat} {p : Rat} (hp : Sz n p) : Sz n (-p) := by
  refine ⟨?_, ?_⟩
  · rw [Rat.neg_num, Int.natAbs_neg]
    exact hp.1
  · rw [Rat.neg_den]
    exact hp.2
end My

set_option Elab.async false
set_option linter.all false
set_option maxRecDepth 100000
set_option maxHeartbeats 4000000
/-! ## defs that stand anywhere (a property's getter, a classmethod's def); the class of the quotients -/
namespace My
open PySem PySem.Spec PyProof.Rows L2
/-- a def, by where it stands -/
structure DefX where
  adr : PySem.W.Frag → Addr
  name : Str
  qual : Str
  params : Arguments
  body : List Stmt
  scope : Scope
  dfl : List He.Dv := []
def DefX.val (d : DefX) : He.FnW := some (d.name, d.qual, d.params, .stmts d.body, d.scope, mainGlobals, [], builtinsNs)
def DefX.dvs (K : PySem.W.Frag) (d : DefX) : List V := d.dfl.map (He.Dv.v K)
def fnX (K : PySem.W.Frag) (a : Addr) : He.FnW := match K.lookup a with
  | some ⟨_, _, .func fd, _⟩ => some (fd.name, fd.qualname, fd.params, fd.body, fd.scope, fd.globals, fd.closure, fd.builtins)
  | _ => none
def DefX.ok (K : PySem.W.Frag) (d : DefX) : Bool := PySem.W.keepIn K (.ref (d.adr K)) && (match K.lookup (d.adr K) with
  | some ⟨_, _, .func fd, _⟩ => PySem.W.codeIn K fd.code d.qual && He.dflB K fd.defaults (d.dvs K)
  | _ => false)
theorem DefX.funD {K : PySem.W.Frag} {d : DefX} (e : fnX K (d.adr K) = d.val) (c : d.ok K = true) : ∃ fd, FunD K d.name d.qual d.params d.body d.scope (d.dvs K) [] (d.adr K) fd := by
  unfold DefX.ok at c
  obtain ⟨kp, c2⟩ := Bool.and_eq_true_iff.mp c
  unfold fnX at e
  cases q : K.lookup (d.adr K) with
  | none =>
    rw [q] at c2
    cases c2
  | some o =>
    obtain ⟨oc, od, dt, osl⟩ := o
    rw [q] at c2 e
    cases dt with
    | func fd =>
      obtain ⟨m1, m2, m3, m4, m5, m6, m7, m8, m9, m10, m11, m12, m13, m14, m15⟩ := fd
      dsimp only at c2 e
      unfold DefX.val at e
      simp only [Option.some.injEq, Prod.mk.injEq] at e
      obtain ⟨g1, g2, g3, g4, g5, g6, g7, g8⟩ := e
      subst g1 g2 g3 g4 g5 g6 g7 g8
      obtain ⟨k1, k2⟩ := Bool.and_eq_true_iff.mp c2
      exact ⟨_, ⟨oc, od, m8, m9, m10, m11, m12, m13, m14, osl, rfl, q, k1, He.dflB_ok k2, Or.inl rfl⟩, kp⟩
    | _ => cases c2
def obsY (B : List Fx) (fn : List DefX) (K : PySem.W.Frag) : He.AlD := (B.all (fun b => b K) && fn.all (fun d => d.ok K), fn.map (fun d => fnX K (d.adr K)))
def valY (fn : List DefX) : He.AlD := (true, fn.map DefX.val)
def SaysY (B : List Fx) (fn : List DefX) (K : PySem.W.Frag) : Prop := obsY B fn K = valY fn
def obsYG (n : Nat) (B : List Fx) (fn : List DefX) (g : Addr → Option Obj) : He.AlD := obsY B fn (He.frG g (He.asD g n))
def hookY (n : Nat) (B : List Fx) (fn : List DefX) : PySem.W.Hook where
  α := He.AlD
  obs := fun s => obsYG n B fn s.heap.get?
  val := fun _ => valY fn
  says := fun _ h => ∃ K : PySem.W.Frag, K.In h ∧ SaysY B fn K
  of := fun _ _ e => ⟨_, He.frG_in, e⟩
  keeps := by
    rintro _ h h' ⟨K, hK, c⟩ k
    exact ⟨K, hK.keeps k, c⟩
theorem obsYG_eq {n : Nat} {B : List Fx} {fn : List DefX} {g : Addr → Option Obj} {s : Shared} (h : ∀ a, g a = s.heap.get? a) :
    obsYG n B fn g = (hookY n B fn).obs s := by
  obtain rfl : g = s.heap.get? := funext h
  rfl
section
variable {B : List Fx} {fn : List DefX} {K : PySem.W.Frag}
theorem SaysY.two (c : SaysY B fn K) : (∀ b ∈ B, b K = true) ∧ ∀ d ∈ fn, d.ok K = true := by
  have z : (B.all (fun b => b K) && fn.all (fun d => d.ok K)) = true := congrArg Prod.fst c
  obtain ⟨z1, z2⟩ := Bool.and_eq_true_iff.mp z
  exact ⟨List.all_eq_true.mp z1, List.all_eq_true.mp z2⟩
theorem SaysY.fact (c : SaysY B fn K) (i : Nat) {f : Fx} (h : B[i]? = some f := by rfl) : f K = true := c.two.1 f (List.mem_of_getElem? h)
theorem SaysY.fn_ (c : SaysY B fn K) (i : Nat) {d : DefX} (h : fn[i]? = some d := by rfl) :
    ∃ fd, FunD K d.name d.qual d.params d.body d.scope (d.dvs K) [] (d.adr K) fd := by
  have e : fn.map (fun d => fnX K (d.adr K)) = fn.map DefX.val := congrArg Prod.snd c
  have e2 := congrArg (fun l => l[i]?) e
  simp only [List.getElem?_map, h, Option.map_some, Option.some.injEq] at e2
  exact DefX.funD e2 (c.two.2 d (List.mem_of_getElem? h))
end
/-- where a global def, a method, a getter, a classmethod's def stands -/
def aGlo (x : Str) : PySem.W.Frag → Addr := fun K => He.ga K x
def aMet (x m : Str) : PySem.W.Frag → Addr := fun K => He.ma K (He.ga K x) m
def recRef (K : PySem.W.Frag) (p : Addr) (T : String) : Addr := match PySem.W.recIn K p T with
  | some (.ref g :: _) => g
  | _ => 0
def aGet (x f : Str) : PySem.W.Frag → Addr := fun K => recRef K (He.ma K (He.ga K x) f) "property"
def aCls (x f : Str) : PySem.W.Frag → Addr := fun K => recRef K (He.ma K (He.ga K x) f) "classmethod"
/-! ### facts of an own class -/
def fIns (x : Str) : Fx := fun K => (He.Fa.cls x).ok K && (decide (PySem.W.findIn K (.ref (He.ga K x)) "__class__" = some (some (.builtin "object.__class__"))) &&
  (decide (PySem.W.specialIn K (.builtin "object.__class__") "__get__" = some (some (.builtin "getset_descriptor.__get__"))) &&
  (decide (PySem.W.takesIn K (.builtin "object.__class__") = some true) && (decide (PySem.W.mroIn K (He.ga K x) (.type "object") = some true) && PySem.W.selfFirst K (He.ga K x)))))
theorem fIns_ok {K : PySem.W.Frag} {x : Str} (c : fIns x K = true) : InsC K (He.ga K x) := by
  unfold fIns at c
  obtain ⟨c1, c⟩ := Bool.and_eq_true_iff.mp c
  obtain ⟨c2, c⟩ := Bool.and_eq_true_iff.mp c
  obtain ⟨c3, c⟩ := Bool.and_eq_true_iff.mp c
  obtain ⟨c4, c⟩ := Bool.and_eq_true_iff.mp c
  obtain ⟨c5, c6⟩ := Bool.and_eq_true_iff.mp c
  exact ⟨He.cls_ok c1, of_decide_eq_true c2, of_decide_eq_true c3, of_decide_eq_true c4, of_decide_eq_true c5, c6⟩
def fMkr (x : Str) : Fx := fun K => (He.Fa.mkr x).ok K
def fNoat (x f : Str) : Fx := fun K => decide (PySem.W.findIn K (.ref (He.ga K x)) f = some none)
def fMeth (x m : Str) : Fx := fun K => (He.Fa.meth x m).ok K
def fProp (x f : Str) : Fx := fun K => decide (PySem.W.findIn K (.ref (He.ga K x)) f = some (some (.ref (He.ma K (He.ga K x) f)))) &&
  (decide (PySem.W.specialIn K (.ref (He.ma K (He.ga K x) f)) "__get__" = some (some (.builtin "property.__get__"))) &&
  (decide (PySem.W.takesIn K (.ref (He.ma K (He.ga K x) f)) = some true) &&
  (match PySem.W.recIn K (He.ma K (He.ga K x) f) "property" with
    | some (.ref _ :: _) => true
    | _ => false)))
theorem fProp_ok {K : PySem.W.Frag} {x f : Str} (c : fProp x f K = true) : PropOf K (He.ga K x) f (He.ma K (He.ga K x) f) (aGet x f K) := by
  unfold fProp at c
  obtain ⟨c1, c⟩ := Bool.and_eq_true_iff.mp c
  obtain ⟨c2, c⟩ := Bool.and_eq_true_iff.mp c
  obtain ⟨c3, c4⟩ := Bool.and_eq_true_iff.mp c
  refine ⟨of_decide_eq_true c1, of_decide_eq_true c2, of_decide_eq_true c3, ?_⟩
  unfold aGet recRef
  split at c4
  · rename_i g rest e
    rw [e]
    exact ⟨rest, rfl⟩
  · cases c4
/-- the operator nm of the class x, with ints on the right -/
def fOpr (x : Str) (nm : String) : Fx := fun K => decide (PySem.W.findIn K (.ref (He.ga K x)) (PySem.dunder nm) = some (some (.ref (He.ma K (He.ga K x) (PySem.dunder nm))))) &&
  (PySem.W.isFn K (.ref (He.ma K (He.ga K x) (PySem.dunder nm))) && (decide (PySem.W.findIn K (.ref (He.ga K x)) (dunderR nm) = some none) &&
  ((PySem.W.findIn K (.type "int") (PySem.dunder nm)).isSome && ((PySem.W.findIn K (.type "int") (dunderR nm)).isSome && decide (PySem.W.subIn K (.type "int") (.ref (He.ga K x)) = some false)))))
theorem fOpr_ok {K : PySem.W.Frag} {x : Str} {nm : String} (c : fOpr x nm K = true) : PySem.W.findIn K (.ref (He.ga K x)) (PySem.dunder nm) = some (some (.ref (aMet x (PySem.dunder nm) K))) ∧
    PySem.W.isFn K (.ref (aMet x (PySem.dunder nm) K)) = true ∧ IntR K (He.ga K x) nm := by
  unfold fOpr at c
  obtain ⟨c1, c⟩ := Bool.and_eq_true_iff.mp c
  obtain ⟨c2, c⟩ := Bool.and_eq_true_iff.mp c
  obtain ⟨c3, c⟩ := Bool.and_eq_true_iff.mp c
  obtain ⟨c4, c⟩ := Bool.and_eq_true_iff.mp c
  obtain ⟨c5, c6⟩ := Bool.and_eq_true_iff.mp c
  exact ⟨of_decide_eq_true c1, c2, of_decide_eq_true c3, Option.isSome_iff_exists.mp c4, Option.isSome_iff_exists.mp c5, of_decide_eq_true c6⟩
def fNe (x : Str) : Fx := fun K => decide (PySem.W.findIn K (.ref (He.ga K x)) "__ne__" = some (some (.builtin "object.__ne__")))
/-- no value of the built-in types is of the class x -/
def bTys : List String := ["NoneType", "bool", "int", "str", "list", "tuple", "dict"]
def fNot (x : Str) : Fx := fun K => bTys.all fun T => decide (PySem.W.kitOne K (.type T) (.ref (He.ga K x)) = some false) && PySem.W.notFirst K (He.ga K x) (.type T)
end My

set_option Elab.async false
set_option linter.all false
set_option maxRecDepth 100000
set_option maxHeartbeats 4000000
/-! ## calls with keywords alone; a plain error that is raised -/
namespace My
open PySem PySem.Spec PyProof.Rows L2
theorem kbn_of {K : PySem.W.Frag} {x qual : Str} {params : Arguments} {body : List Stmt} {scope : Scope} {kws : List (Str × V)} {f : Addr} {fd : FuncData} {ps ks : List Str} {n : Nat}
    {g : List Value → List Value → List Value} {gV : List V → List V → List V} (F : FunD K x qual params body scope [] kws f fd)
    (hrel : ∀ {vs : List V} {us : List Value} {zs : List V} {ws : List Value}, Vals vs us → Vals zs ws → Vals (gV vs zs) (g us ws))
    (h : ∀ (kV doc pm : Value) (an : Option Addr) (cdv ct : Value) (us ws : List Value), us.length = n → ws.length = ks.length →
      bindArgs (PySem.W.fnOf x qual params body scope .none kV doc pm an cdv ct) ⟨us, ks.zip ws⟩ = pure (ps.zip (g us ws))) : KBn K fd ps n ks g gV := by
  obtain ⟨oc, od, dV, kV, doc, pm, an, cdv, ct, osl, rfl, lk, hcd, hD, hK⟩ := F.ex
  rcases hD with ⟨_, rfl⟩ | ⟨e, _⟩
  · exact ⟨fun s us ws _ l1 l2 => .of_eq (h kV doc pm an cdv ct us ws l1 l2), fun r1 r2 => hrel r1 r2⟩
  · exact absurd rfl e
def tCK (sp : Sp) (gV : List V → List V → List V) (m : Nat) (E : XK) (tk : TA) : TE := fun σ H Q => tk σ H fun zs H2 => zs.length = m ∧ sp (gV [] zs) H2 Q E
def tMK (C : Addr) (m : Str) (sp : Sp) (gV : List V → List V → List V) (n : Nat) (E : XK) (ta : TE) (tk : TA) : TE := fun σ H Q => ta σ H fun x H1 =>
  ∃ a dx fs, x = .ref a ∧ H1 a = some (.ins C dx fs) ∧ fs.lookup m = none ∧ tk σ H1 fun zs H2 => zs.length = n ∧ sp (gV [x] zs) H2 Q E
section
variable {X : Cx} {CX : CXT} {k : Nat} {f C : Addr} {fd : FuncData} {ps ks : List Str} {sp : Sp} {E : XK} {x m : Str} {p pos apos : Pos} {o : Expr} {kws : List Keyword} {ta : TE} {tk : TA} {g : List Value → List Value → List Value}
  {gV : List V → List V → List V}
theorem pe_callK0 (F : FnOk X.prog X.w X.K X.mg X.base CX k f fd ps sp) (hr : Room k X.A) (hg : Gl X x) (hm : X.mg x = some (.ref f)) (hk : PySem.W.keepIn X.K (.ref f) = true) (hb : KBn X.K fd ps 0 ks g gV) (hx : Passes CX X E)
    (hkw : PK X kws tk) (hall : (backToKw pos (keywordEach kws X.env)).all (·.1.isSome) = true := by rfl) (hks : (backToKw pos (keywordEach kws X.env)).filterMap (·.1) = ks := by rfl)
    (hdb : (x == ("__debug__" : Str)) = false := by decide)
    (hpl : ((backTo pos (starEach [] X.env)).any (·.1) || (backToKw pos (keywordEach kws X.env)).any (·.1.isNone)) = false := by rfl) :
    PE X (.Call (.Name x p) [] kws pos) (tCK sp gV ks.length E tk) := by
  refine ⟨fun pins s σ H Q I h => ?_⟩
  refine wpAny_Call_Name_kw (ld_glob I hg hm ?_ hdb)
  refine PySem.W.callWith_KW0 (h₀ := X.base) I.ok.mod.kin hk hall ?_ hpl
  refine thn (hkw.run pos pins s σ H _ I h) fun ws s2 ⟨zs, H2, I2, rz, l2, q2⟩ => ⟨I2.kIn, ?_⟩
  rw [hks]
  have r2 := hb.rel (.nil : Vals [] []) rz
  refine wpAny_call (codeAny_mono (F.run X.A X.stack s2 H2 ⟨[], ks.zip ws⟩ (g [] ws) (gV [] zs) Q E hr I2.env0 (hb.to s2 [] ws I2.kIn rfl (rz.length.symm.trans l2)) r2 q2) fun r s' hq => ?_)
  cases r with
  | error e => exact hx pins σ H2 s2 e s' I2 hq
  | ok fl =>
    cases fl with
    | ret u => exact I2.after hq
    | next => exact False.elim hq
    | brk => exact False.elim hq
    | cont => exact False.elim hq
theorem pe_methK0 {pl : Sem Bool} (he : PE X o ta) (c : Cls X.K C) (hm : Meth X.K C m f) (F : FnOk X.prog X.w X.K X.mg X.base CX k f fd ps sp) (hr : Room k X.A) (hb : KBn X.K fd ps 1 ks g gV) (hx : Passes CX X E)
    (hkw : PK X kws tk) (hall : (backToKw pos (keywordEach kws X.env)).all (·.1.isSome) = true := by rfl) (hks : (backToKw pos (keywordEach kws X.env)).filterMap (·.1) = ks := by rfl)
    (hpl : ((backTo pos (starEach [] X.env)).any (·.1) || (backToKw pos (keywordEach kws X.env)).any (·.1.isNone)) = false := by rfl)
    (ht : eval (.Call (.Attribute o m apos) [] kws pos) X.env = (do
      let ov ← eval o X.env
      standAt apos.atName
      let (f, first) ← holding [ov] (getMethod ov m pl)
      callWith pos f first (backTo pos (starEach [] X.env)) (backToKw pos (keywordEach kws X.env))) := by rfl) :
    PE X (.Call (.Attribute o m apos) [] kws pos) (tMK C m sp gV ks.length E ta tk) := by
  refine ⟨fun pins s σ H Q I h => ?_⟩
  refine PySem.W.methodCall_KW (pl := pl) (thn (he.run pins s σ H _ I h) fun u s1 ⟨x, H1, I1, rx, a, dx, fs, ex, ea, l, q⟩ => ?_) ht
  subst ex
  obtain rfl : u = Value.ref a := rx
  refine getmeth_ok I1 ea c hm l ?_
  refine PySem.W.callWith_KW0 (h₀ := X.base) (first := [.ref a]) I.ok.mod.kin hm.kp hall ?_ hpl
  refine thn (hkw.run pos pins s1 σ H1 _ I1 q) fun ws s2 ⟨zs, H2, I2, rz, l2, q2⟩ => ⟨I2.kIn, ?_⟩
  rw [hks]
  have r2 := hb.rel (.cons rfl .nil : Vals [V.ref a] [Value.ref a]) rz
  refine wpAny_call (codeAny_mono (F.run X.A X.stack s2 H2 ⟨[.ref a], ks.zip ws⟩ (g [.ref a] ws) (gV [.ref a] zs) Q E hr I2.env0 (hb.to s2 [.ref a] ws I2.kIn rfl (rz.length.symm.trans l2)) r2 q2) fun r s' hq => ?_)
  cases r with
  | error e => exact hx pins σ H2 s2 e s' I2 hq
  | ok fl =>
    cases fl with
    | ret u => exact I2.after hq
    | next => exact False.elim hq
    | brk => exact False.elim hq
    | cont => exact False.elim hq
/-- o.m(e, ..), what is raised wished for at the caller's slots -/
def tMethW (C : Addr) (m : Str) (sp : Sp) (W : WX) (ta : TE) (t : TA) : TE := fun σ H Q => ta σ H fun x H1 => ∃ a dx fs, x = .ref a ∧ H1 a = some (.ins C dx fs) ∧ fs.lookup m = none ∧
  t σ H1 fun vs H2 => sp (x :: vs) H2 Q (WE W σ)
theorem pe_methW {W : WX} {t : TA} {e : Expr} {es : List Expr} {pl : Sem Bool} (he : PE X o ta) (c : Cls X.K C) (hm : Meth X.K C m f) (F : FnOk X.prog X.w X.K X.mg X.base (L2.CX X.prog X.w) k f fd ps sp) (hr : Room k X.A) (hb : L2.Binds X.K fd ps [])
    (tk : Takes X W) (ha : PA X (e :: es) t)
    (hst : starEach (e :: es) X.env = (false, eval e X.env) :: starEach es X.env := by rfl) (hpl : (backTo pos (starEach es X.env)).any (·.1) = false := by rfl)
    (ht : eval (.Call (.Attribute o m apos) (e :: es) [] pos) X.env = (do
      let ov ← eval o X.env
      standAt apos.atName
      let (f, first) ← holding [ov] (getMethod ov m pl)
      callWith pos f first (backTo pos (starEach (e :: es) X.env)) (backToKw pos (keywordEach [] X.env))) := by rfl) :
    PE X (.Call (.Attribute o m apos) (e :: es) [] pos) (tMethW C m sp W ta t) := by
  refine ⟨fun pins s σ H Q I h => ?_⟩
  refine PySem.W.methodCall_KW (pl := pl) (thn (he.run pins s σ H _ I h) fun u s1 ⟨x, H1, I1, rx, a, dx, fs, ex, ea, l, q⟩ => ?_) ht
  subst ex
  obtain rfl : u = Value.ref a := rx
  refine getmeth_ok I1 ea c hm l ?_
  refine PySem.W.callWith_K (first := [.ref a]) (h₀ := X.base) I.ok.mod.kin hm.kp (thn (ha.run pos pins s1 σ H1 _ I1 q) fun us s2 ⟨vs, H2, I2, r, q2⟩ => ⟨I2.kIn, ?_⟩) hst hpl
  exact run_fnS (us := .ref a :: us) (vs := .ref a :: vs) (E := fun σ => WE W σ) F hr hb (passAt tk σ) I2 (.cons rfl r) q2
/-- C(e, ..), what is raised wished for at the caller's slots -/
def tMakeW (C : Addr) (sp : Sp) (W : WX) (t : TA) : TE := fun σ H Q => t σ H fun vs H1 => ∀ x dx, H1 x = none → H1 dx = none → dx ≠ x →
  sp (.ref x :: (vs ++ [])) (upd (upd H1 dx (.own x)) x (.ins C dx [])) (fun v H2 => v = .non ∧ Q (.ref x) H2) (WE W σ)
theorem pe_makeW {W : WX} {t : TA} {e : Expr} {es : List Expr} (M : Mk X.K C f) (F : FnOk X.prog X.w X.K X.mg X.base (L2.CX X.prog X.w) k f fd ps sp) (hr : Room (k + 1) X.A) (hg : Gl X x) (hm : X.mg x = some (.ref C)) (hb : L2.Binds X.K fd ps [])
    (tk : Takes X W) (ha : PA X (e :: es) t) (hdb : (x == ("__debug__" : Str)) = false := by decide) (he : starEach (e :: es) X.env = (false, eval e X.env) :: starEach es X.env := by rfl)
    (hpl : (backTo pos (starEach es X.env)).any (·.1) = false := by rfl) :
    PE X (.Call (.Name x p) (e :: es) [] pos) (tMakeW C sp W t) := by
  refine ⟨fun pins s σ H Q I h => ?_⟩
  refine wpAny_Call_Name_kw (ld_glob I hg hm ?_ hdb)
  refine PySem.W.callWith_K (h₀ := X.base) I.ok.mod.kin M.kp (thn (ha.run pos pins s σ H _ I h) fun us s1 ⟨vs, H1, I1, r, q⟩ => ⟨I1.kIn, ?_⟩) he hpl
  show wpAny _ _ (call (.ref C) us) _ _ _
  have hq := q (s1.heap.objs.size + 1) s1.heap.objs.size (I1.hok.fresh (Nat.le_succ _)) (I1.hok.fresh (Nat.le_refl _)) (Nat.ne_of_lt (Nat.lt_succ_self _))
  rw [List.append_nil] at hq
  have I2 := Inv.made (C := C) I1
  have r2 : Vals (V.ref (s1.heap.objs.size + 1) :: vs) (Value.ref (s1.heap.objs.size + 1) :: us) := .cons rfl r
  have hl : ((Value.ref (s1.heap.objs.size + 1) :: us) ++ []).length = ps.length := by
    have e := r2.length
    rw [F.len _ _ _ _ hq] at e
    rw [List.append_nil]
    exact e.symm
  have b := hb _ (Value.ref (s1.heap.objs.size + 1) :: us) I2.kIn hl
  rw [List.append_nil] at b
  refine wpAny_call (make_map (f := f) I1.kIn M.makes M.init (beq_iff_eq.mp M.fn) (codeAny_mono (F.run _ X.stack _ _ ⟨Value.ref (s1.heap.objs.size + 1) :: us, []⟩ (Value.ref (s1.heap.objs.size + 1) :: us) _ _ (WE W σ) (hr.make C us [])
    (I2.env0.make C us []) b r2 hq) fun r s' hq' => ?_))
  cases r with
  | error e => exact passAt tk σ pins _ _ e s' I2 hq'
  | ok fl =>
    cases fl with
    | ret u =>
      obtain ⟨v, H', I3, rv, ev, q3⟩ := I2.after hq'
      subst ev
      exact ⟨rv, ⟨V.ref (s1.heap.objs.size + 1), H', I3, rfl, q3⟩⟩
    | next => exact False.elim hq'
    | brk => exact False.elim hq'
    | cont => exact False.elim hq'
/-- a plain error with nothing, to be raised -/
theorem pmk_P0 (D : CalP X.K X.mg x) (hg : Gl X x := by rfl) (hdb : (x == ("__debug__" : Str)) = false := by decide) :
    PMk X (.Call (.Name x p) [] [] pos) (fun _ H Q => Q (.ref D.C) none H) := by
  intro pins s σ H Q I h
  refine wpAny_Call_Name_kw (ld_glob I hg D.mgC ?_ hdb)
  refine PySem.W.callWith_K0 I.kIn D.kC ?_
  obtain ⟨bm, N, nm, qn, bs, hdct, sn, sub, ab, col, dd, k0, k1, k2, k3, k5, mN, hC, hN, hni, T⟩ := exc_obj I.kIn D.xin
  refine wpAny_call_exc_subT PySem.F.excBase_ValueError T hC hN hni (fun h' a hm => ?_) (Nat.zero_le _)
  exact mk_of I hm (raises_own D.exC D.tyC) h (I.hok.gone hm.new)
end
end My

set_option Elab.async false
set_option linter.all false
set_option maxRecDepth 100000
set_option maxHeartbeats 4000000
/-! ## the quotients: what stands in the heap, what the class's defs promise -/
namespace My
open PySem PySem.Spec PyProof.Rows L2
/-- at a stands the quotient q -/
def RAt (C : Addr) (H : Hp) (a : Addr) (q : Rat) : Prop := ∃ dx, H a = some (.ins C dx [("_top", .int q.num), ("_bottom", .int (q.den : Int))])
theorem RAt.same {C : Addr} {H H' : Hp} {a : Addr} {q : Rat} (h : RAt C H a q) (s : Same H H') : RAt C H' a q := by
  obtain ⟨dx, h⟩ := h
  exact ⟨dx, s _ _ h⟩
theorem RAt.sameX {C b : Addr} {H H' : Hp} {a : Addr} {q : Rat} (h : RAt C H a q) (s : SameX b H H') (n : a ≠ b) : RAt C H' a q := by
  obtain ⟨dx, h⟩ := h
  exact ⟨dx, s _ _ n h⟩
theorem RAt.ne {C : Addr} {H : Hp} {a b : Addr} {q : Rat} {c : Nat} (h : RAt C H a q) (hb : BoxAt H b c) : a ≠ b := by
  rintro rfl
  obtain ⟨dx, h⟩ := h
  obtain ⟨x, y, z, e, _⟩ := hb
  rw [h] at e
  cases e
/-- v is the number q: a quotient or an integer -/
def NumV (C : Addr) (H : Hp) (v : V) (q : Rat) : Prop := (∃ a, v = .ref a ∧ RAt C H a q) ∨ ∃ i : Int, v = .int i ∧ q = (i : Rat)
theorem NumV.same {C : Addr} {H H' : Hp} {v : V} {q : Rat} (h : NumV C H v q) (s : Same H H') : NumV C H' v q := by
  rcases h with ⟨a, rfl, h⟩ | ⟨i, rfl, rfl⟩
  · exact Or.inl ⟨a, rfl, h.same s⟩
  · exact Or.inr ⟨i, rfl, rfl⟩
theorem RAt.num {C : Addr} {H : Hp} {a : Addr} {q : Rat} (h : RAt C H a q) : NumV C H (.ref a) q := Or.inl ⟨a, rfl, h⟩
theorem num_int {C : Addr} {H : Hp} (i : Int) : NumV C H (.int i) (i : Rat) := Or.inr ⟨i, rfl, rfl⟩
/-- v is no number, and it is known of which kind it is -/
def NoN (K : PySem.W.Frag) (C : Addr) (H : Hp) (v : V) : Prop := ∃ t b1 b2, TyX K H v t ∧ PySem.W.kitOne K t (.ref C) = some false ∧ PySem.W.notFirst K C t = true ∧
  PySem.W.kitOne K t (.type "int") = some b1 ∧ PySem.W.kitOne K t (.type "bool") = some b2 ∧ (b1 && !b2) = false
theorem NoN.same {K : PySem.W.Frag} {C : Addr} {H H' : Hp} {v : V} (h : NoN K C H v) (s : Same H H') : NoN K C H' v := by
  obtain ⟨t, b1, b2, h1, h2⟩ := h
  exact ⟨t, b1, b2, TyX_same s h1, h2⟩
/-- a new quotient; a quotient -/
def NewR (C : Addr) (q : Rat) (H : Hp) (Q : VK) : Prop := ∀ a H', H a = none → Same H H' → RAt C H' a q → Q (.ref a) H'
def SomeR (C : Addr) (q : Rat) (H : Hp) (Q : VK) : Prop := ∀ a H', Same H H' → RAt C H' a q → Q (.ref a) H'
/-- how the class stands to the built-in types and to itself -/
structure Rk (K : PySem.W.Frag) (C : Addr) : Prop where
  T : InsC K C
  top : PySem.W.findIn K (.ref C) "_top" = some none
  bot : PySem.W.findIn K (.ref C) "_bottom" = some none
  self : PySem.W.kitOne K (.ref C) (.ref C) = some true
  int_ : PySem.W.kitOne K (.ref C) (.type "int") = some false
  bool_ : PySem.W.kitOne K (.ref C) (.type "bool") = some false
  b1 : ∀ T ∈ bTys, PySem.W.kitOne K (.type T) (.ref C) = some false
  b2 : ∀ T ∈ bTys, PySem.W.notFirst K C (.type T) = true
theorem RAt.ty {K : PySem.W.Frag} {C : Addr} {H : Hp} {a : Addr} {q : Rat} (R : Rk K C) (h : RAt C H a q) : TyX K H (.ref a) (.ref C) := by
  obtain ⟨dx, h⟩ := h
  exact R.T.ty h
theorem nf_self {K : PySem.W.Frag} {C : Addr} : PySem.W.notFirst K C (.ref C) = true := by
  unfold PySem.W.notFirst
  rw [Bool.or_eq_true_iff]
  exact Or.inl (beq_iff_eq.mpr rfl)
theorem NumV.ty {K : PySem.W.Frag} {C : Addr} {H : Hp} {v : V} {q : Rat} (R : Rk K C) (h : NumV C H v q) : ∃ t, TyX K H v t ∧ PySem.W.notFirst K C t = true := by
  rcases h with ⟨a, rfl, h⟩ | ⟨i, rfl, rfl⟩
  · exact ⟨_, h.ty R, nf_self⟩
  · exact ⟨_, .base (.int i), R.b2 "int" (by decide)⟩
theorem non_ty {K : PySem.W.Frag} {C : Addr} {H : Hp} (R : Rk K C) {v : V} {T : String} (h : TyX K H v (.type T)) (hT : T ∈ bTys) (hi : T ≠ "int") : NoN K C H v := by
  have e1 := R.b1 T hT
  have e2 := R.b2 T hT
  unfold bTys at hT
  simp only [List.mem_cons, List.mem_nil_iff, or_false] at hT
  rcases hT with rfl | rfl | rfl | rfl | rfl | rfl | rfl
  · exact ⟨_, false, false, h, e1, e2, kit_ty (by decide +kernel), kit_ty (by decide +kernel), rfl⟩
  · exact ⟨_, true, true, h, e1, e2, kit_ty (by decide +kernel), kit_ty (by decide +kernel), rfl⟩
  · exact absurd rfl hi
  · exact ⟨_, false, false, h, e1, e2, kit_ty (by decide +kernel), kit_ty (by decide +kernel), rfl⟩
  · exact ⟨_, false, false, h, e1, e2, kit_ty (by decide +kernel), kit_ty (by decide +kernel), rfl⟩
  · exact ⟨_, false, false, h, e1, e2, kit_ty (by decide +kernel), kit_ty (by decide +kernel), rfl⟩
  · exact ⟨_, false, false, h, e1, e2, kit_ty (by decide +kernel), kit_ty (by decide +kernel), rfl⟩
/-! ### promises -/
def spIni (C CZ : Addr) : Sp := fun vs H Q E => ∃ a dx t b, vs = [.ref a, .int t, .int b] ∧ H a = some (.ins C dx []) ∧ t.natAbs < 2 ^ 8000 ∧ b.natAbs < 2 ^ 8000 ∧
  (b ≠ 0 → ∀ H', SameX a H H' → RAt C H' a (Rat.divInt t b) → Q .non H') ∧ (b = 0 → E (.ref CZ) none H)
def spIsI (K : PySem.W.Frag) : Sp := fun vs H Q _ => ∃ v t b1 b2, vs = [v] ∧ TyX K H v t ∧ PySem.W.kitOne K t (.type "int") = some b1 ∧ PySem.W.kitOne K t (.type "bool") = some b2 ∧ Q (.bl (b1 && !b2)) H
def spAs (K : PySem.W.Frag) (C CB : Addr) : Sp := fun vs H Q E => ∃ v, vs = [v] ∧ ((∃ q, NumV C H v q ∧ Sz 8000 q ∧ SomeR C q H Q) ∨
  (NoN K C H v ∧ ∀ d H', H d = none → Same H H' → H' d = some (.xd [("given", v)]) → E (.ref CB) (some d) H'))
/-- x op y -/
def spAr (C : Addr) (n : Nat) (f : Rat → Rat → Rat) : Sp := fun vs H Q _ => ∃ a v p q, vs = [.ref a, v] ∧ RAt C H a p ∧ NumV C H v q ∧ Sz n p ∧ Sz n q ∧ NewR C (f p q) H Q
def spNg (C : Addr) : Sp := fun vs H Q _ => ∃ a p, vs = [.ref a] ∧ RAt C H a p ∧ Sz 8000 p ∧ NewR C (-p) H Q
def spCp (C : Addr) (f : Rat → Rat → Bool) : Sp := fun vs H Q _ => ∃ a v p q, vs = [.ref a, v] ∧ RAt C H a p ∧ NumV C H v q ∧ Sz 8000 q ∧ Sz 8000 p ∧ ∀ H', Same H H' → Q (.bl (f p q)) H'
def spEqR (K : PySem.W.Frag) (C : Addr) : Sp := fun vs H Q _ => ∃ a v p, vs = [.ref a, v] ∧ RAt C H a p ∧
  ((∃ q, NumV C H v q ∧ ∀ H', Same H H' → Q (.bl (decide (p = q))) H') ∨ (NoN K C H v ∧ ∀ H', Same H H' → Q (.bl false) H'))
/-- x.over(y) -/
def spOv (C CZ : Addr) : Sp := fun vs H Q E => ∃ a v p q, vs = [.ref a, v] ∧ RAt C H a p ∧ NumV C H v q ∧ Sz 3000 p ∧ Sz 3000 q ∧ (q ≠ 0 → NewR C (p / q) H Q) ∧
  (q = 0 → ∀ H', Same H H' → E (.ref CZ) none H')
/-- of two numbers one -/
def spCh (C : Addr) (f : Rat → Rat → Rat) : Sp := fun vs H Q _ => ∃ u v p q, vs = [u, v] ∧ NumV C H u p ∧ NumV C H v q ∧ Sz 8000 p ∧ Sz 8000 q ∧ SomeR C (f p q) H Q
/-! ### callees -/
/-- the class by its name -/
structure RatC (K : PySem.W.Frag) (mg : Str → Option Value) where
  C : Addr
  gC : mg "Ratio" = some (.ref C)
  R : Rk K C
def kwg {α : Type} (us _ds ws : List α) : List α := match us, ws with
  | [u], [b, t] => [u, t, b]
  | _, _ => []
section
variable (P : Program) (w : World) (K : PySem.W.Frag) (mg : Str → Option Value) (base : Heap) (C : Addr)
structure MkC (CZ : Addr) where
  f : Addr
  fd : FuncData
  ok : FnOk P w K mg base (L2.CX P w) 1 f fd ["self", "top", "bottom"] (spIni C CZ)
  M : Mk K C f
  gC : mg "Ratio" = some (.ref C)
  b : L2.Binds K fd ["self", "top", "bottom"] []
  ds : List Value
  b1 : L2.Binds K fd ["self", "top", "bottom"] ds
  hd : Vals [.int 1] ds
  its : List Value
  kb : KBn K fd ["self", "top", "bottom"] 1 ["bottom", "top"] (fun us ws => kwg us its ws) (fun vs zs => kwg vs [.int 1] zs)
structure CalM (CX : CXT) (k : Nat) (m : Str) (ps : List Str) (sp : Sp) where
  f : Addr
  fd : FuncData
  ok : FnOk P w K mg base CX k f fd ps sp
  me : Meth K C m f
  b : L2.Binds K fd ps []
structure CalO (CX : CXT) (k : Nat) (nm : String) (sp : Sp) where
  f : Addr
  fd : FuncData
  ok : FnOk P w K mg base CX k f fd ["self", "other"] sp
  at_ : PySem.W.findIn K (.ref C) (PySem.dunder nm) = some (some (.ref f))
  fn : PySem.W.isFn K (.ref f) = true
  ir : IntR K C nm
  b : L2.Binds K fd ["self", "other"] []
structure CalV (f fld : Str) where
  p : Addr
  g : Addr
  fd : FuncData
  hp : PropOf K C f p g
  ok : FnOk P w K mg base CX0 1 g fd ["self"] (getSp C fld)
  b : L2.Binds K fd ["self"] []
end
section
variable {X : Cx} {C CZ : Addr} {k : Nat} {x f fld : Str} {sp : Sp} {p pos apos : Pos} {e o : Expr} {es : List Expr} {t : TA} {te ta : TE} {E : XK} {CX : CXT}
theorem pe_mk2 (D : MkC X.prog X.w X.K X.mg X.base C CZ) (hr : Room 2 X.A) (hx : Passes (L2.CX X.prog X.w) X E) (ha : PA X (e :: es) t) (hg : Gl X "Ratio" := by rfl)
    (hdb : (("Ratio" : Str) == ("__debug__" : Str)) = false := by decide)
    (he : starEach (e :: es) X.env = (false, eval e X.env) :: starEach es X.env := by rfl)
    (hpl : (backTo pos (starEach es X.env)).any (·.1) = false := by rfl) :
    PE X (.Call (.Name "Ratio" p) (e :: es) [] pos) (tMake C (spIni C CZ) [] E t) := pe_make D.M D.ok hr hg D.gC D.b .nil hx ha hdb he hpl
theorem pe_mk1 (D : MkC X.prog X.w X.K X.mg X.base C CZ) (hr : Room 2 X.A) (hx : Passes (L2.CX X.prog X.w) X E) (ha : PA X (e :: es) t) (hg : Gl X "Ratio" := by rfl)
    (hdb : (("Ratio" : Str) == ("__debug__" : Str)) = false := by decide)
    (he : starEach (e :: es) X.env = (false, eval e X.env) :: starEach es X.env := by rfl)
    (hpl : (backTo pos (starEach es X.env)).any (·.1) = false := by rfl) :
    PE X (.Call (.Name "Ratio" p) (e :: es) [] pos) (tMake C (spIni C CZ) [.int 1] E t) := pe_make D.M D.ok hr hg D.gC D.b1 D.hd hx ha hdb he hpl
theorem pe_get (D : CalV X.prog X.w X.K X.mg X.base C f fld) (c : Cls X.K C) (hr : Room 2 X.A) (he : PE X e te) (hab : attributeBase e f X.env (eval e X.env) = eval e X.env := by rfl) :
    PE X (.Attribute e f pos) (tProp C (getSp C fld) [] E0 te) := pe_prop he c D.hp D.ok hr D.b .nil pass0 hab
theorem op_calB {op : Operator} (R : Rk X.K C) (D : CalO X.prog X.w X.K X.mg X.base C CX k op.info.2 sp) (hr : Room k X.A) (hx : Passes CX X E) : OpR X (binaryOp op) (rOwnB C sp E) :=
  op_ownB R.T D.at_ D.fn D.ir D.ok hr D.b hx
/-- a comparison of the class -/
structure CalQ (P : Program) (w : World) (K : PySem.W.Frag) (mg : Str → Option Value) (base : Heap) (C : Addr) (CX : CXT) (k : Nat) (m : Str) (sp : Sp) where
  f : Addr
  fd : FuncData
  ok : FnOk P w K mg base CX k f fd ["self", "other"] sp
  at_ : PySem.W.findIn K (.ref C) m = some (some (.ref f))
  fn : PySem.W.isFn K (.ref f) = true
  b : L2.Binds K fd ["self", "other"] []
theorem op_calC {op : CmpOp} (hop : ∀ a b, compareOp op a b = richCompare op a b) (D : CalQ X.prog X.w X.K X.mg X.base C CX k (cmpInfo op).2.1 sp) (hr : Room k X.A) (hx : Passes CX X E) :
    OpR X (compareOp op) (rOwnC X.K C sp E) := op_ownC hop D.at_ D.fn D.ok hr D.b hx
theorem op_calN (R : Rk X.K C) (hne : PySem.W.findIn X.K (.ref C) "__ne__" = some (some (.builtin "object.__ne__"))) (D : CalQ X.prog X.w X.K X.mg X.base C CX k "__eq__" sp) (hr : Room (k + 1) X.A) (hx : Passes CX X E) :
    OpR X (compareOp .NotEq) (rOwnN X.K C sp E) := op_ownN hne R.T.cm D.at_ D.fn D.ok hr D.b hx
end
/-! ### readings -/
def MkR (C CZ : Addr) (dvs : List V) (E : XK) (vs : List V) (H : Hp) (Q : VK) : Prop := ∀ x dx, H x = none → H dx = none → dx ≠ x →
  spIni C CZ (.ref x :: (vs ++ dvs)) (upd (upd H dx (.own x)) x (.ins C dx [])) (fun v H2 => v = .non ∧ Q (.ref x) H2) E
def PrR (C : Addr) (sp : Sp) (E : XK) (x : V) (H : Hp) (Q : VK) : Prop := ∃ a dx fs, x = .ref a ∧ H a = some (.ins C dx fs) ∧ sp [.ref a] H Q E
section
variable {σ : L2.St} {H : Hp} {Q : VK} {K : PySem.W.Frag} {C CZ a : Addr} {p q : Rat} {v : V} {E : XK} {t : TA} {ta : TE} {dvs : List V} {f : Rat → Rat → Rat} {g : Rat → Rat → Bool} {n : Nat}
theorem r_tMk (h : t σ H fun vs H1 => MkR C CZ dvs E vs H1 Q) : tMake C (spIni C CZ) dvs E t σ H Q := h
theorem mk_any {i b : Int} {vs : List V} (e : vs ++ dvs = [.int i, .int b]) (ht : i.natAbs < 2 ^ 8000) (hb : b.natAbs < 2 ^ 8000) (h0 : b ≠ 0) (q : NewR C (Rat.divInt i b) H Q) : MkR C CZ dvs E vs H Q := by
  intro x dx hx hd hne
  refine ⟨x, dx, i, b, by rw [e], upd_same, ht, hb, fun _ H' s r => ⟨rfl, q x H' hx ?_ r⟩, fun z => absurd z h0⟩
  intro c o hc
  refine s c o (ne_of_none hc hx) ?_
  rw [upd_ne (ne_of_none hc hx), upd_ne (ne_of_none hc hd)]
  exact hc
theorem r_mk2 {i b : Int} (ht : i.natAbs < 2 ^ 8000) (hb : b.natAbs < 2 ^ 8000) (h0 : b ≠ 0) (q : NewR C (Rat.divInt i b) H Q) : MkR C CZ [] E [.int i, .int b] H Q := mk_any rfl ht hb h0 q
theorem r_mk1 {i : Int} (ht : i.natAbs < 2 ^ 8000) (q : NewR C (i : Rat) H Q) : MkR C CZ [.int 1] E [.int i] H Q :=
  mk_any (i := i) (b := 1) rfl ht (by show 1 < 2 ^ 8000; exact Nat.one_lt_two_pow (by decide)) (by decide) (by rw [rat_int]; exact q)
theorem r_mkZ {i : Int} (ht : i.natAbs < 2 ^ 8000) (q : ∀ H', Same H H' → E (.ref CZ) none H') : MkR C CZ [] E [.int i, .int 0] H Q := by
  intro x dx hx hd hne
  refine ⟨x, dx, i, 0, rfl, upd_same, ht, Nat.two_pow_pos _, fun z => absurd rfl z, fun _ => q _ ?_⟩
  intro c o hc
  rw [upd_ne (ne_of_none hc hx), upd_ne (ne_of_none hc hd)]
  exact hc
theorem r_tPr {sp : Sp} (h : ta σ H fun x H1 => PrR C sp E x H1 Q) : tProp C sp [] E ta σ H Q := h
theorem r_top (h : RAt C H a q) (k : Q (.int q.num) H) : PrR C (getSp C "_top") E (.ref a) H Q := by
  obtain ⟨dx, h⟩ := h
  exact ⟨a, dx, _, rfl, h, a, dx, _, _, rfl, h, rfl, k⟩
theorem r_bot (h : RAt C H a q) (k : Q (.int (q.den : Int)) H) : PrR C (getSp C "_bottom") E (.ref a) H Q := by
  obtain ⟨dx, h⟩ := h
  exact ⟨a, dx, _, rfl, h, a, dx, _, _, rfl, h, rfl, k⟩
theorem r_sTop (R : Rk K C) (h : RAt C H a q) (k : Q (.int q.num) H) : FldR K "_top" (.ref a) H Q := by
  obtain ⟨dx, h⟩ := h
  exact r_fld h R.T.cl R.top rfl k
theorem r_sBot (R : Rk K C) (h : RAt C H a q) (k : Q (.int (q.den : Int)) H) : FldR K "_bottom" (.ref a) H Q := by
  obtain ⟨dx, h⟩ := h
  exact r_fld h R.T.cl R.bot rfl k
theorem r_ar (h : RAt C H a p) (h2 : NumV C H v q) (z1 : Sz n p) (z2 : Sz n q) (k : NewR C (f p q) H Q) : rOwnB C (spAr C n f) E (.ref a) v H Q := by
  obtain ⟨dx, h'⟩ := id h
  refine ⟨a, dx, _, rfl, h', ?_, a, v, p, q, rfl, h, h2, z1, z2, k⟩
  rcases h2 with ⟨b, rfl, dy, h2⟩ | ⟨i, rfl, rfl⟩
  · exact Or.inl ⟨b, dy, _, rfl, h2⟩
  · exact Or.inr ⟨i, rfl⟩
theorem r_cp (R : Rk K C) (h : RAt C H a p) (h2 : NumV C H v q) (z1 : Sz 8000 p) (z2 : Sz 8000 q) (k : ∀ H', Same H H' → Q (.bl (g p q)) H') : rOwnC K C (spCp C g) E (.ref a) v H Q := by
  obtain ⟨dx, h'⟩ := id h
  obtain ⟨t, ht, hn⟩ := h2.ty R
  exact ⟨a, dx, _, t, rfl, h', ht, hn, a, v, p, q, rfl, h, h2, z2, z1, k⟩
theorem r_eqR (R : Rk K C) (h : RAt C H a p) (h2 : NumV C H v q) (k : ∀ H', Same H H' → Q (.bl (decide (p = q))) H') : rOwnC K C (spEqR K C) E (.ref a) v H Q := by
  obtain ⟨dx, h'⟩ := id h
  obtain ⟨t, ht, hn⟩ := h2.ty R
  exact ⟨a, dx, _, t, rfl, h', ht, hn, a, v, p, rfl, h, Or.inl ⟨q, h2, k⟩⟩
theorem r_eqRN (h : RAt C H a p) (h2 : NoN K C H v) (k : ∀ H', Same H H' → Q (.bl false) H') : rOwnC K C (spEqR K C) E (.ref a) v H Q := by
  obtain ⟨dx, h'⟩ := id h
  obtain ⟨t, b1, b2, h3, h4, h5, h6⟩ := id h2
  exact ⟨a, dx, _, t, rfl, h', h3, h5, a, v, p, rfl, h, Or.inr ⟨h2, k⟩⟩
theorem r_neR (R : Rk K C) (h : RAt C H a p) (h2 : NumV C H v q) (k : ∀ H', Same H H' → Q (.bl (!decide (p = q))) H') : rOwnN K C (spEqR K C) E (.ref a) v H Q := by
  obtain ⟨dx, h'⟩ := id h
  obtain ⟨t, ht, hn⟩ := h2.ty R
  exact ⟨a, dx, _, t, rfl, h', ht, hn, a, v, p, rfl, h, Or.inl ⟨q, h2, fun H' s => ⟨_, rfl, k H' s⟩⟩⟩
theorem r_ng (h : RAt C H a p) (z1 : Sz 8000 p) (k : NewR C (-p) H Q) : rOwnU C (spNg C) E (.ref a) H Q := by
  obtain ⟨dx, h'⟩ := id h
  exact ⟨a, dx, _, rfl, h', a, p, rfl, h, z1, k⟩
end
end My

set_option Elab.async false
set_option linter.all false
set_option maxRecDepth 100000
set_option maxHeartbeats 4000000
/-! ## raising, loops; what a law's own defs promise of quotients -/
namespace My
open PySem PySem.Spec PyProof.Rows L2
theorem ErrB.binds {K : PySem.W.Frag} {fd : FuncData} {f : Str} (b : ErrB fd f) : L2.Binds K fd ["self", f] [] := by
  intro s us _ hl
  match us, hl with
  | [v, u], _ => exact b.pos s v u
section
variable {X : Cx} {x f : Str} {p pos : Pos} {e : Expr} {te : TE}
theorem pmk_E (D : CalE X.prog X.w X.K X.mg X.base x f) (hr : Room 2 X.A) (he : PE X e te) (hg : Gl X x := by rfl)
    (hdb : (x == ("__debug__" : Str)) = false := by decide)
    (hse : starEach (e :: []) X.env = (false, eval e X.env) :: starEach [] X.env := by rfl)
    (hpl : (backTo pos (starEach [] X.env)).any (·.1) = false := by rfl) :
    PMk X (.Call (.Name x p) [e] [] pos) (tMkO D.C (spErrI X.K D.C f) [] (tCons te tNil)) :=
  pmk_oex D.T.oex D.T.iC D.T.tI D.ok hr D.b.binds .nil pass0 hg D.T.mgC (pa_cons he pa_nil hse) hdb hse hpl
end
def ErrMk (K : PySem.W.Frag) (C : Addr) (f : Str) (v : V) (H1 : Hp) (Q : XK) : Prop := [v].length ≤ 1000 ∧ ∀ a, H1 a = none → spErrI K C f (.ref a :: ([v] ++ [])) (upd H1 a (exo a C none))
  (fun v H2 => v = .non ∧ ∃ (d : Addr) (fs : List (Str × V)), H2 a = some (exo a C (some d)) ∧ H2 d = some (exd d fs) ∧ H1 d = none ∧ Q (.ref C) (some d) (upd (del H2 a) d (.xd fs))) (fun _ _ _ => False)
section
variable {σ : L2.St} {H : Hp} {Q : XK} {K : PySem.W.Frag} {C : Addr} {f : Str} {te : TE} {v : V}
theorem r_mkO (h : te σ H fun v H1 => ErrMk K C f v H1 Q) : tMkO C (spErrI K C f) [] (tCons te tNil) σ H Q := h
theorem r_errMk (T : OexC K C) (no : PySem.W.findIn K (.ref C) f = some none) (q : ∀ d H2, H d = none → Same H H2 → H2 d = some (.xd [(f, v)]) → Q (.ref C) (some d) H2) : ErrMk K C f v H Q := by
  refine ⟨by show 1 ≤ 1000; decide, fun a ha => ⟨a, v, rfl, T, no, upd_same, fun d hd hne => ⟨rfl, d, [(f, v)], upd_same, ?_, ?_, ?_⟩⟩⟩
  · rw [upd_ne hne, upd_same]
  · rw [upd_ne hne] at hd
    exact hd
  · have hd' : H d = none := by
      rw [upd_ne hne] at hd
      exact hd
    refine q d _ hd' ?_ upd_same
    intro c o hc
    have c1 : c ≠ d := ne_of_none hc hd'
    have c2 : c ≠ a := ne_of_none hc ha
    rw [upd_ne c1, del_ne c2, upd_ne c2, upd_ne c1, upd_ne c2]
    exact hc
end
/-! ### while -/
def WhB (Pv : L2.St → Hp → Prop) (μ : L2.St → Hp → Nat) (m : Nat) (tb : TS) (D : Ends) (σ : L2.St) (H : Hp) : Prop :=
  ∃ N : L2.St → Hp → Prop, (∀ σ' H', N σ' H' → ∃ m', m' < m ∧ (m' = μ σ' H' ∧ Pv σ' H')) ∧ tb { D with nx := N, ct := N, bk := D.nx } σ H
theorem r_while {c : TT} {tb : TS} {D : Ends} {σ : L2.St} {H : Hp} (Pv : L2.St → Hp → Prop) (μ : L2.St → Hp → Nat) (h0 : Pv σ H)
    (hs : ∀ σ H, Pv σ H → c σ H fun b H1 => if b = true then WhB Pv μ (μ σ H) tb D σ H1 else D.nx σ H1) : tWhile c tb D σ H := by
  refine ⟨fun m σ H => m = μ σ H ∧ Pv σ H, ⟨_, rfl, h0⟩, ?_⟩
  rintro m σ H ⟨rfl, hp⟩
  exact hs σ H hp
theorem r_whB {Pv : L2.St → Hp → Prop} {μ : L2.St → Hp → Nat} {m : Nat} {tb : TS} {D : Ends} {σ : L2.St} {H : Hp}
    (h : tb { D with nx := fun σ' H' => Pv σ' H' ∧ μ σ' H' < m, ct := fun σ' H' => Pv σ' H' ∧ μ σ' H' < m, bk := D.nx } σ H) : WhB Pv μ m tb D σ H :=
  ⟨_, fun σ' H' ⟨h1, h2⟩ => ⟨_, h2, rfl, h1⟩, h⟩
/-! ### calls with keywords, read -/
section
variable {σ : L2.St} {H : Hp} {Q : VK} {sp : Sp} {gV : List V → List V → List V} {m n : Nat} {E : XK} {tk : TA} {ta : TE} {C : Addr} {x : Str}
def CkR (sp : Sp) (gV : List V → List V → List V) (m : Nat) (E : XK) (zs : List V) (H : Hp) (Q : VK) : Prop := zs.length = m ∧ sp (gV [] zs) H Q E
theorem r_tCK (h : tk σ H fun zs H2 => CkR sp gV m E zs H2 Q) : tCK sp gV m E tk σ H Q := h
theorem r_ck {zs ws : List V} (hm : zs.length = m) (e : gV [] zs = ws) (h : sp ws H Q E) : CkR sp gV m E zs H Q := ⟨hm, by rw [e]; exact h⟩
/-- a method of an object that is named: with arguments, with keywords -/
def MtR (C : Addr) (m : Str) (t : TA) (R : List V → V → Hp → Prop) (σ : L2.St) (x : V) (H : Hp) : Prop := ∃ a dx fs, x = .ref a ∧ H a = some (.ins C dx fs) ∧ fs.lookup m = none ∧ t σ H fun vs H2 => R vs x H2
theorem r_tMeth {t : TA} (h : ta σ H fun y H1 => MtR C x t (fun vs y H2 => sp (y :: vs) H2 Q E) σ y H1) : tMeth C x sp [] E ta t σ H Q := by
  have e : (fun (y : V) (H1 : Hp) => MtR C x t (fun vs y H2 => sp (y :: vs) H2 Q E) σ y H1) = fun x' H1 => ∃ a dx fs, x' = .ref a ∧ H1 a = some (.ins C dx fs) ∧ fs.lookup x = none ∧
      t σ H1 fun vs H2 => sp (x' :: (vs ++ [])) H2 Q E := by
    funext y H1
    unfold MtR
    simp only [List.append_nil]
  rw [e] at h
  exact h
theorem r_tMethW {t : TA} {W : WX} (h : ta σ H fun y H1 => MtR C x t (fun vs y H2 => sp (y :: vs) H2 Q (WE W σ)) σ y H1) : tMethW C x sp W ta t σ H Q := h
theorem r_tMK (h : ta σ H fun y H1 => MtR C x tk (fun zs y H2 => zs.length = n ∧ sp (gV [y] zs) H2 Q E) σ y H1) : tMK C x sp gV n E ta tk σ H Q := h
theorem r_mt {t : TA} {R : List V → V → Hp → Prop} {a dx : Addr} {fs : List (Str × V)} (h : H a = some (.ins C dx fs)) (l : fs.lookup x = none) (k : t σ H fun vs H2 => R vs (.ref a) H2) : MtR C x t R σ (.ref a) H :=
  ⟨a, dx, fs, rfl, h, l, k⟩
theorem r_mtR {t : TA} {R : List V → V → Hp → Prop} {a : Addr} {q : Rat} (h : RAt C H a q) (l : ([("_top", V.int q.num), ("_bottom", V.int (q.den : Int))] : List (Str × V)).lookup x = none) (k : t σ H fun vs H2 => R vs (.ref a) H2) : MtR C x t R σ (.ref a) H := by
  obtain ⟨dx, h⟩ := h
  exact r_mt h l k
end
/-! ### a law's own defs -/
def TupQ (H : Hp) (p : Addr) (q : Rat) : Prop := H p = some (.tup [.int q.num, .int (q.den : Int)])
theorem TupQ.same {H H' : Hp} {p : Addr} {q : Rat} (h : TupQ H p q) (s : Same H H') : TupQ H' p q := s _ _ h
def spFr : Sp := fun vs H Q _ => ∃ t b : Int, vs = [.int t, .int b] ∧ b ≠ 0 ∧ t.natAbs < 2 ^ 8000 ∧ b.natAbs < 2 ^ 8000 ∧ ∀ p H', H p = none → Same H H' → TupQ H' p (Rat.divInt t b) → Q (.ref p) H'
def spTq (f : Rat → Rat → Rat) : Sp := fun vs H Q _ => ∃ x y p q, vs = [.ref x, .ref y] ∧ TupQ H x p ∧ TupQ H y q ∧ Sz 3000 p ∧ Sz 3000 q ∧ ∀ a H', H a = none → Same H H' → TupQ H' a (f p q) → Q (.ref a) H'
def spLs : Sp := fun vs H Q _ => ∃ x y p q, vs = [.ref x, .ref y] ∧ TupQ H x p ∧ TupQ H y q ∧ Sz 3000 p ∧ Sz 3000 q ∧ Q (.bl (decide (p < q))) H
def spPk : Sp := fun vs H Q _ => ∃ b c, vs = [.ref b] ∧ BoxAt H b c ∧ c ≤ 100000 ∧ ∀ l H' t d, H l = none → SameX b H H' → BoxAt H' b (c + 5) → H' l = some (.lst [.int t, .int d]) →
  t.natAbs < 2 ^ 200 → d.natAbs < 2 ^ 200 → d ≠ 0 → Q (.ref l) H'
def spIsQ (C : Addr) : Sp := fun vs H Q _ => ∃ a p q, vs = [.ref a, .ref p] ∧ RAt C H a q ∧ TupQ H p q ∧ ∀ H', Same H H' → Q (.bl true) H'
def spRfd (K : PySem.W.Frag) (C : Addr) : Sp := fun vs H Q _ => ∃ v, vs = [v] ∧ NoN K C H v ∧ Shw K H v ∧ ∀ H', Same H H' → Q (.bl true) H'
def spZro (C : Addr) : Sp := fun vs H Q _ => ∃ a v q, vs = [.ref a, v] ∧ RAt C H a q ∧ Sz 3000 q ∧ NumV C H v 0 ∧ ∀ H', Same H H' → Q (.bl true) H'
def spCmq (C : Addr) : Sp := fun vs H Q _ => ∃ a v x y p q, vs = [.ref a, v, .ref x, .ref y] ∧ RAt C H a p ∧ NumV C H v q ∧ TupQ H x p ∧ TupQ H y q ∧ Sz 3000 p ∧ Sz 3000 q ∧ ∀ H', Same H H' → Q (.bl true) H'
def spCho (C : Addr) : Sp := fun vs H Q _ => ∃ a b x p q n, vs = [.ref a, .ref b, .ref x, .int n] ∧ RAt C H a p ∧ RAt C H b q ∧ TupQ H x p ∧ Sz 210 p ∧ Sz 210 q ∧ n.natAbs < 2 ^ 210 ∧ ∀ H', Same H H' → Q (.bl true) H'
/-- the sum of a list of numbers; a power -/
def spTot (K : PySem.W.Frag) (C : Addr) : Sp := fun vs H Q _ => ∃ (a : Addr) (xs : List V) (qs : List Rat), vs = [.ref a] ∧ (SqL K H a xs ∨ SqT K H a xs) ∧ xs.length ≤ 6 ∧ xs.length = qs.length ∧
  (∀ (i : Nat) (x : V) (q : Rat), xs[i]? = some x → qs[i]? = some q → NumV C H x q ∧ Sz 400 q) ∧ NewR C (qs.foldl (· + ·) 0) H Q
def spPw (C : Addr) : Sp := fun vs H Q _ => ∃ (v : V) (q : Rat) (n : Nat), vs = [v, .int (n : Int)] ∧ n ≤ 10 ∧ NumV C H v q ∧ Sz 700 q ∧ NewR C (q ^ n) H Q
theorem divInt_pow (q : Rat) : ∀ n : Nat, Rat.divInt (q.num ^ n) ((q.den : Int) ^ n) = q ^ n
  | 0 => by
    rw [Int.pow_zero, Int.pow_zero, Rat.pow_zero]
    rfl
  | n + 1 => by
    rw [Int.pow_succ, Int.pow_succ, Rat.pow_succ, ← divInt_pow q n, ← Rat.divInt_mul_divInt, rat_self]
/-! ### small rules -/
def SFd (K : PySem.W.Frag) (f : Str) (y : V) (D : Ends) (σ : L2.St) (x : V) (H : Hp) : Prop := ∃ a C dx fs, x = .ref a ∧ H a = some (.ins C dx fs) ∧ Cls K C ∧ NoAttr K C f ∧ fs.length < 1000 ∧
  D.nx σ (upd H a (.ins C dx (putF f y fs)))
section
variable {σ : L2.St} {H : Hp} {Q : VK} {K : PySem.W.Frag} {C a dx : Addr} {D : Ends} {ta tv : TE} {f : Str} {y v : V} {fs : List (Str × V)} {q : Rat} {i j t b : Int}
theorem r_sFld (h : tv σ H fun y H1 => ta σ H1 fun x H2 => SFd K f y D σ x H2) : sFld K ta tv f D σ H := h
theorem r_sFd (h : H a = some (.ins C dx fs)) (c : Cls K C) (n : NoAttr K C f) (l : fs.length < 1000) (k : D.nx σ (upd H a (.ins C dx (putF f y fs)))) : SFd K f y D σ (.ref a) H :=
  ⟨a, C, dx, fs, rfl, h, c, n, l, k⟩
theorem sgcd_le (h : b ≠ 0) : (sgcd t b).natAbs ≤ b.natAbs := by
  have := Int.natAbs_dvd_natAbs.mpr (sgcd_dvd_r t b)
  exact Nat.le_of_dvd (by omega) this
theorem divZ_sgcd {x : Int} (hb : b.natAbs < 2 ^ 8000) (h : b ≠ 0) : CDivZ x (sgcd t b) :=
  ⟨sgcd_ne h, Nat.lt_of_lt_of_le (PySem.Flt.log2_lt_of (by decide) (Nat.lt_of_le_of_lt (sgcd_le h) hb)) (by decide)⟩
theorem mul8 (h1 : i.natAbs < 2 ^ 8000) (h2 : j.natAbs < 2 ^ 8000) : CMulW i j := wide_mul h1 h2 (by decide) (by decide) (by decide)
theorem r_isR (R : Rk K C) (h : RAt C H a q) (k : Q (.bl true) H) : rIsi K [.ref a, .ref C] H Q := ⟨.ref a, .ref C, .ref C, .ref C, true, rfl, .own C, h.ty R, R.self, k⟩
theorem r_isRi (R : Rk K C) (k : Q (.bl false) H) : rIsi K [.int i, .ref C] H Q := ⟨.int i, .ref C, .type "int", .ref C, false, rfl, .own C, .base (.int i), R.b1 _ (by decide), k⟩
theorem r_isRN (h : NoN K C H v) (k : Q (.bl false) H) : rIsi K [v, .ref C] H Q := by
  obtain ⟨t, b1, b2, h1, h2, h3⟩ := h
  exact ⟨v, .ref C, t, .ref C, false, rfl, .own C, h1, h2, k⟩
theorem isI_int (k : Q (.bl true) H) {E : XK} : spIsI K [.int i] H Q E := ⟨.int i, .type "int", true, false, rfl, .base (.int i), kit_ty (by decide +kernel), kit_ty (by decide +kernel), k⟩
theorem isI_no (h : NoN K C H v) (k : Q (.bl false) H) {E : XK} : spIsI K [v] H Q E := by
  obtain ⟨t, b1, b2, h1, h2, h3, h4, h5, h6⟩ := h
  exact ⟨v, t, b1, b2, rfl, h1, h4, h5, by rw [h6]; exact k⟩
theorem ifB {c : Bool} {A B : Prop} (h1 : c = true → A) (h2 : c = false → B) : if c = true then A else B := by
  cases c with
  | true => exact iteT (h1 rfl)
  | false => exact iteF (h2 rfl)
theorem dInt (i j : Int) : decide (V.int i = V.int j) = decide (i = j) := by
  by_cases h : i = j
  · subst h
    rw [decide_eq_true rfl, decide_eq_true rfl]
  · rw [decide_eq_false h, decide_eq_false (fun z => h (V.int.inj z))]
theorem dBl (x y : Bool) : decide (V.bl x = V.bl y) = (x == y) := by cases x <;> cases y <;> rfl
theorem Sz.num {n m : Nat} {q : Rat} (h : Sz n q) (e : n ≤ m) : q.num.natAbs < 2 ^ m := (h.mono e).1
theorem Sz.den {n m : Nat} {q : Rat} (h : Sz n q) (e : n ≤ m) : ((q.den : Int)).natAbs < 2 ^ m := (h.mono e).2
end
/-! ### for over a tuple -/
def FT (K : PySem.W.Frag) (g : TG) (tb : TS) (D : Ends) (σ : L2.St) (x : V) (H : Hp) : Prop := ∃ a, x = .ref a ∧ (∃ xs, SqT K H a xs) ∧ ForW (Itt K a) g tb D σ H
section
variable {σ : L2.St} {H : Hp} {K : PySem.W.Frag} {D : Ends} {tl : TE} {g : TG} {tb : TS}
theorem r_forT (h : tl σ H fun x H1 => FT K g tb D σ x H1) : tFor (iTup K tl) g tb D σ H := h
theorem r_eachT {a : Addr} {xs : List V} (Pv : Nat → L2.St → Hp → Prop) (hS : SqT K H a xs) (h0 : Pv 0 σ H) (hl : ∀ i σ H, i ≤ xs.length → Pv i σ H → SqT K H a xs)
    (hs : ∀ i x σ H, xs[i]? = some x → Pv i σ H → g x σ H fun σ2 H2 => tb { D with nx := Pv (i + 1), ct := Pv (i + 1), bk := D.nx } σ2 H2)
    (hd : ∀ σ H, Pv xs.length σ H → D.nx σ H) : FT K g tb D σ (.ref a) H := ⟨a, rfl, ⟨xs, hS⟩, for_tup (xs := xs) Pv h0 hl hs hd⟩
theorem pi_tupA {X : Cx} (K : PySem.W.Frag) (hK : X.K = K) {tg e : Expr} {te : TE} (he : PE X e te) : PI X tg e (iTup K te) := by subst hK; exact pi_tup he
theorem SqL_same {H' : Hp} {a : Addr} {xs : List V} (s : Same H H') (h : SqL K H a xs) : SqL K H' a xs := s.seq h
end
theorem fold_take {qs : List Rat} {i : Nat} {q : Rat} (h : qs[i]? = some q) : (qs.take (i + 1)).foldl (· + ·) 0 = (qs.take i).foldl (· + ·) 0 + q := by
  rw [List.take_add_one, h, List.foldl_append]
  rfl
theorem ab_pow {x : Int} {n : Nat} (h : x.natAbs < 2 ^ n) : ∀ i : Nat, (x ^ i).natAbs < 2 ^ (n * i + 1)
  | 0 => by
    rw [Int.pow_zero, Nat.mul_zero]
    decide
  | i + 1 => by
    rw [Int.pow_succ]
    have := ab_mul (ab_pow h i) h
    rw [show n * i + 1 + n = n * (i + 1) + 1 by rw [Nat.mul_succ]; omega] at this
    exact this
theorem pow_ne {x : Int} (h : x ≠ 0) : ∀ i : Nat, x ^ i ≠ 0
  | 0 => by
    rw [Int.pow_zero]
    decide
  | i + 1 => by
    rw [Int.pow_succ]
    exact Int.mul_ne_zero (pow_ne h i) h
end My

set_option Elab.async false
set_option linter.all false
set_option maxRecDepth 100000
set_option maxHeartbeats 4000000
/-! ## readings of a law's own defs -/
namespace My
open PySem PySem.Spec PyProof.Rows L2
def ParR (i j : Nat) (D : Ends) (σ : L2.St) (vs : List V) (H : Hp) : Prop := ∃ v w, vs = [v, w] ∧ D.nx ((σ.set i (some v)).set j (some w)) H
section
variable {σ : L2.St} {H : Hp} {Q : VK} {K : PySem.W.Frag} {D : Ends} {ta : TA} {i j : Nat} {v w : V} {x y : Addr} {p q : Rat}
theorem r_tPar (h : ta σ H fun vs H1 => ParR i j D σ vs H1) : tPar i j ta D σ H := h
theorem r_par (h : D.nx ((σ.set i (some v)).set j (some w)) H) : ParR i j D σ [v, w] H := ⟨v, w, rfl, h⟩
theorem dp_tup (h : TupQ H x p) : Dp K H (.ref x) (.tuple [.int p.num, .int (p.den : Int)]) := .tup (SqT.of h) (.cons (.int _) (.cons (.int _) .nil))
theorem eqv_tup (p q : Rat) : PyData.eqv (.tuple [.int p.num, .int (p.den : Int)]) (.tuple [.int q.num, .int (q.den : Int)]) = decide (p = q) := by
  show ((p.num == q.num) && (((p.den : Int) == (q.den : Int)) && true)) = decide (p = q)
  by_cases h : p = q
  · subst h
    simp
  · rw [decide_eq_false h]
    by_cases e : p.num = q.num
    · have e2 : ¬ (p.den : Int) = (q.den : Int) := fun z => h (Rat.ext e (by omega))
      simp [e2]
    · simp [e]
theorem r_eqTQ (h1 : TupQ H x p) (h2 : TupQ H y q) (k : Q (.bl (decide (p = q))) H) : rEqD K (.ref x) (.ref y) H Q :=
  r_eqD (dp_tup h1) (dp_tup h2) rfl rfl (by rw [eqv_tup]; exact k)
theorem r_neD {d e : PyData} (h1 : Dp K H v d) (h2 : Dp K H w e) (h3 : SeqAt.shaped d = true) (h4 : SeqAt.shaped e = true) (k : Q (.bl (!PyData.eqv d e)) H) : rNeD K v w H Q := ⟨d, e, h1, h2, h3, h4, k⟩
theorem r_neTT (h1 : H x = some (.lst [.bl true, .bl true])) (h2 : H y = some (.lst [.bl true, .bl true])) (k : Q (.bl false) H) : rNeD K (.ref x) (.ref y) H Q :=
  r_neD (d := .list [.bool true, .bool true]) (e := .list [.bool true, .bool true]) (.lst (SqL.of h1) (.cons (.bl _) (.cons (.bl _) .nil))) (.lst (SqL.of h2) (.cons (.bl _) (.cons (.bl _) .nil))) rfl rfl k
theorem r_neNil (h1 : H x = some (.lst [])) (h2 : H y = some (.lst [])) (k : Q (.bl false) H) : rNeD K (.ref x) (.ref y) H Q :=
  r_neD (d := .list []) (e := .list []) (.lst (SqL.of h1) .nil) (.lst (SqL.of h2) .nil) rfl rfl k
theorem r_neB {b c : Bool} (k : Q (.bl (b != c)) H) : rNe (.bl b) (.bl c) H Q := r_ne rfl (by rw [dBl]; exact k)
theorem r_eqB {b c : Bool} (k : Q (.bl (b == c)) H) : rEq (.bl b) (.bl c) H Q := r_eq rfl (by rw [dBl]; exact k)
theorem r_eqI {i j : Int} (k : Q (.bl (decide (i = j))) H) : rEq (.int i) (.int j) H Q := r_eq rfl (by rw [dInt]; exact k)
theorem r_neI {i j : Int} (k : Q (.bl (!decide (i = j))) H) : rNe (.int i) (.int j) H Q := r_ne rfl (by rw [dInt]; exact k)
theorem r_tq0 (h : TupQ H x p) (k : Q (.int p.num) H) : rIxT K (.ref x) (.int 0) H Q := r_ixT (SqT.of h) (v := .int p.num) rfl k
theorem r_tq1 (h : TupQ H x p) (k : Q (.int (p.den : Int)) H) : rIxT K (.ref x) (.int 1) H Q := r_ixT (SqT.of h) (v := .int (p.den : Int)) rfl k
end
theorem gcd_step {i j : Nat} (h : 0 < j) : Nat.gcd j (i % j) = Nat.gcd i j := by
  rw [Nat.gcd_comm i j, Nat.gcd_rec j i, Nat.gcd_comm]
theorem SameX.none {b l : Addr} {H H' : Hp} (s : SameX b H H') (h : H' l = none) (n : l ≠ b) : H l = none := by
  cases e : H l with
  | none => rfl
  | some o =>
    rw [s l o n e] at h
    cases h
/-! ### what is caught -/
def XfR (a : Addr) (cls : Value) (d : Option Addr) (C : Addr) (f : Str) (x : V) (H1 : Hp) (Q : VK) : Prop := x = .ref a ∧ cls = .ref C ∧ ∃ (dd : Addr) (fs : List (Str × V)) (v : V), d = some dd ∧ H1 dd = some (.xd fs) ∧ fs.lookup f = some v ∧ Q v H1
section
variable {σ : L2.St} {H : Hp} {Q : VK} {K : PySem.W.Frag} {D : Ends} {C CZ a d : Addr} {cls : Value} {f : Str} {te : TE} {t : TA} {v : V} {fs : List (Str × V)} {W : WX} {sp : Sp} {E : L2.St → XK}
theorem r_tXf {d : Option Addr} (h : te σ H fun x H1 => XfR a cls d C f x H1 Q) : tXf a cls d C f te σ H Q := h
theorem r_xfR (h : H d = some (.xd fs)) (l : fs.lookup f = some v) (k : Q v H) : XfR a (.ref C) (some d) C f (.ref a) H Q := ⟨rfl, rfl, d, fs, v, rfl, h, l, k⟩
theorem r_callS (h : t σ H fun vs H1 => sp vs H1 Q (E σ)) : tCallS sp E t σ H Q := h
theorem r_tMkW (h : t σ H fun vs H1 => MkR C CZ [] (WE W σ) vs H1 Q) : tMakeW C (spIni C CZ) W t σ H Q := h
theorem wAs_yes {c : Value} {i : Nat} {ts : Addr → Value → Option Addr → TS} {Wout : WX} {d : Option Addr} (e : PySem.W.exmOne K cls c = some true)
    (h : ∀ a, H a = none → ts a cls d { nx := fun σ' H' => D.nx (σ'.set i none) H', rt := D.rt, bk := fun σ' H' => D.bk (σ'.set i none) H', ct := fun σ' H' => D.ct (σ'.set i none) H' } (σ.set i (some (.ref a))) H) :
    wAs K c i ts Wout D cls d σ H := ⟨true, e, fun _ => h, fun z => by cases z⟩
theorem wOnly_yes {c : Value} {ts : Addr → Value → Option Addr → TS} {Wout : WX} {d : Option Addr} (e : PySem.W.exmOne K cls c = some true)
    (h : ∀ a, H a = none → ts a cls d D σ H) : wOnly K c ts Wout D cls d σ H := ⟨true, e, fun _ => h, fun z => by cases z⟩
end
/-! ### choices -/
section
variable {σ : L2.St} {H : Hp} {Q : VK} {K : PySem.W.Frag} {C a : Addr} {m p q : Rat} {c : Bool} {tA tB : TE} {v : V} {E : XK}
theorem if_both (m : Rat) (hA : c = true → ∀ Q', SomeR C m H Q' → tA σ H Q') (hB : c = false → ∀ Q', SomeR C m H Q' → tB σ H Q') (k : SomeR C m H Q) : if c = true then tA σ H Q else tB σ H Q :=
  ifB (fun e => hA e Q k) (fun e => hB e Q k)
theorem iteNT {A B : Prop} (h : B) : if (!true) = true then A else B := iteF h
theorem iteNF {A B : Prop} (h : A) : if (!false) = true then A else B := iteT h
theorem r_neEq (R : Rk K C) (h : RAt C H a p) (h2 : NumV C H v q) (e : p = q) (k : ∀ H', Same H H' → Q (.bl false) H') : rOwnN K C (spEqR K C) E (.ref a) v H Q :=
  r_neR R h h2 (fun H' s => by rw [decide_eq_true e]; exact k H' s)
theorem tupq_int {x : Addr} {n : Int} (h : H x = some (.tup [.int n, .int 1])) : TupQ H x (n : Rat) := h
end
theorem sz_pow {n : Nat} {q : Rat} (h : Sz n q) (i : Nat) : Sz (n * i + 1) (q ^ i) := by
  rw [← divInt_pow]
  exact sz_mk (ab_pow h.1 i) (ab_pow h.den' i) (pow_ne (den_ne q) i)
theorem if_gen {σ : L2.St} {H : Hp} {Q : VK} {c : Bool} {tA tB : TE} (R : VK → Prop) (hA : c = true → ∀ Q', R Q' → tA σ H Q') (hB : c = false → ∀ Q', R Q' → tB σ H Q') (k : R Q) : if c = true then tA σ H Q else tB σ H Q :=
  ifB (fun e => hA e Q k) (fun e => hB e Q k)
theorem if_andF {σ : L2.St} {H : Hp} {c : Bool} {u : TT} {R : Bool → Hp → Prop} (hA : c = true → ∀ R' : Bool → Hp → Prop, (∀ H', Same H H' → R' false H') → u σ H R') (k : ∀ H', Same H H' → R false H') :
    if c = true then u σ H R else R false H := ifB (fun e => hA e R k) (fun _ => k H (Same.refl _))
def MkK (C : Addr) (n m : Nat) (sp : Sp) (gV : List V → List V → List V) (E : XK) (vs zs : List V) (H2 : Hp) (Q : VK) : Prop := vs.length = n ∧ zs.length = m ∧ ∀ x dx, H2 x = none → H2 dx = none → dx ≠ x →
  sp (gV (.ref x :: vs) zs) (upd (upd H2 dx (.own x)) x (.ins C dx [])) (fun v H3 => v = .non ∧ Q (.ref x) H3) E
theorem r_tMakeK {σ : L2.St} {H : Hp} {Q : VK} {C : Addr} {n m : Nat} {sp : Sp} {gV : List V → List V → List V} {E : XK} {t tk : TA} (h : t σ H fun vs H1 => tk σ H1 fun zs H2 => MkK C n m sp gV E vs zs H2 Q) :
    tMakeK C n m sp gV E t tk σ H Q := h
theorem r_mkK {H : Hp} {Q : VK} {C CZ : Addr} {E : XK} {i b : Int} (ht : i.natAbs < 2 ^ 8000) (hb : b.natAbs < 2 ^ 8000) (h0 : b ≠ 0) (q : NewR C (Rat.divInt i b) H Q) :
    MkK C 0 (["bottom", "top"] : List Str).length (spIni C CZ) (fun vs zs => kwg vs [.int 1] zs) E [] [.int b, .int i] H Q := by
  refine ⟨rfl, rfl, fun x dx hx hd hne => ?_⟩
  exact r_mk2 (CZ := CZ) (E := E) ht hb h0 q x dx hx hd hne
theorem rat_inv (q : Rat) : Rat.divInt q.den q.num = q⁻¹ := (Rat.inv_def q).symm
theorem NumV.sameX {C b : Addr} {H H' : Hp} {v : V} {q : Rat} {c : Nat} (h : NumV C H v q) (hb : BoxAt H b c) (s : SameX b H H') : NumV C H' v q := by
  rcases h with ⟨a, rfl, h⟩ | ⟨i, rfl, rfl⟩
  · exact Or.inl ⟨a, rfl, h.sameX s (h.ne hb)⟩
  · exact Or.inr ⟨i, rfl, rfl⟩
theorem TupQ.sameX {b x : Addr} {H H' : Hp} {q : Rat} {c : Nat} (h : TupQ H x q) (hb : BoxAt H b c) (s : SameX b H H') : TupQ H' x q := by
  refine s x _ ?_ h
  rintro rfl
  obtain ⟨i, j, k, e, _⟩ := hb
  unfold TupQ at h
  rw [h] at e
  cases e
/-- a unary operator of the class -/
structure CalQ1 (P : Program) (w : World) (K : PySem.W.Frag) (mg : Str → Option Value) (base : Heap) (C : Addr) (CX : CXT) (k : Nat) (m : Str) (sp : Sp) where
  f : Addr
  fd : FuncData
  ok : FnOk P w K mg base CX k f fd ["self"] sp
  at_ : PySem.W.findIn K (.ref C) m = some (some (.ref f))
  fn : PySem.W.isFn K (.ref f) = true
  b : L2.Binds K fd ["self"] []
theorem op_calU {X : Cx} {C : Addr} {CX : CXT} {k : Nat} {sp : Sp} {E : XK} (D : CalQ1 X.prog X.w X.K X.mg X.base C CX k "__neg__" sp) (hr : Room k X.A) (hx : Passes CX X E) : UnR X (unaryOp .USub) (rOwnU C sp E) :=
  un_ownU D.at_ D.fn D.ok hr D.b hx
theorem fBfun_ok {K : PySem.W.Frag} {h : Heap} {mg : Str → Option Value} (X : K.In h) (G : h.Ns mainGlobals mg) {x : Str} {id : String} (c : fBfun x id K = true) : mg x = some (.builtin id) :=
  PySem.W.mg_of X G (of_decide_eq_true c)
def fExm (x : Str) : Fx := fun K => decide (PySem.W.exmOne K (.ref (He.ga K x)) (.ref (He.ga K x)) = some true)
end My

set_option Elab.async false
set_option linter.all false
set_option maxRecDepth 100000
set_option maxHeartbeats 4000000
/-! ## texts of integers and of quotients -/
namespace My
open PySem PySem.Spec PyProof.Rows L2
def namL (i : Int) : List Nat := if i < 0 then 45 :: TL.numL i.natAbs else TL.numL i.natAbs
theorem tl_int (i : Int) : TL.tl (Str.ofString (toString i)) = namL i := by
  cases i with
  | ofNat n =>
    unfold namL
    rw [if_neg (by simp)]
    exact TL.tl_num n
  | negSucc n =>
    unfold namL
    rw [if_pos (by exact Int.negSucc_lt_zero n)]
    have e : toString (Int.negSucc n) = "-" ++ toString ((n + 1 : Nat) : Int) := rfl
    rw [e, TL.tl_ofString, String.toList_append, List.map_append, ← TL.tl_ofString, ← TL.tl_ofString, TL.tl_num]
    rfl
theorem namL_free {i : Int} {s : Nat} (h : s < 45 ∨ 57 < s ∨ s = 47) : s ∉ namL i := by
  unfold namL
  split
  · intro hm
    rcases List.mem_cons.mp hm with e | hm
    · omega
    · exact TL.numL_free (by omega) hm
  · exact TL.numL_free (by omega)
theorem namL_ascii {i : Int} {c : Nat} (h : c ∈ namL i) : c < 128 := by
  apply Decidable.byContradiction
  intro z
  exact namL_free (i := i) (s := c) (by omega) h
theorem int_namL {x : Str} {i : Int} (h : TL.tl x = namL i) (hl : x.length ≤ 4300) : intText? x = some i := by
  unfold namL at h
  by_cases hi : i < 0
  · rw [if_pos hi] at h
    rw [PySem.intText_neg h (TL.numL_digits _) (TL.numL_ne _) hl, TL.numL_val]
    congr 1
    omega
  · rw [if_neg hi] at h
    have h' : x.cps.toList = TL.numL i.natAbs := h
    rw [PySem.intText_digits (x := x) (by rw [h']; exact TL.numL_digits _) (by rw [h']; exact TL.numL_ne _) hl, h', TL.numL_val]
    congr 1
    omega
theorem namL_inj {i j : Int} (h : namL i = namL j) : i = j := by
  unfold namL at h
  by_cases hi : i < 0
  · rw [if_pos hi] at h
    by_cases hj : j < 0
    · rw [if_pos hj] at h
      have := TL.numL_inj (List.cons.inj h).2
      omega
    · rw [if_neg hj] at h
      exact absurd (h ▸ List.mem_cons_self : 45 ∈ TL.numL j.natAbs) (TL.numL_free (by omega))
  · rw [if_neg hi] at h
    by_cases hj : j < 0
    · rw [if_pos hj] at h
      exact absurd (h ▸ List.mem_cons_self : 45 ∈ TL.numL i.natAbs) (TL.numL_free (by omega))
    · rw [if_neg hj] at h
      have := TL.numL_inj h
      omega
/-! ### decimals of plain signs -/
def Plain (x : Str) : Prop := ∀ c ∈ TL.tl x, c < 128
theorem dec_ascii : ∀ c : _root_.Fin 128, Unicode.isDecimal c.val = (decide (48 ≤ c.val) && decide (c.val ≤ 57)) := by decide +kernel
theorem isdec_of {x : Str} (h : NumText.AllDigits (TL.tl x)) (hn : TL.tl x ≠ []) : Txt.isdecimal x = true := by
  unfold Txt.isdecimal
  rw [Bool.and_eq_true_iff]
  constructor
  · rw [TL.len_tl]
    exact decide_eq_true (List.length_pos_iff.mpr hn)
  · rw [Array.all_eq_true_iff_forall_mem]
    intro c hc
    have hd := h c (Array.mem_toList_iff.mpr hc)
    have := dec_ascii ⟨c, by omega⟩
    rw [this, Bool.and_eq_true_iff]
    exact ⟨decide_eq_true hd.1, decide_eq_true hd.2⟩
theorem isdec_to {x : Str} (hp : Plain x) (h : Txt.isdecimal x = true) : NumText.AllDigits (TL.tl x) ∧ TL.tl x ≠ [] := by
  unfold Txt.isdecimal at h
  obtain ⟨h1, h2⟩ := Bool.and_eq_true_iff.mp h
  constructor
  · intro c hc
    have := Array.all_eq_true_iff_forall_mem.mp h2 c (Array.mem_toList_iff.mp hc)
    rw [dec_ascii ⟨c, hp c hc⟩, Bool.and_eq_true_iff] at this
    exact ⟨of_decide_eq_true this.1, of_decide_eq_true this.2⟩
  · rw [TL.len_tl] at h1
    exact List.length_pos_iff.mp (of_decide_eq_true h1)
/-! ### the text of a quotient -/
def txL (q : Rat) : List Nat := if q.den = 1 then namL q.num else namL q.num ++ 47 :: namL (q.den : Int)
def txt (q : Rat) : Str := if q.den = 1 then Str.ofString (toString q.num) else Str.ofString (toString q.num) ++ "/" ++ Str.ofString (toString (q.den : Int))
theorem tl_txt (q : Rat) : TL.tl (txt q) = txL q := by
  unfold txt txL
  split
  · exact tl_int _
  · rw [TL.tl_append, TL.tl_append, tl_int, tl_int, List.append_assoc]
    rfl
/-! ### texts cut -/
theorem tl_slash : TL.tl ("/" : Str) = [47] := by decide +kernel
theorem tl_dash : TL.tl ("-" : Str) = [45] := by decide +kernel
def noDash : List Nat → List Nat
  | 45 :: r => r
  | l => l
theorem tl_rp (x : Str) : TL.tl (Txt.removeprefix x "-") = noDash (TL.tl x) := by
  unfold Txt.removeprefix
  rw [PySem.StrLaws.subAt_eq]
  have el : ("-" : Str).length = 1 := by decide +kernel
  have et : ("-" : Str).cps.toList = [45] := tl_dash
  rw [el, et, List.drop_zero]
  have hx : x.length = (TL.tl x).length := TL.len_tl x
  cases e : TL.tl x with
  | nil =>
    rw [show x.cps.toList = [] from e]
    show TL.tl (Txt.affix x none) = []
    exact e
  | cons c r =>
    rw [show x.cps.toList = c :: r from e]
    rw [e, List.length_cons] at hx
    by_cases hc : c = 45
    · subst hc
      have t : (List.take 1 (45 :: r) == [45]) = true := by simp
      rw [if_pos t]
      unfold Txt.affix
      have ne : (x.length - 1 == x.length) = false := by
        rw [hx]
        simp
      simp only [ne, Bool.false_eq_true, if_false]
      show TL.tl (Builtin.Str.strSub x 1 x.length) = r
      have z := PySem.StrLaws.strSub_toList x 1 x.length
      rw [show x.cps.toList = 45 :: r from e, hx] at z
      rw [hx]
      refine z.trans ?_
      simp
    · have t : ¬ (List.take 1 (c :: r) == [45]) = true := by
        simp
        exact hc
      rw [if_neg t]
      show TL.tl (Txt.affix x none) = _
      have e2 : noDash (c :: r) = c :: r := by
        unfold noDash
        split
        · rename_i h
          exact absurd (List.cons.inj h).1 hc
        · rfl
      rw [e2]
      exact e
theorem noDash_nam (i : Int) : noDash (namL i) = TL.numL i.natAbs := by
  unfold namL
  split
  · rfl
  · have h := TL.numL_free (n := i.natAbs) (s := 45) (by omega)
    generalize TL.numL i.natAbs = l at h ⊢
    unfold noDash
    split
    · exact absurd List.mem_cons_self h
    · rfl
theorem dec_nam {x : Str} {i : Int} (h : TL.tl x = namL i) : Txt.isdecimal (Txt.removeprefix x "-") = true :=
  isdec_of (by rw [tl_rp, h, noDash_nam]; exact TL.numL_digits _) (by rw [tl_rp, h, noDash_nam]; exact TL.numL_ne _)
theorem val_lt : ∀ (l : List Nat) (a : Nat), NumText.AllDigits l → l.foldl (fun acc c => acc * 10 + (c - 48)) a < (a + 1) * 10 ^ l.length
  | [], a, _ => by simp
  | c :: r, a, h => by
    have hc := h.head
    rw [List.foldl_cons, List.length_cons, Nat.pow_succ]
    refine Nat.lt_of_lt_of_le (val_lt r _ h.tail) ?_
    rw [show (a + 1) * (10 ^ r.length * 10) = ((a + 1) * 10) * 10 ^ r.length by rw [Nat.mul_comm (10 ^ r.length) 10, Nat.mul_assoc]]
    exact Nat.mul_le_mul_right _ (by omega)
theorem digits_lt {l : List Nat} (h : NumText.AllDigits l) : NumText.digitsVal l < 10 ^ l.length := by
  have := val_lt l 0 h
  unfold NumText.digitsVal
  rw [Nat.zero_add, Nat.one_mul] at this
  exact this
/-- a text that the program takes as an integer -/
theorem int_good {x : Str} (hp : Plain x) (hl : x.length ≤ 400) (h : Txt.isdecimal (Txt.removeprefix x "-") = true) : ∃ n : Int, intText? x = some n ∧ n.natAbs < 10 ^ 400 := by
  have hlen := TL.len_tl x
  have hpr : Plain (Txt.removeprefix x "-") := by
    intro c hc
    rw [tl_rp] at hc
    refine hp c ?_
    unfold noDash at hc
    split at hc
    · rename_i r e
      rw [e]
      exact List.mem_cons_of_mem _ hc
    · exact hc
  obtain ⟨h1, h2⟩ := isdec_to hpr h
  rw [tl_rp] at h1 h2
  have up : ∀ l : List Nat, NumText.AllDigits l → l.length ≤ 400 → NumText.digitsVal l < 10 ^ 400 := fun l a b => Nat.lt_of_lt_of_le (digits_lt a) (Nat.pow_le_pow_right (by decide) b)
  unfold noDash at h1 h2
  split at h1
  · rename_i r e
    have e' : x.cps.toList = 45 :: r := e
    rw [e] at h2 hlen
    refine ⟨_, PySem.intText_neg e' h1 h2 (by omega), ?_⟩
    rw [Int.natAbs_neg]
    rw [List.length_cons] at hlen
    exact up r h1 (by omega)
  · rename_i l e
    rw [show (match TL.tl x with | 45 :: r => r | l => l) = TL.tl x from by
      split
      · rename_i r z
        exact (e r z).elim
      · rfl] at h2
    refine ⟨_, PySem.intText_digits (x := x) h1 h2 (by omega), ?_⟩
    exact up _ h1 (by rw [← hlen]; exact hl)
theorem first_at {s : Nat} : ∀ {l : List Nat}, s ∈ l → ∃ p r, l = p ++ s :: r ∧ s ∉ p
  | c :: l, h => by
    by_cases e : c = s
    · subst e
      exact ⟨[], l, rfl, by simp⟩
    · rcases List.mem_cons.mp h with z | z
      · exact absurd z.symm e
      · obtain ⟨p, r, hl, hp⟩ := first_at z
        refine ⟨c :: p, r, by rw [hl]; rfl, ?_⟩
        intro m
        rcases List.mem_cons.mp m with m | m
        · exact e m.symm
        · exact hp m
/-- a text, cut at its first slash -/
theorem cut_cases (x : Str) : 47 ∉ TL.tl x ∨ ∃ a b : Str, x = a ++ "/" ++ b ∧ 47 ∉ TL.tl a := by
  by_cases h : 47 ∈ TL.tl x
  · obtain ⟨p, r, e, hp⟩ := first_at h
    refine Or.inr ⟨⟨p.toArray⟩, ⟨r.toArray⟩, TL.ext_tl ?_, hp⟩
    rw [TL.tl_append, TL.tl_append, tl_slash, e, List.append_assoc]
    rfl
  · exact Or.inl h
end My

set_option Elab.async false
set_option linter.all false
set_option maxRecDepth 100000
set_option maxHeartbeats 4000000
/-! ## class methods with keywords alone; methods of texts; comprehensions over texts -/
namespace My
open PySem PySem.Spec PyProof.Rows L2
def tCMK (C : Addr) (sp : Sp) (gV : List V → List V → List V) (n : Nat) (E : XK) (ta : TE) (tk : TA) : TE := fun σ H Q => ta σ H fun x H1 => x = .ref C ∧ tk σ H1 fun zs H2 => zs.length = n ∧ sp (gV [.ref C] zs) H2 Q E
section
variable {X : Cx} {CX : CXT} {k : Nat} {g p C : Addr} {mc : Value} {fd : FuncData} {ps ks : List Str} {sp : Sp} {E : XK} {m : Str} {pos apos : Pos} {o : Expr} {kws : List Keyword} {ta : TE} {tk : TA} {gg : List Value → List Value → List Value}
  {gV : List V → List V → List V}
theorem pe_cmethK0 {pl : Sem Bool} (he : PE X o ta) (r : ClX.CRead X.K C mc) (c : ClX.CMet X.K C mc m p g) (F : FnOk X.prog X.w X.K X.mg X.base CX k g fd ps sp) (hr : Room k X.A) (hb : KBn X.K fd ps 1 ks gg gV) (hx : Passes CX X E)
    (hkw : PK X kws tk) (hall : (backToKw pos (keywordEach kws X.env)).all (·.1.isSome) = true := by rfl) (hks : (backToKw pos (keywordEach kws X.env)).filterMap (·.1) = ks := by rfl)
    (hpl : ((backTo pos (starEach [] X.env)).any (·.1) || (backToKw pos (keywordEach kws X.env)).any (·.1.isNone)) = false := by rfl)
    (ht : eval (.Call (.Attribute o m apos) [] kws pos) X.env = (do
      let ov ← eval o X.env
      standAt apos.atName
      let (f, first) ← holding [ov] (getMethod ov m pl)
      callWith pos f first (backTo pos (starEach [] X.env)) (backToKw pos (keywordEach kws X.env))) := by rfl) :
    PE X (.Call (.Attribute o m apos) [] kws pos) (tCMK C sp gV ks.length E ta tk) := by
  refine ⟨fun pins s σ H Q I h => ?_⟩
  refine PySem.W.methodCall_KW (pl := pl) (thn (he.run pins s σ H _ I h) fun u s1 ⟨x, H1, I1, rx, ex, q⟩ => ?_) ht
  subst ex
  obtain rfl : u = Value.ref C := rx
  refine ClX.getmethcm_ok I1 r c fun s2 I2 => ?_
  refine PySem.W.callWith_of hpl (PySem.W.keeps_M (q := s1.heap.objs.size) (self := .ref C) c.fi) (PyProof.Rows.evalArgs_kw2_nil hall ?_)
  refine thn (hkw.run pos _ s2 σ H1 _ I2 q) fun ws s3 ⟨zs, H2, I3, rz, l2, q2⟩ => ⟨⟨ClX.pin_at I3, I3.kIn⟩, ?_⟩
  rw [hks]
  have r2 := hb.rel (.cons rfl .nil : Vals [V.ref C] [Value.ref C]) rz
  have z : wpAny (model X.prog X.w) X.A (call (.ref s1.heap.objs.size) ([] ++ []) (ks.zip ws)) (EP X ((s1.heap.objs.size, PySem.W.methodObj (.ref g) (.ref C)) :: pins) σ Q) X.xe s3 := by
    refine wpAny_call (PySem.W.method_call (ClX.pin_at I3) ?_)
    refine codeAny_mono (F.run X.A X.stack s3 H2 ⟨[.ref C], ks.zip ws⟩ (gg [.ref C] ws) (gV [.ref C] zs) Q E hr I3.env0 (hb.to s3 [.ref C] ws I3.kIn rfl (rz.length.symm.trans l2)) r2 q2) fun r s' hq => ?_
    cases r with
    | error e => exact hx _ σ H2 s3 e s' I3 hq
    | ok fl =>
      cases fl with
      | ret u => exact I3.after hq
      | next => exact False.elim hq
      | brk => exact False.elim hq
      | cont => exact False.elim hq
  exact thn z fun _ _ y => ClX.unpinE y
end
/-! ### methods of texts -/
def M0R (r : V → List V → Hp → VK → Prop) (x : V) (H : Hp) (Q : VK) : Prop := (∃ a, x = .str a) ∧ r x [] H Q
def M1R (r : V → List V → Hp → VK → Prop) (te : TE) (σ : L2.St) (x : V) (H : Hp) (Q : VK) : Prop := (∃ a, x = .str a) ∧ te σ H fun y H2 => r x [y] H2 Q
def rIsDec : V → List V → Hp → VK → Prop := fun x xs H Q => ∃ a, x = .str a ∧ xs = [] ∧ True ∧ Q (.bl (Txt.isdecimal a)) H
def rRemP : V → List V → Hp → VK → Prop := fun x xs H Q => ∃ a b, x = .str a ∧ xs = [.str b] ∧ a.length ≤ sizeLine ∧ Q (.str (Txt.removeprefix a b)) H
def rPart : V → List V → Hp → VK → Prop := fun x xs H Q => ∃ a b, x = .str a ∧ xs = [.str b] ∧ (b.length == 0) = false ∧ a.length ≤ sizeLine ∧
  ∀ p, H p = none → Q (.ref p) (upd H p (.tup [.str (Txt.partition a b).1, .str (Txt.partition a b).2.1, .str (Txt.partition a b).2.2]))
def rSplit : V → List V → Hp → VK → Prop := fun x xs H Q => ∃ a b, x = .str a ∧ xs = [.str b] ∧ (b.length == 0) = false ∧ a.length + 2 ≤ sizeLine ∧ rNewStrs (Txt.split a b) H Q
def rIntS : List V → Hp → VK → Prop := fun xs H Q => ∃ a n, xs = [.str a] ∧ PySem.intText? a = some n ∧ a.length ≤ 640 ∧ Q (.int n) H
section
variable {X : Cx} {o e : Expr} {to te : TE} {apos pos : Pos}
theorem pe_isdec (ho : PE X o to) (hbase : attributeBase o "isdecimal" X.env (eval o X.env) = eval o X.env := by rfl) (hline : (apos.endLine == pos.line) = true := by rfl) :
    PE X (.Call (.Attribute o "isdecimal" apos) [] [] pos) (tM0 rIsDec to) := pe_m0 F.slot_str_isdecimal F.type_str_isdecimal mt_isdecimal ho hbase hline
theorem pe_remP (ho : PE X o to) (he : PE X e te) (hs : starEach [e] X.env = [(false, eval e X.env)] := by rfl) (hbase : attributeBase o "removeprefix" X.env (eval o X.env) = eval o X.env := by rfl) (hline : (apos.endLine == pos.line) = true := by rfl) :
    PE X (.Call (.Attribute o "removeprefix" apos) [e] [] pos) (tM1 rRemP to te) := pe_m1 F.slot_str_removeprefix F.type_str_removeprefix mt_removeprefix ho he hs hbase hline
theorem pe_part (ho : PE X o to) (he : PE X e te) (hs : starEach [e] X.env = [(false, eval e X.env)] := by rfl) (hbase : attributeBase o "partition" X.env (eval o X.env) = eval o X.env := by rfl) (hline : (apos.endLine == pos.line) = true := by rfl) :
    PE X (.Call (.Attribute o "partition" apos) [e] [] pos) (tM1 rPart to te) := pe_partition ho he hs hbase hline
theorem pe_spl (ho : PE X o to) (he : PE X e te) (hs : starEach [e] X.env = [(false, eval e X.env)] := by rfl) (hbase : attributeBase o "split" X.env (eval o X.env) = eval o X.env := by rfl) (hline : (apos.endLine == pos.line) = true := by rfl) :
    PE X (.Call (.Attribute o "split" apos) [e] [] pos) (tM1 rSplit to te) := pe_split ho he hs hbase hline
theorem cl_intS : CallR X (.type "int") rIntS := call_int_str
end
section
variable {σ : L2.St} {H : Hp} {Q : VK} {to te ta : TE} {r : V → List V → Hp → VK → Prop} {x y : Str} {K : PySem.W.Frag} {n : Int}
theorem r_tM0 (h : to σ H fun x H1 => M0R r x H1 Q) : tM0 r to σ H Q := h
theorem r_tM1 (h : to σ H fun x H1 => M1R r te σ x H1 Q) : tM1 r to te σ H Q := h
theorem r_m1 (h : te σ H fun y H2 => r (.str x) [y] H2 Q) : M1R r te σ (.str x) H Q := ⟨⟨x, rfl⟩, h⟩
theorem r_isDec (h : Q (.bl (Txt.isdecimal x)) H) : M0R rIsDec (.str x) H Q := ⟨⟨x, rfl⟩, x, rfl, rfl, trivial, h⟩
theorem r_remP (hx : x.length ≤ 100000) (h : Q (.str (Txt.removeprefix x y)) H) : rRemP (.str x) [.str y] H Q := ⟨x, y, rfl, rfl, Nat.le_trans hx (by decide), h⟩
theorem r_part (hx : x.length ≤ 100000) (hy : (y.length == 0) = false) (q : ∀ p H', H p = none → Same H H' → H' p = some (.tup [.str (Txt.partition x y).1, .str (Txt.partition x y).2.1, .str (Txt.partition x y).2.2]) → Q (.ref p) H') :
    rPart (.str x) [.str y] H Q := ⟨x, y, rfl, rfl, hy, Nat.le_trans hx (by decide), fun p hp => q p _ hp (Same.upd hp) upd_same⟩
theorem r_intS (h : PySem.intText? x = some n) (hl : x.length ≤ 640) (q : Q (.int n) H) : rIntS [.str x] H Q := ⟨x, n, rfl, h, hl, q⟩
end
end My

set_option Elab.async false
set_option linter.all false
set_option maxRecDepth 100000
set_option maxHeartbeats 4000000
/-! ## a class in a local name; texts put together -/
namespace My
open PySem PySem.Spec PyProof.Rows L2
def tMkV (i : Nat) (C CZ : Addr) (E : XK) (t : TA) : TE := fun σ H Q => σ[i]? = some (some (.ref C)) ∧ t σ H fun vs H1 => MkR C CZ [] E vs H1 Q
section
variable {X : Cx} {k i : Nat} {C CZ : Addr} {E : XK} {x : Str} {e : Expr} {es : List Expr} {t : TA} {p pos : Pos}
theorem pe_mkV (D : MkC X.prog X.w X.K X.mg X.base C CZ) (hr : Room 2 X.A) (hx : Passes (L2.CX X.prog X.w) X E) (hN : X.N[i]? = some x) (hv : Vis X.env.scope x) (ha : PA X (e :: es) t)
    (hd : (x == ("__debug__" : Str)) = false := by decide) (hcd : (x == ("__classdict__" : Str)) = false := by decide)
    (he : starEach (e :: es) X.env = (false, eval e X.env) :: starEach es X.env := by rfl) (hpl : (backTo pos (starEach es X.env)).any (·.1) = false := by rfl) : PE X (.Call (.Name x p) (e :: es) [] pos) (tMkV i C CZ E t) := by
  refine ⟨fun pins s σ H Q I h => ?_⟩
  obtain ⟨hs, h⟩ := h
  refine wpAny_Call_Name_kw (thn ((pe_var (pos := p) (i := i) hN hv hd hcd).run pins s σ H (fun v H1 => v = .ref C ∧ H1 = H) I ⟨.ref C, hs, rfl, rfl⟩) fun u s1 ⟨v, H1, I1, r1, ev, eH⟩ => ?_)
  subst ev
  rw [eH] at I1
  cases r1
  refine PySem.W.callWith_K (h₀ := X.base) I.ok.mod.kin D.M.kp (thn (ha.run pos pins s1 σ H _ I1 h) fun us s2 ⟨vs, H2, I2, r, q⟩ => ⟨I2.kIn, ?_⟩) he hpl
  exact run_make D.M D.ok hr D.b .nil hx I2 r q
/-- f'..{}..' -/
def tJoin (ts : List TE) : TE := fun σ H Q => tJs ts Str.empty σ H fun out H1 => Q (.str out) H1
theorem pe_join {v1 v2 : Expr} {rest : List Expr} {ts : List TE} {pos : Pos} (h : PJ X (v1 :: v2 :: rest) ts) : PE X (.JoinedStr (v1 :: v2 :: rest) pos) (tJoin ts) := pe_joined h
end
section
variable {σ : L2.St} {H : Hp} {Q : VK} {R : Str → Hp → Prop} {ts : List TE} {acc y : Str} {t te : TE} {K : PySem.W.Frag} {C CZ a : Addr} {E : XK} {ta : TA} {i n : Nat} {xs : List V} {tg : TGs} {S : L2.St → Hp → Prop}
def JsR (ts : List TE) (acc : Str) (σ : L2.St) (R : Str → Hp → Prop) (x : V) (H1 : Hp) : Prop := ∃ y : Str, x = .str y ∧ (acc ++ y).length ≤ sizeLine ∧ tJs ts (acc ++ y) σ H1 R
def FmR (x : V) (H1 : Hp) (Q : VK) : Prop := (∃ y : Str, x = .str y ∧ y.length ≤ sizeLine ∧ Q (.str y) H1) ∨ ∃ i : Int, x = .int i ∧ i.natAbs.log2 < 1920 ∧ Q (.str (toString i)) H1
theorem r_tJoin (h : tJs ts Str.empty σ H fun out H1 => Q (.str out) H1) : tJoin ts σ H Q := h
theorem r_js (h : t σ H fun x H1 => JsR ts acc σ R x H1) : tJs (t :: ts) acc σ H R := h
theorem r_js0 (h : R acc H) : tJs [] acc σ H R := h
theorem r_jsR (hl : (acc ++ y).length ≤ 100000) (h : tJs ts (acc ++ y) σ H R) : JsR ts acc σ R (.str y) H := ⟨y, rfl, Nat.le_trans hl (by decide), h⟩
theorem r_tFmt (h : te σ H fun x H1 => FmR x H1 Q) : tFmt te σ H Q := h
theorem r_fmI {j : Int} (hl : j.natAbs.log2 < 1920) (h : Q (.str (toString j)) H) : FmR (.int j) H Q := Or.inr ⟨j, rfl, hl, h⟩
theorem r_mkV (hs : σ[i]? = some (some (.ref C))) (h : ta σ H fun vs H1 => MkR C CZ [] E vs H1 Q) : tMkV i C CZ E ta σ H Q := ⟨hs, h⟩
theorem r_gTup (h : SqT K H a xs) (hl : xs.length = n) (q : tg xs σ H S) : gTup K n tg (.ref a) σ H S := ⟨a, xs, rfl, h, hl, q⟩
def TruR' (K : PySem.W.Frag) (R : Bool → Hp → Prop) (x : V) (H : Hp) : Prop := ∃ k, TruV K x H k ∧ R k H
theorem r_truS {R : Bool → Hp → Prop} (hl : y.length ≤ 100000) (q : R ((y.length : Int) != 0) H) : TruR' K R (.str y) H := ⟨_, ⟨Nat.le_trans hl (by decide), rfl⟩, q⟩
end
def tTruS (K : PySem.W.Frag) (ta : TE) : TT := fun σ H Q => ta σ H fun x H' => TruR' K Q x H'
theorem pt_truS {X : Cx} (K : PySem.W.Frag) (hK : X.K = K) {a : Expr} {ta : TE} (ha : PE X a ta) (he : ∀ whole, isTrue a X.env whole = (do let v ← whole; standAt a.pos; holding [v] (truthy v))) : PT X a (tTruS K ta) := by
  subst hK
  exact pt_truth ha he
section
variable {σ : L2.St} {H : Hp} {K : PySem.W.Frag} {ta : TE} {R : Bool → Hp → Prop} {t : TG} {u : TGs} {S : L2.St → Hp → Prop} {v : V} {xs : List V}
theorem r_tTruS (h : ta σ H fun x H' => TruR' K R x H') : tTruS K ta σ H R := h
theorem r_gCons (h : t v σ H fun σ' H' => u xs σ' H' S) : gCons t u (v :: xs) σ H S := ⟨v, xs, rfl, h⟩
theorem r_gNil (h : S σ H) : gNil [] σ H S := ⟨rfl, h⟩
end
theorem txt_join (q : Rat) (h : q.den ≠ 1) : Str.empty ++ Str.ofString (toString q.num) ++ ("/" : Str) ++ Str.ofString (toString (q.den : Int)) = txt q := by
  refine TL.ext_tl ?_
  unfold txt
  rw [if_neg h, TL.tl_append, TL.tl_append, TL.tl_append, TL.tl_append, TL.tl_append]
  rfl
/-- what is promised of a text's making and reading -/
def spTxt (C : Addr) : Sp := fun vs H Q _ => ∃ a q, vs = [.ref a] ∧ RAt C H a q ∧ Sz 1900 q ∧ ∀ H', Same H H' → Q (.str (txt q)) H'
def spRead (C CB : Addr) : Sp := fun vs H Q E => ∃ x : Str, vs = [.ref C, .str x] ∧ Plain x ∧ x.length ≤ 400 ∧ (∀ q, txt q = x → Sz 1400 q → SomeR C q H Q) ∧ ((∀ q, txt q ≠ x) → ∀ H', Same H H' → E (.ref CB) none H')
theorem len_int {i : Int} (h : i.natAbs < 2 ^ 1900) : (Str.ofString (toString i)).length ≤ 601 := by
  rw [TL.len_tl, tl_int]
  have z := TL.numL_len (n := i.natAbs) (k := 600) (by decide) (Nat.lt_of_lt_of_le h (by decide +kernel))
  unfold namL
  split
  · rw [List.length_cons]
    omega
  · omega
theorem log_int {i : Int} (h : i.natAbs < 2 ^ 1900) : i.natAbs.log2 < 1920 := Nat.lt_of_lt_of_le (PySem.Flt.log2_lt_of (by decide) h) (by decide)
/-- decimals without a sign, taken as an integer -/
theorem int_dec {x : Str} (hp : Plain x) (hl : x.length ≤ 400) (h : Txt.isdecimal x = true) : ∃ n : Nat, intText? x = some (n : Int) ∧ n < 10 ^ 400 := by
  obtain ⟨h1, h2⟩ := isdec_to hp h
  refine ⟨_, PySem.intText_digits (x := x) h1 h2 (by omega), ?_⟩
  exact Nat.lt_of_lt_of_le (digits_lt h1) (Nat.pow_le_pow_right (by decide) (by rw [← TL.len_tl]; exact hl))
theorem namL_den (q : Rat) : namL (q.den : Int) = TL.numL q.den := by
  unfold namL
  rw [if_neg (by omega)]
  rfl
theorem dec_den {x : Str} {q : Rat} (h : TL.tl x = namL (q.den : Int)) : Txt.isdecimal x = true := by
  rw [namL_den] at h
  exact isdec_of (by rw [h]; exact TL.numL_digits _) (by rw [h]; exact TL.numL_ne _)
theorem ten_two : (10 : Nat) ^ 400 ≤ 2 ^ 1400 := by decide +kernel
theorem app_first {s : Nat} : ∀ {p p' r r' : List Nat}, s ∉ p → s ∉ p' → p ++ s :: r = p' ++ s :: r' → p = p' ∧ r = r'
  | [], [], r, r', _, _, e => ⟨rfl, (List.cons.inj e).2⟩
  | [], c :: p', r, r', _, h', e => absurd (List.cons.inj e).1 (fun z => h' (z ▸ List.mem_cons_self))
  | c :: p, [], r, r', h, _, e => absurd (List.cons.inj e).1.symm (fun z => h (z ▸ List.mem_cons_self))
  | c :: p, d :: p', r, r', h, h', e => by
    obtain ⟨e1, e2⟩ := List.cons.inj e
    obtain ⟨h1, h2⟩ := app_first (fun z => h (List.mem_cons_of_mem _ z)) (fun z => h' (List.mem_cons_of_mem _ z)) e2
    exact ⟨by rw [e1, h1], h2⟩
theorem tl_one : TL.tl ("1" : Str) = namL 1 := by decide +kernel
theorem txt_whole {x : Str} {q : Rat} (h : 47 ∉ TL.tl x) (e : txt q = x) : TL.tl x = namL q.num ∧ q.den = 1 := by
  have z := tl_txt q
  rw [e] at z
  unfold txL at z
  by_cases hd : q.den = 1
  · rw [if_pos hd] at z
    exact ⟨z, hd⟩
  · rw [if_neg hd] at z
    exact absurd (by rw [z]; simp) h
theorem txt_cut {a b : Str} {q : Rat} (h : 47 ∉ TL.tl a) (e : txt q = a ++ "/" ++ b) : TL.tl a = namL q.num ∧ TL.tl b = namL (q.den : Int) ∧ q.den ≠ 1 := by
  have z := tl_txt q
  rw [e, TL.tl_append, TL.tl_append, tl_slash, List.append_assoc] at z
  unfold txL at z
  by_cases hd : q.den = 1
  · rw [if_pos hd] at z
    exact absurd (by rw [← z]; simp : 47 ∈ namL q.num) (namL_free (by omega))
  · rw [if_neg hd] at z
    obtain ⟨z1, z2⟩ := app_first h (namL_free (by omega)) z
    exact ⟨z1, z2, hd⟩
end My

set_option Elab.async false
set_option linter.all false
set_option maxRecDepth 100000
set_option maxHeartbeats 4000000
/-! ## comprehensions over a text; what reading a text promises -/
namespace My
open PySem PySem.Spec PyProof.Rows L2
theorem txt_inj {p q : Rat} (h : txt p = txt q) : p = q := by
  have e : txL p = txL q := by rw [← tl_txt, ← tl_txt, h]
  unfold txL at e
  by_cases hp : p.den = 1
  · rw [if_pos hp] at e
    by_cases hq : q.den = 1
    · rw [if_pos hq] at e
      exact Rat.ext (namL_inj e) (by omega)
    · rw [if_neg hq] at e
      exact absurd (by rw [e]; simp : 47 ∈ namL p.num) (namL_free (by omega))
  · rw [if_neg hp] at e
    by_cases hq : q.den = 1
    · rw [if_pos hq] at e
      exact absurd (by rw [← e]; simp : 47 ∈ namL q.num) (namL_free (by omega))
    · rw [if_neg hq] at e
      obtain ⟨e1, e2⟩ := app_first (namL_free (by omega)) (namL_free (by omega)) e
      have := namL_inj e2
      exact Rat.ext (namL_inj e1) (by omega)
def LCS (i : Nat) (tt : TT) (te : TE) (σ : L2.St) (x : V) (H : Hp) (Q : VK) : Prop :=
  ∃ s, x = .str s ∧ ∀ D, H D = none → ∃ W : Nat → Nat → Hp → Prop, (∃ m, W 0 m (upd H D (.lst []))) ∧ ∀ n m H, W n m H →
      ((Its s).stop n H ∧ Q (.ref D) H) ∨ ((Its s).go n H ∧ ∃ Nx : Hp → Prop, (∀ H', Nx H' → ∃ m', m' < m ∧ W (n + 1) m' H') ∧ ∀ x H', (Its s).yld n H x H' →
        gName i x (wipe σ [i]) H' fun σ2 H2 => wipe σ2 [i] = wipe σ [i] ∧ tt σ2 H2 fun b H3 =>
          if b = true then te σ2 H3 fun y H4 => ∃ acc, H4 D = some (.lst acc) ∧ acc.length < sizeLine ∧ Nx (upd H4 D (.lst (acc ++ [y]))) else Nx H3)
section
variable {σ : L2.St} {H : Hp} {Q : VK} {te tl : TE} {tt : TT} {i : Nat}
theorem r_lcs {vs : List Nat} (h : tl σ H fun x H1 => LCS i tt te σ x H1 Q) (hv : vs = [i] := by rfl) : tLc (iStr tl) (gName i) tt te vs σ H Q := by
  subst hv
  exact h
theorem r_lcsA {s : Str} (b : Nat → Bool) (hn : s.length ≤ 10000)
    (ht : ∀ c H1, c ∈ TL.tl s → Same H H1 → ∀ R : Bool → Hp → Prop, (∀ H2, Same H1 H2 → R (b c) H2) → tt ((wipe σ [i]).set i (some (.str ⟨#[c]⟩))) H1 R)
    (he : ∀ c H1, ∀ R : VK, R (.str ⟨#[c]⟩) H1 → te ((wipe σ [i]).set i (some (.str ⟨#[c]⟩))) H1 R)
    (q : ∀ p H', H p = none → Same H H' → H' p = some (.lst (((TL.tl s).filter b).map fun c => V.str ⟨#[c]⟩)) → Q (.ref p) H') : LCS i tt te σ (.str s) H Q := by
  refine ⟨s, rfl, fun D hD => ?_⟩
  have hsz : s.cps.size = (TL.tl s).length := TL.len_tl s
  refine ⟨fun n m H' => m = s.cps.size - n ∧ n ≤ s.cps.size ∧ Same H H' ∧ H' D = some (.lst ((((TL.tl s).take n).filter b).map fun c => V.str ⟨#[c]⟩)), ⟨s.cps.size, by simp, Nat.zero_le _, Same.upd hD, upd_same⟩, ?_⟩
  rintro n m H1 ⟨rfl, hle, s1, h1⟩
  by_cases hlt : n < s.cps.size
  · refine Or.inr ⟨hlt, fun H' => n + 1 ≤ s.cps.size ∧ Same H H' ∧ H' D = some (.lst ((((TL.tl s).take (n + 1)).filter b).map fun c => V.str ⟨#[c]⟩)), fun H' ⟨a, b, c⟩ => ⟨_, by omega, rfl, a, b, c⟩, ?_⟩
    rintro x H' ⟨rfl, c, hc, rfl⟩
    have hc' : (TL.tl s)[n]? = some c := by
      rw [← hc]
      exact Array.getElem?_toList
    have ex : (TL.tl s).take (n + 1) = (TL.tl s).take n ++ [c] := by
      rw [List.take_add_one, hc']
      rfl
    refine ⟨wipe_one σ i _, ht c _ (List.mem_of_getElem? hc') s1 _ (fun H2 s2 => ?_)⟩
    cases eb : b c with
    | false =>
      refine iteF ⟨hlt, s1.trans s2, ?_⟩
      rw [ex, List.filter_append, List.filter_cons_of_neg (by rw [eb]; decide), List.filter_nil, List.append_nil]
      exact s2 _ _ h1
    | true =>
      refine iteT (he c H2 _ ?_)
      refine ⟨_, s2 _ _ h1, ?_, hlt, ?_, ?_⟩
      · refine Nat.lt_of_le_of_lt (m := 10000) ?_ (by decide)
        rw [List.length_map]
        refine Nat.le_trans (List.length_filter_le _ _) (Nat.le_trans (by rw [List.length_take]; exact Nat.min_le_right _ _) ?_)
        rw [← hsz]
        exact hn
      · intro c' o hc'
        rw [upd_ne (ne_of_none hc' hD)]
        exact s2 _ _ (s1 _ _ hc')
      · rw [upd_same, ex, List.filter_append, List.filter_cons_of_pos eb, List.filter_nil, List.map_append]
        rfl
  · refine Or.inl ⟨Nat.le_of_not_lt hlt, ?_⟩
    have en : n = (TL.tl s).length := by omega
    rw [en, List.take_length] at h1
    exact q D H1 hD s1 h1
end
/-- a text read: the quotient that has it, or nothing -/
def spOne : Sp := fun vs H Q _ => ∃ x : Str, vs = [.str x] ∧ Plain x ∧ x.length ≤ 400 ∧ (∀ q, txt q = x → Sz 1400 q → ∀ p H', H p = none → Same H H' → TupQ H' p q → Q (.ref p) H') ∧ ((∀ q, txt q ≠ x) → ∀ H', Same H H' → Q .non H')
/-- a word read: the integer that has it, or nothing -/
def spWhole : Sp := fun vs H Q _ => ∃ x : Str, vs = [.str x] ∧ Plain x ∧ x.length ≤ 400 ∧ (∀ i : Int, TL.tl x = namL i → i.natAbs < 10 ^ 400 → ∀ H', Same H H' → Q (.int i) H') ∧ ((∀ i : Int, TL.tl x ≠ namL i) → ∀ H', Same H H' → Q .non H')
end My

set_option Elab.async false
set_option linter.all false
set_option maxRecDepth 100000
set_option maxHeartbeats 4000000
/-! ## texts cut by places; lists of signs -/
namespace My
open PySem PySem.Spec PyProof.Rows L2
theorem tl_cut_to (z : Str) (n : Nat) : TL.tl (cutS z none (some (n : Int))) = (TL.tl z).take n := by
  have h := TL.len_tl z
  show ((z.cps.toList.drop (HT.sIx z.length 0 none)).take (HT.sIx z.length z.length (some (n : Int)) - HT.sIx z.length 0 none)) = z.cps.toList.take n
  rw [HT.sIx_none, HT.sIx_nat, List.drop_zero, Nat.sub_zero, h, ← List.take_take, List.take_length]
theorem tl_cut_from (z : Str) (n : Nat) : TL.tl (cutS z (some (n : Int)) none) = (TL.tl z).drop n := by
  have h := TL.len_tl z
  show ((z.cps.toList.drop (HT.sIx z.length 0 (some (n : Int)))).take (HT.sIx z.length z.length none - HT.sIx z.length 0 (some (n : Int)))) = z.cps.toList.drop n
  rw [HT.sIx_none, HT.sIx_nat]
  by_cases hn : n ≤ z.length
  · have e : z.cps.toList.length = z.length := h.symm
    rw [Nat.min_eq_left hn]
    exact List.take_of_length_le (by rw [List.length_drop, e]; exact Nat.le_refl _)
  · have e : z.cps.toList.length = z.length := h.symm
    rw [Nat.min_eq_right (by omega), List.drop_eq_nil_of_le (by omega), List.drop_eq_nil_of_le (by omega), List.take_nil]
theorem cut_mem {z : Str} {lo hi : Option Int} {c : Nat} (h : c ∈ TL.tl (cutS z lo hi)) : c ∈ TL.tl z := List.mem_of_mem_drop (List.mem_of_mem_take h)
theorem plain_cut {z : Str} {lo hi : Option Int} (h : Plain z) : Plain (cutS z lo hi) := fun c hc => h c (cut_mem hc)
theorem plain_app {x y : Str} (h1 : Plain x) (h2 : Plain y) : Plain (x ++ y) := by
  intro c hc
  rw [TL.tl_append] at hc
  rcases List.mem_append.mp hc with hc | hc
  · exact h1 c hc
  · exact h2 c hc
theorem len_app (x y : Str) : (x ++ y).length = x.length + y.length := by
  rw [TL.len_tl, TL.tl_append, List.length_append, ← TL.len_tl, ← TL.len_tl]
section
variable {σ : L2.St} {H : Hp} {Q : VK} {K : PySem.W.Frag} {x y : Addr} {c : Nat} {z : Str} {lo hi : Option Int}
theorem r_slS (hz : z.length ≤ 100000) (q : Q (.str (cutS z lo hi)) H) : rSlS (.str z) lo hi H Q := ⟨z, rfl, Nat.le_trans hz (by decide), q⟩
theorem r_notInS (q : Q (.bl (!decide (c ∈ z.cps.toList))) H) : rNotInS (.str ⟨#[c]⟩) (.str z) H Q := ⟨c, z, rfl, rfl, q⟩
theorem dp_signs : ∀ cs : List Nat, DpAll K H (cs.map fun c => V.str ⟨#[c]⟩) (cs.map fun c => PyData.str ⟨#[c]⟩)
  | [] => .nil
  | c :: r => .cons (.str _) (dp_signs r)
theorem shaped_signs (cs : List Nat) (hc : ∀ c ∈ cs, c < 128) : SeqAt.shaped (.list (cs.map fun c => PyData.str ⟨#[c]⟩)) = true := by
  have h1 : ∀ cs : List Nat, (∀ c ∈ cs, c < 128) → PyData.canLayAll0 (cs.map fun c => PyData.str ⟨#[c]⟩) = true := by
    intro cs hc
    induction cs with
    | nil => rfl
    | cons c r ih =>
      rw [List.map_cons, PyData.canLayAll0, ih (fun d hd => hc d (List.mem_cons_of_mem _ hd)), Bool.and_true, PyData.canLay0]
      have := hc c List.mem_cons_self
      simp [PyData.strOk]
      omega
  have h2 : ∀ cs : List Nat, PyData.depthAll (cs.map fun c => PyData.str ⟨#[c]⟩) ≤ 1 := by
    intro cs
    induction cs with
    | nil => decide
    | cons c r ih =>
      rw [List.map_cons, PyData.depthAll]
      exact Nat.max_le.mpr ⟨(by rw [PyData.depth]; exact Nat.zero_le _), ih⟩
  unfold SeqAt.shaped
  rw [Bool.and_eq_true_iff]
  refine ⟨h1 cs hc, decide_eq_true ?_⟩
  unfold PyData.depth
  have := h2 cs
  omega
theorem r_neSigns {cs : List Nat} (hne : cs ≠ []) (hc : ∀ c ∈ cs, c < 128) (h1 : H x = some (.lst (cs.map fun c => V.str ⟨#[c]⟩))) (h2 : H y = some (.lst [])) (k : Q (.bl true) H) : rNeD K (.ref x) (.ref y) H Q := by
  refine r_neD (d := .list (cs.map fun c => PyData.str ⟨#[c]⟩)) (e := .list []) (.lst (SqL.of h1) (dp_signs cs)) (.lst (SqL.of h2) .nil) (shaped_signs cs hc) rfl ?_
  cases cs with
  | nil => exact absurd rfl hne
  | cons c r => exact k
end
theorem tl_digits : TL.tl ("0123456789" : Str) = [48, 49, 50, 51, 52, 53, 54, 55, 56, 57] := by decide +kernel
theorem in_digits {c : Nat} : c ∈ TL.tl ("0123456789" : Str) ↔ 48 ≤ c ∧ c ≤ 57 := by
  rw [tl_digits]
  simp only [List.mem_cons, List.mem_nil_iff, or_false]
  omega
section
variable {σ : L2.St} {H : Hp} {Q : VK} {te : TE} {tl th : TO} {r : V → Option Int → Option Int → Hp → VK → Prop} {R : Option Int → Hp → Prop} {i : Int}
theorem r_tSl (h : te σ H fun x H1 => tl σ H1 fun l H2 => th σ H2 fun u H3 => r x l u H3 Q) : L2.tSl r te tl th σ H Q := h
theorem r_noPart (h : R none H) : tNoPart σ H R := h
def PtR (R : Option Int → Hp → Prop) (x : V) (H : Hp) : Prop := ∃ i : Int, x = .int i ∧ R (some i) H
theorem r_tPart (h : te σ H fun x H1 => PtR R x H1) : tPart te σ H R := h
theorem r_ptR (h : R (some i) H) : PtR R (.int i) H := ⟨i, rfl, h⟩
end
end My

set_option Elab.async false
set_option linter.all false
set_option maxRecDepth 100000
set_option maxHeartbeats 4000000
/-! ## texts split at slashes -/
namespace My
open PySem PySem.Spec PyProof.Rows L2
theorem slash_kind : ("/" : Str).cps.all (· < 256) = true := by decide +kernel
theorem split_none {x : Str} (h : 47 ∉ TL.tl x) : Txt.split x "/" = [x] := by
  refine TL.map_tl_inj ?_
  rw [TL.split_spl _ "/" (by rw [tl_slash]; simp) (TL.kind_ok slash_kind), tl_slash, TL.spl_last1 h]
  rfl
theorem split_cut {a b : Str} (h : 47 ∉ TL.tl a) : Txt.split (a ++ "/" ++ b) "/" = a :: Txt.split b "/" := by
  refine TL.map_tl_inj ?_
  rw [List.map_cons, TL.split_spl _ "/" (by rw [tl_slash]; simp) (TL.kind_ok slash_kind), TL.split_spl b "/" (by rw [tl_slash]; simp) (TL.kind_ok slash_kind), tl_slash, TL.tl_append, TL.tl_append, tl_slash, List.append_assoc]
  have := TL.spl_part1 (S := []) (rest := TL.tl b) (acc := []) h
  rw [List.nil_append] at this
  exact this
theorem split_ne (x : Str) : Txt.split x "/" ≠ [] := by
  rcases cut_cases x with h | ⟨a, b, rfl, h⟩
  · rw [split_none h]
    simp
  · rw [split_cut h]
    simp
theorem split_parts : ∀ (n : Nat) (x : Str), x.length ≤ n → ∀ w ∈ Txt.split x "/", (∀ c ∈ TL.tl w, c ∈ TL.tl x) ∧ w.length ≤ x.length := by
  intro n
  induction n with
  | zero =>
    intro x hx w hw
    rcases cut_cases x with h | ⟨a, b, rfl, h⟩
    · rw [split_none h, List.mem_singleton] at hw
      subst hw
      exact ⟨fun c hc => hc, Nat.le_refl _⟩
    · rw [len_app, len_app] at hx
      have : ("/" : Str).length = 1 := by decide +kernel
      omega
  | succ n ih =>
    intro x hx w hw
    rcases cut_cases x with h | ⟨a, b, rfl, h⟩
    · rw [split_none h, List.mem_singleton] at hw
      subst hw
      exact ⟨fun c hc => hc, Nat.le_refl _⟩
    · have l1 : ("/" : Str).length = 1 := by decide +kernel
      rw [len_app, len_app] at hx
      rw [split_cut h] at hw
      rw [TL.tl_append, TL.tl_append, len_app, len_app]
      rcases List.mem_cons.mp hw with rfl | hw
      · exact ⟨fun c hc => List.mem_append_left _ (List.mem_append_left _ hc), by omega⟩
      · obtain ⟨h1, h2⟩ := ih b (by omega) w hw
        exact ⟨fun c hc => List.mem_append_right _ (h1 c hc), by omega⟩
theorem split_count : ∀ (n : Nat) (x : Str), x.length ≤ n → (Txt.split x "/").length ≤ x.length + 1 := by
  intro n
  induction n with
  | zero =>
    intro x hx
    rcases cut_cases x with h | ⟨a, b, rfl, h⟩
    · rw [split_none h]
      simp
    · have : ("/" : Str).length = 1 := by decide +kernel
      rw [len_app, len_app] at hx
      omega
  | succ n ih =>
    intro x hx
    rcases cut_cases x with h | ⟨a, b, rfl, h⟩
    · rw [split_none h]
      simp
    · have l1 : ("/" : Str).length = 1 := by decide +kernel
      rw [len_app, len_app] at hx ⊢
      rw [split_cut h, List.length_cons]
      have := ih b (by omega)
      omega
/-- what stands for a word -/
noncomputable def wv (w : Str) : V := open Classical in if h : ∃ i : Int, TL.tl w = namL i then .int (Classical.choose h) else .non
theorem wv_int {w : Str} {i : Int} (h : TL.tl w = namL i) : wv w = .int i := by
  unfold wv
  rw [dif_pos ⟨i, h⟩]
  have := Classical.choose_spec (⟨i, h⟩ : ∃ i : Int, TL.tl w = namL i)
  exact congrArg V.int (namL_inj (h.symm.trans this)).symm
theorem wv_non {w : Str} (h : ∀ i : Int, TL.tl w ≠ namL i) : wv w = .non := by
  unfold wv
  rw [dif_neg (fun ⟨i, z⟩ => h i z)]
theorem wv_flat (w : Str) : flatV (wv w) = true := by
  by_cases h : ∃ i : Int, TL.tl w = namL i
  · obtain ⟨i, h⟩ := h
    rw [wv_int h]
    rfl
  · rw [wv_non (fun i z => h ⟨i, z⟩)]
    rfl
theorem nam_bound {w : Str} {i : Int} (hp : Plain w) (hl : w.length ≤ 400) (h : TL.tl w = namL i) : i.natAbs < 2 ^ 1400 := by
  obtain ⟨n, e, l⟩ := int_good hp hl (dec_nam h)
  rw [int_namL h (by omega)] at e
  cases e
  exact Nat.lt_of_lt_of_le l ten_two
section
variable {σ : L2.St} {H : Hp} {Q : VK} {K : PySem.W.Frag} {x y : Addr} {a b c d : Int} {xs : List V} {v : V} {R : Bool → Hp → Prop}
theorem r_eqTI (h1 : H x = some (.tup [.int a, .int b])) (h2 : H y = some (.tup [.int c, .int d])) (k : Q (.bl (decide (a = c) && decide (b = d))) H) : rEqD K (.ref x) (.ref y) H Q := by
  refine r_eqD (d := .tuple [.int a, .int b]) (e := .tuple [.int c, .int d]) (.tup (SqT.of h1) (.cons (.int _) (.cons (.int _) .nil))) (.tup (SqT.of h2) (.cons (.int _) (.cons (.int _) .nil))) rfl rfl ?_
  have e : PyData.eqv (.tuple [.int a, .int b]) (.tuple [.int c, .int d]) = (decide (a = c) && decide (b = d)) := by
    show ((a == c) && ((b == d) && true)) = _
    rw [Bool.and_true]
    rfl
  rw [e]
  exact k
theorem r_in (h : H x = some (.lst xs)) (f1 : flatV v = true) (f2 : xs.all flatV = true) (k : Q (.bl (inV v xs)) H) : rIn K false v (.ref x) H Q := ⟨x, xs, rfl, Or.inl (.of h), f1, f2, k⟩
theorem r_yes (h : R true H) : tYes σ H R := h
theorem r_split {s t : Str} (hs : s.length ≤ 100000) (ht : (t.length == 0) = false) (q : ∀ p H', H p = none → Same H H' → H' p = some (.lst ((Txt.split s t).map V.str)) → Q (.ref p) H') : rSplit (.str s) [.str t] H Q :=
  ⟨s, t, rfl, rfl, ht, Nat.le_trans (Nat.add_le_add_right hs 2) (by decide), fun p n => q p _ n (Same.upd n) upd_same⟩
end
/-- a class method of two parameters -/
structure CmC (P : Program) (w : World) (K : PySem.W.Frag) (mg : Str → Option Value) (base : Heap) (C : Addr) (k : Nat) (sp : Sp) where
  p : Addr
  g : Addr
  fd : FuncData
  me : ClX.CMet K C (.type "type") "read" p g
  ok : FnOk P w K mg base (L2.CX P w) k g fd ["cls", "text"] sp
  b : L2.Binds K fd ["cls", "text"] []
/-- C.m(e), what is raised wished for at the caller's slots -/
def tCMW (C : Addr) (sp : Sp) (W : WX) (ta : TE) (t : TA) : TE := fun σ H Q => ta σ H fun x H1 => x = .ref C ∧ t σ H1 fun vs H2 => sp (.ref C :: vs) H2 Q (WE W σ)
section
variable {X : Cx} {k : Nat} {C : Addr} {sp : Sp} {pos apos : Pos} {o e : Expr} {es : List Expr} {ta : TE} {t : TA} {W : WX}
theorem pe_cmethW {pl : Sem Bool} (he : PE X o ta) (r : ClX.CRead X.K C (.type "type")) (D : CmC X.prog X.w X.K X.mg X.base C k sp) (hr : Room k X.A) (tk : Takes X W) (ha : PA X (e :: es) t)
    (hst : starEach (e :: es) X.env = (false, eval e X.env) :: starEach es X.env := by rfl) (hpl : (backTo pos (starEach es X.env)).any (·.1) = false := by rfl)
    (ht : eval (.Call (.Attribute o "read" apos) (e :: es) [] pos) X.env = (do
      let ov ← eval o X.env
      standAt apos.atName
      let (f, first) ← holding [ov] (getMethod ov "read" pl)
      callWith pos f first (backTo pos (starEach (e :: es) X.env)) (backToKw pos (keywordEach [] X.env))) := by rfl) :
    PE X (.Call (.Attribute o "read" apos) (e :: es) [] pos) (tCMW C sp W ta t) := by
  refine ⟨fun pins s σ H Q I h => ?_⟩
  refine PySem.W.methodCall_KW (pl := pl) (thn (he.run pins s σ H _ I h) fun u s1 ⟨x, H1, I1, rx, ex, q⟩ => ?_) ht
  subst ex
  obtain rfl : u = Value.ref C := rx
  refine ClX.getmethcm_ok I1 r D.me fun s2 I2 => ?_
  refine ClX.callwith_cm I2 (ClX.base_none I1 (Nat.le_refl _)) D.me.fi (thn (ha.run pos _ s2 σ H1 _ I2 q) fun us s3 ⟨vs, H2, I3, rv, q2⟩ => ⟨⟨ClX.pin_at I3, I3.kIn⟩, ?_⟩) hst hpl
  have r2 : Vals (V.ref C :: vs) (Value.ref C :: us) := .cons rfl rv
  have hl : ((Value.ref C :: us) ++ []).length = (["cls", "text"] : List Str).length := by
    rw [List.append_nil, ← r2.length]
    exact D.ok.len _ _ _ _ q2
  have b := D.b s3 (Value.ref C :: us) I3.kIn hl
  rw [List.append_nil] at b
  have z : wpAny (model X.prog X.w) X.A (call (.ref s1.heap.objs.size) us) (EP X ((s1.heap.objs.size, PySem.W.methodObj (.ref D.g) (.ref C)) :: pins) σ Q) X.xe s3 := by
    refine wpAny_call (PySem.W.method_call (ClX.pin_at I3) ?_)
    refine codeAny_mono (D.ok.run X.A X.stack s3 H2 ⟨Value.ref C :: us, []⟩ (Value.ref C :: us) (V.ref C :: vs) Q (WE W σ) hr I3.env0 b r2 q2) fun r s' hq => ?_
    cases r with
    | error e => exact passAt tk σ _ H2 s3 e s' I3 hq
    | ok fl =>
      cases fl with
      | ret u => exact I3.after hq
      | next => exact False.elim hq
      | brk => exact False.elim hq
      | cont => exact False.elim hq
  exact thn z fun _ _ y => ClX.unpinE y
end
section
variable {σ : L2.St} {H : Hp} {Q : VK} {C : Addr} {sp : Sp} {W : WX} {ta : TE} {t tk : TA} {gV : List V → List V → List V} {n : Nat} {E : XK}
def CmR (C : Addr) (t : TA) (R : List V → Hp → Prop) (σ : L2.St) (x : V) (H : Hp) : Prop := x = .ref C ∧ t σ H R
theorem r_tCMW (h : ta σ H fun x H1 => CmR C t (fun vs H2 => sp (.ref C :: vs) H2 Q (WE W σ)) σ x H1) : tCMW C sp W ta t σ H Q := h
theorem r_tCMK (h : ta σ H fun x H1 => CmR C tk (fun zs H2 => zs.length = n ∧ sp (gV [.ref C] zs) H2 Q E) σ x H1) : tCMK C sp gV n E ta tk σ H Q := h
theorem r_cmR {R : List V → Hp → Prop} (h : t σ H R) : CmR C t R σ (.ref C) H := ⟨rfl, h⟩
end
theorem r_neTQ {H : Hp} {Q : VK} {K : PySem.W.Frag} {x y : Addr} {p q : Rat} (h1 : TupQ H x p) (h2 : TupQ H y q) (e : p = q) (k : Q (.bl false) H) : rNeD K (.ref x) (.ref y) H Q :=
  r_neD (dp_tup h1) (dp_tup h2) rfl rfl (by rw [eqv_tup, decide_eq_true e]; exact k)
theorem r_neNN {H : Hp} {Q : VK} {K : PySem.W.Frag} (k : Q (.bl false) H) : rNeD K .non .non H Q := r_neD .non .non rfl rfl k
theorem len_nam {i : Int} (h : i.natAbs < 2 ^ 210) : (namL i).length ≤ 65 := by
  have z := TL.numL_len (n := i.natAbs) (k := 64) (by decide) (Nat.lt_of_lt_of_le h (by decide +kernel))
  unfold namL
  split
  · rw [List.length_cons]
    omega
  · omega
theorem len_txt {q : Rat} (h : Sz 210 q) : (txt q).length ≤ 131 := by
  rw [TL.len_tl, tl_txt]
  have h1 := len_nam h.1
  have h2 := len_nam h.den'
  unfold txL
  split
  · omega
  · rw [List.length_append, List.length_cons]
    omega
theorem plain_nam (i : Int) : Plain (Str.ofString (toString i)) := fun c hc => by
  rw [tl_int] at hc
  exact namL_ascii hc
theorem plain_slash : Plain "/" := fun c hc => by
  rw [tl_slash] at hc
  rw [List.mem_singleton.mp hc]
  decide
theorem plain_txt (q : Rat) : Plain (txt q) := by
  unfold txt
  split
  · exact plain_nam _
  · exact plain_app (plain_app (plain_nam _) plain_slash) (plain_nam _)
theorem len_int2 {i : Int} (h : i.natAbs < 2 ^ 210) : (Str.ofString (toString i)).length ≤ 65 := by
  rw [TL.len_tl, tl_int]
  exact len_nam h
theorem not_empty (q : Rat) : txt q ≠ "" := by
  intro e
  have z := tl_txt q
  rw [e, show TL.tl ("" : Str) = [] by decide +kernel] at z
  have n : namL q.num ≠ [] := by
    unfold namL
    split
    · simp
    · exact TL.numL_ne _
  unfold txL at z
  split at z
  · exact n z.symm
  · cases h : namL q.num with
    | nil => exact n h
    | cons a b =>
      rw [h] at z
      cases z
theorem not_dash0 (q : Rat) : txt q ≠ "-0" := by
  intro e
  have t : TL.tl ("-0" : Str) = [45, 48] := by decide +kernel
  obtain ⟨z, _⟩ := txt_whole (x := "-0") (by rw [t]; decide) e
  have h := int_namL z (by decide +kernel)
  have h2 : intText? ("-0" : Str) = some 0 := by decide +kernel
  rw [h2] at h
  rw [t, ← Option.some.inj h] at z
  revert z
  decide +kernel
theorem not_0_3 (q : Rat) : txt q ≠ "0/3" := by
  intro e
  have t : ("0/3" : Str) = "0" ++ "/" ++ "3" := by decide +kernel
  rw [t] at e
  have t0 : TL.tl ("0" : Str) = namL 0 := by decide +kernel
  have t3 : TL.tl ("3" : Str) = namL 3 := by decide +kernel
  obtain ⟨z1, z2, _⟩ := txt_cut (by rw [show TL.tl ("0" : Str) = [48] by decide +kernel]; decide) e
  rw [t0] at z1
  rw [t3] at z2
  have e1 := namL_inj z1
  have e2 := namL_inj z2
  have r := q.reduced
  rw [← e1, show q.den = 3 by omega] at r
  revert r
  decide
theorem plain_of {x : Str} (h : (TL.tl x).all (fun c => decide (c < 128)) = true) : Plain x := fun c hc => of_decide_eq_true (List.all_eq_true.mp h c hc)
theorem len_int3 {i : Int} (h : i.natAbs < 2 ^ 210) : (Str.ofString (toString (i * 2))).length ≤ 66 := by
  rw [TL.len_tl, tl_int]
  have z := TL.numL_len (n := (i * 2).natAbs) (k := 65) (by decide) (Nat.lt_of_lt_of_le (show (i * 2).natAbs < 2 ^ 211 by omega) (by decide +kernel))
  unfold namL
  split
  · rw [List.length_cons]
    omega
  · omega
theorem r_nxM {nx : L2.St → Hp → Prop} {rt : VK} {bk ct : L2.St → Hp → Prop} {σ : L2.St} {H : Hp} (h : nx σ H) : (Ends.mk nx rt bk ct).nx σ H := h
/-! ### facts of class methods -/
def fCRead (x : Str) : Fx := fun K => PySem.W.readsIn K (He.ga K x) (.type "type") && decide (PySem.W.specialIn K (.ref (He.ga K x)) "__getattribute__" = some (some (.builtin "type.__getattribute__")))
theorem fCRead_ok {K : PySem.W.Frag} {x : Str} (c : fCRead x K = true) : ClX.CRead K (He.ga K x) (.type "type") := by
  unfold fCRead at c
  obtain ⟨c1, c2⟩ := Bool.and_eq_true_iff.mp c
  exact ⟨c1, of_decide_eq_true c2⟩
def aCm (x m : Str) : PySem.W.Frag → Addr := fun K => He5.wf K (He.ga K x) "classmethod" m
def fCMet (x m : Str) : Fx := fun K => He5.wrapB K (He.ga K x) "classmethod" "classmethod.__get__" m && PySem.W.fnIn K (aCm x m K)
theorem fCMet_ok {K : PySem.W.Frag} {x m : Str} (c : fCMet x m K = true) : ClX.CMet K (He.ga K x) (.type "type") m (He.ma K (He.ga K x) m) (aCm x m K) := by
  unfold fCMet at c
  obtain ⟨c1, c2⟩ := Bool.and_eq_true_iff.mp c
  exact He5.cmet_of c1 c2
/-! ### the head's facts, the statics' table among what is looked at -/
def asZ (g : Addr → Option Obj) (n : Nat) : List Addr := He.asD g n ++ [cStatics]
def obsZG (n : Nat) (B : List Fx) (fn : List DefX) (g : Addr → Option Obj) : He.AlD := obsY B fn (He.frG g (asZ g n))
def hookZ (n : Nat) (B : List Fx) (fn : List DefX) : PySem.W.Hook where
  α := He.AlD
  obs := fun s => obsZG n B fn s.heap.get?
  val := fun _ => valY fn
  says := fun _ h => ∃ K : PySem.W.Frag, K.In h ∧ SaysY B fn K
  of := fun _ _ e => ⟨_, He.frG_in, e⟩
  keeps := by
    rintro _ h h' ⟨K, hK, c⟩ k
    exact ⟨K, hK.keeps k, c⟩
theorem obsZG_eq {n : Nat} {B : List Fx} {fn : List DefX} {g : Addr → Option Obj} {s : Shared} (h : ∀ a, g a = s.heap.get? a) :
    obsZG n B fn g = (hookZ n B fn).obs s := by
  obtain rfl : g = s.heap.get? := funext h
  rfl
end My

set_option Elab.async false
set_option linter.all false
set_option maxRecDepth 100000
set_option maxHeartbeats 8000000
/-! the walk over a reading: every step that asks nothing -/
local macro_rules | `(tactic| walk_at "rd") => `(tactic| (repeat (first
  | ((with_reducible apply My.r_var); exact rfl)
  | with_reducible refine My.r_c ?_
  | with_reducible refine My.r_seq ?_
  | with_reducible refine My.r_asg ?_
  | with_reducible refine My.r_gname ?_
  | with_reducible refine My.r_op ?_
  | with_reducible refine My.r_I0 ?_
  | with_reducible refine My.r_un ?_
  | with_reducible refine My.r_U ?_
  | with_reducible refine My.r_cb ?_
  | with_reducible refine My.r_call ?_
  | with_reducible refine My.r_cons ?_
  | with_reducible refine My.r_nil ?_
  | with_reducible refine My.r_bl ?_
  | with_reducible refine My.r_test ?_
  | with_reducible refine My.r_B ?_
  | with_reducible refine My.r_and ?_
  | with_reducible refine My.r_or ?_
  | with_reducible refine My.r_not ?_
  | with_reducible refine My.r_andV ?_
  | with_reducible refine My.r_orV ?_
  | with_reducible refine My.r_notV ?_
  | with_reducible refine My.r_if ?_
  | with_reducible refine My.r_lst ?_
  | with_reducible refine My.r_tup ?_
  | with_reducible refine My.r_tErr ?_
  | with_reducible refine My.r_tErrF ?_
  | with_reducible refine My.r_tFld ?_
  | with_reducible refine My.r_tPr ?_
  | with_reducible refine My.r_tMk ?_
  | with_reducible refine My.r_tMeth ?_
  | with_reducible refine My.r_tMethW ?_
  | with_reducible refine My.r_tMK ?_
  | with_reducible refine My.r_tCK ?_
  | with_reducible refine My.r_mkO ?_
  | with_reducible refine My.r_yes ?_
  | with_reducible refine My.r_tCMW ?_
  | with_reducible refine My.r_tCMK ?_
  | with_reducible refine My.r_cmR ?_
  | with_reducible refine My.r_tM0 ?_
  | with_reducible refine My.r_tSl ?_
  | with_reducible refine My.r_noPart ?_
  | with_reducible refine My.r_tPart ?_
  | with_reducible refine My.r_ptR ?_
  | with_reducible refine My.r_tM1 ?_
  | with_reducible refine My.r_m1 ?_
  | with_reducible refine My.r_isDec ?_
  | with_reducible refine My.r_tJoin ?_
  | with_reducible refine My.r_js ?_
  | with_reducible refine My.r_js0 ?_
  | with_reducible refine My.r_tFmt ?_
  | with_reducible refine My.r_tTruS ?_
  | with_reducible refine My.r_gCons ?_
  | with_reducible refine My.r_gNil ?_
  | with_reducible refine My.r_tPar ?_
  | with_reducible refine My.r_tMakeK ?_
  | with_reducible refine My.r_tXf ?_
  | with_reducible refine My.r_callS ?_
  | with_reducible refine My.r_tMkW ?_
  | with_reducible refine My.r_par ?_
  | with_reducible refine My.r_ret ?_
  | with_reducible refine My.r_retN ?_
  | with_reducible refine My.r_next ?_
  | with_reducible refine My.r_drop ?_
  | with_reducible refine My.r_ifS ?_
  | with_reducible refine My.r_brk ?_
  | with_reducible refine My.r_cont ?_
  | with_reducible refine My.r_gSub ?_
  | with_reducible refine My.r_int ?_
  | with_reducible refine My.r_abs ?_
  | with_reducible refine My.r_max2 ?_
  | with_reducible refine My.r_min2 ?_
  | ((with_reducible apply My.r_lenL); assumption))))
/-! a fact of a heap, carried along -/
local macro_rules | `(tactic| walk_at "at") => `(tactic| first
  | assumption
  | (refine My.Same.get (by assumption) ?_; walk_at "at"))
/-! a heap keeps what an elder one had -/
local macro_rules | `(tactic| walk_at "same") => `(tactic| first
  | assumption
  | exact L2.Same.refl _
  | (refine L2.Same.trans ?_ (by assumption); walk_at "same"))
local macro_rules | `(tactic| walk_at "go") => `(tactic| ((try dsimp only [L2.cxOf, L2.Cx.nox]); walk_at "rd"))

local macro_rules | `(tactic| walk_at "rx") => `(tactic| ((walk_at "rd"); repeat ((first | with_reducible refine L2.iteF ?_ | with_reducible refine L2.iteT ?_ | with_reducible refine My.iteNT ?_ | with_reducible refine My.iteNF ?_); walk_at "rd")))

namespace K03
open PySem PySem.Spec PyProof.Rows L2 My
def top (i : Nat) : Stmt := PySem.Challenge.pw_fairbatches_k03_texts_of_ratios.main.body.getD i (.Pass ⟨0, 0, 0, 0⟩)
abbrev s_Ratio___init__ : Stmt := inClass (top 8) 0
abbrev N_Ratio___init__ : List Str := ["self", "top", "bottom", "common"]
theorem sc_Ratio___init__ : FnScope N_Ratio___init__ ["self", "top", "bottom"] (defScope s_Ratio___init__) := ⟨rfl, rfl, rfl, by decide +kernel, rfl, by decide +kernel, by decide +kernel⟩
abbrev s_Ratio_read : Stmt := inClass (top 8) 1
abbrev N_Ratio_read : List Str := ["cls", "text", "top", "slash", "bottom", "ratio"]
theorem sc_Ratio_read : FnScope N_Ratio_read ["cls", "text"] (defScope s_Ratio_read) := ⟨rfl, rfl, rfl, by decide +kernel, rfl, by decide +kernel, by decide +kernel⟩
abbrev s_Ratio_top : Stmt := inClass (top 8) 2
abbrev N_Ratio_top : List Str := ["self"]
theorem sc_Ratio_top : FnScope N_Ratio_top ["self"] (defScope s_Ratio_top) := ⟨rfl, rfl, rfl, by decide +kernel, rfl, by decide +kernel, by decide +kernel⟩
abbrev s_Ratio_bottom : Stmt := inClass (top 8) 3
abbrev N_Ratio_bottom : List Str := ["self"]
theorem sc_Ratio_bottom : FnScope N_Ratio_bottom ["self"] (defScope s_Ratio_bottom) := ⟨rfl, rfl, rfl, by decide +kernel, rfl, by decide +kernel, by decide +kernel⟩
abbrev s_Ratio___eq__ : Stmt := inClass (top 8) 8
abbrev N_Ratio___eq__ : List Str := ["self", "other"]
theorem sc_Ratio___eq__ : FnScope N_Ratio___eq__ ["self", "other"] (defScope s_Ratio___eq__) := ⟨rfl, rfl, rfl, by decide +kernel, rfl, by decide +kernel, by decide +kernel⟩
abbrev s_Ratio_text : Stmt := inClass (top 8) 12
abbrev N_Ratio_text : List Str := ["self"]
theorem sc_Ratio_text : FnScope N_Ratio_text ["self"] (defScope s_Ratio_text) := ⟨rfl, rfl, rfl, by decide +kernel, rfl, by decide +kernel, by decide +kernel⟩
abbrev s_is_integer : Stmt := top 9
abbrev N_is_integer : List Str := ["value"]
theorem sc_is_integer : FnScope N_is_integer ["value"] (defScope s_is_integer) := ⟨rfl, rfl, rfl, by decide +kernel, rfl, by decide +kernel, by decide +kernel⟩
abbrev s__law_cell : Stmt := top 12
abbrev N__law_cell : List Str := ["_law_script", "_law_k"]
theorem sc__law_cell : FnScope N__law_cell ["_law_script", "_law_k"] (defScope s__law_cell) := ⟨rfl, rfl, rfl, by decide +kernel, rfl, by decide +kernel, by decide +kernel⟩
abbrev s__law_box : Stmt := top 13
abbrev N__law_box : List Str := ["_law_script", "_law_k"]
theorem sc__law_box : FnScope N__law_box ["_law_script", "_law_k"] (defScope s__law_box) := ⟨rfl, rfl, rfl, by decide +kernel, rfl, by decide +kernel, by decide +kernel⟩
abbrev s__law_take : Stmt := top 14
abbrev N__law_take : List Str := ["_law_box_here", "_law_many", "_law_digit", "_law_mixed"]
theorem sc__law_take : FnScope N__law_take ["_law_box_here", "_law_many"] (defScope s__law_take) := ⟨rfl, rfl, rfl, by decide +kernel, rfl, by decide +kernel, by decide +kernel⟩
abbrev s__law_frac : Stmt := top 15
abbrev N__law_frac : List Str := ["_law_up", "_law_down", "_law_one", "_law_other"]
theorem sc__law_frac : FnScope N__law_frac ["_law_up", "_law_down"] (defScope s__law_frac) := ⟨rfl, rfl, rfl, by decide +kernel, rfl, by decide +kernel, by decide +kernel⟩
abbrev s__law_whole : Stmt := top 16
abbrev N__law_whole : List Str := ["_law_word", "_law_digits", "_law_char"]
theorem sc__law_whole : FnScope N__law_whole ["_law_word"] (defScope s__law_whole) := ⟨rfl, rfl, rfl, by decide +kernel, rfl, by decide +kernel, by decide +kernel⟩
abbrev s__law_due : Stmt := top 17
abbrev N__law_due : List Str := ["_law_phrase", "_law_words", "_law_word"]
theorem sc__law_due : FnScope N__law_due ["_law_phrase"] (defScope s__law_due) := ⟨rfl, rfl, rfl, by decide +kernel, rfl, by decide +kernel, by decide +kernel⟩
abbrev s__law_read : Stmt := top 18
abbrev N__law_read : List Str := ["_law_phrase", "_law_amount"]
theorem sc__law_read : FnScope N__law_read ["_law_phrase"] (defScope s__law_read) := ⟨rfl, rfl, rfl, by decide +kernel, rfl, by decide +kernel, by decide +kernel⟩
abbrev s_law : Stmt := top 19
abbrev N_law : List Str := ["_law_script", "_law_k", "_law_box_here", "_law_wide", "_law_x", "_law_phrase", "_law_turn", "_law_at", "_law_part", "_law_near", "_law_factor", "_law_other"]
theorem sc_law : FnScope N_law ["_law_script"] (defScope s_law) := ⟨rfl, rfl, rfl, by decide +kernel, rfl, by decide +kernel, by decide +kernel⟩
structure Dt (P : Program) (w : World) (K : PySem.W.Frag) (mg : Str → Option Value) (base : Heap) where
  free_len : mg "len" = none
  free_abs : mg "abs" = none
  free_int : mg "int" = none
  free_str : mg "str" = none
  free_bool : mg "bool" = none
  free_range : mg "range" = none
  free_max : mg "max" = none
  free_min : mg "min" = none
  free_isinstance : mg "isinstance" = none
  gcd : mg "gcd" = some (.builtin "math.gcd")
  Ratio : RatC K mg
  ne : PySem.W.findIn K (.ref Ratio.C) "__ne__" = some (some (.builtin "object.__ne__"))
  ByZero : CalP K mg "ByZero"
  BadText : CalP K mg "BadText"
  exT : PySem.W.exmOne K (.ref BadText.C) (.ref BadText.C) = some true
  cread : ClX.CRead K Ratio.C (.type "type")

section
variable {P : Program} {w : World} {K : PySem.W.Frag} {mg : Str → Option Value} {base : Heap}
abbrev FnM (K : PySem.W.Frag) (x qual : Str) (st : Stmt) (dvs : List V) (f : Addr) (fd : FuncData) : Prop := FunD K x qual (defArgs st) (defBody st) (defScope st) dvs [] f fd
theorem ok_init (D : Dt P w K mg base) {f : Addr} {fd : FuncData} (F : FnM K "__init__" "Ratio.__init__" s_Ratio___init__ [.int 1] f fd) :
    FnOk P w K mg base (L2.CX P w) 1 f fd ["self", "top", "bottom"] (spIni D.Ratio.C D.ByZero.C) := by
  refine F.ok sc_Ratio___init__ ?_ ?_
  · rintro vs H Q E ⟨a, dx, t, b, rfl, _⟩
    rfl
  · rintro cdv A outer s H vs Q E hr ⟨a, dx, t, b, rfl, ha, ht, hb, k1, k0⟩
    refine ⟨_, (pss_cons (ps_if (pt_cmpR op_eq (pv 2) pe_int (nomark _)) (pss_one (ps_raise rfl (takes_of rfl rfl rfl rfl) (pmk_P0 D.ByZero))) pss_nil)
      (pss_cons (ps_set (i := 3) sc_Ratio___init__.nd rfl (Or.inl rfl) (pe_callBfun cr_gcd (by rfl) D.gcd (pa_cons (pv 1) (pa_cons (pv 2) pa_nil))))
      (pss_cons (ps_if (pt_cmpR op_lt (pv 2) pe_int (nomark _)) (pss_one (ps_set (i := 3) sc_Ratio___init__.nd rfl (Or.inl rfl) (pe_un un_neg (pv 3)))) pss_nil)
      (pss_cons (ps_fld (pv 0) (pe_op op_fdivZ (pv 1) (pv 3)) rfl)
      (pss_one (ps_fld (pv 0) (pe_op op_fdivZ (pv 2) (pv 3)) rfl)))))), ?_⟩
    walk_at "go"
    refine r_eq rfl ?_
    walk_at "rd"
    rw [dInt]
    by_cases h : b = 0
    · rw [decide_eq_true h]
      exact iteT (k0 h)
    rw [decide_eq_false h]
    refine iteF ?_
    walk_at "rd"
    refine ⟨t, b, rfl, ?_⟩
    walk_at "rd"
    have key : ∀ σ : L2.St, σ[0]? = some (some (V.ref a)) → σ[1]? = some (some (V.int t)) → σ[2]? = some (some (V.int b)) → σ[3]? = some (some (V.int (sgcd t b))) →
        tSeq (sFld K (tVar 0) (tOp rDivZ (tVar 1) (tVar 3)) "_top") (sFld K (tVar 0) (tOp rDivZ (tVar 2) (tVar 3)) "_bottom") { nx := fun x H' => Q V.non H', rt := Q } σ H := by
      intro σ h0 h1 h2 h3
      refine r_seq (r_sFld (r_op (r_var h1 (r_var h3 (r_DivZ (divZ_sgcd hb h) (r_var h0 (r_sFd ha D.Ratio.R.T.cl D.Ratio.R.top (Nat.le_of_ble_eq_true rfl) ?_)))))))
      refine r_sFld (r_op (r_var h2 (r_var h3 (r_DivZ (divZ_sgcd hb h) (r_var h0 (r_sFd upd_same D.Ratio.R.T.cl D.Ratio.R.bot (Nat.le_of_ble_eq_true rfl) ?_))))))
      rw [num_mk h, den_mk h]
      refine k1 h _ (SameX.upd.trans SameX.upd) ⟨dx, ?_⟩
      rw [upd_same]
      rfl
    refine ifB (fun hk => ?_) (fun hk => ?_)
    · rw [decide_eq_true_eq] at hk
      have e : -((Nat.gcd t.natAbs b.natAbs : Nat) : Int) = sgcd t b := by
        unfold sgcd
        rw [if_pos hk]
      walk_at "rd"
      refine key _ rfl rfl rfl ?_
      rw [← e]
      rfl
    · rw [decide_eq_false_iff_not] at hk
      have e : ((Nat.gcd t.natAbs b.natAbs : Nat) : Int) = sgcd t b := by
        unfold sgcd
        rw [if_neg hk]
      walk_at "rd"
      refine key _ rfl rfl rfl ?_
      rw [← e]
      rfl
theorem ok_top (D : Dt P w K mg base) {f : Addr} {fd : FuncData} (F : FnM K "top" "Ratio.top" s_Ratio_top [] f fd) :
    FnOk P w K mg base CX0 1 f fd ["self"] (getSp D.Ratio.C "_top") := by
  refine F.ok sc_Ratio_top ?_ ?_
  · rintro vs H Q E ⟨a, dx, fs, v, rfl, _⟩
    rfl
  · rintro cdv A outer s H vs Q E hr ⟨a, dx, fs, v, rfl, ha, hl, kq⟩
    refine ⟨_, PSs.nox (pss_one (ps_ret (pe_fldA K rfl (pv 0)))), ?_⟩
    walk_at "go"
    exact r_fld ha D.Ratio.R.T.cl D.Ratio.R.top hl kq
theorem ok_bottom (D : Dt P w K mg base) {f : Addr} {fd : FuncData} (F : FnM K "bottom" "Ratio.bottom" s_Ratio_bottom [] f fd) :
    FnOk P w K mg base CX0 1 f fd ["self"] (getSp D.Ratio.C "_bottom") := by
  refine F.ok sc_Ratio_bottom ?_ ?_
  · rintro vs H Q E ⟨a, dx, fs, v, rfl, _⟩
    rfl
  · rintro cdv A outer s H vs Q E hr ⟨a, dx, fs, v, rfl, ha, hl, kq⟩
    refine ⟨_, PSs.nox (pss_one (ps_ret (pe_fldA K rfl (pv 0)))), ?_⟩
    walk_at "go"
    exact r_fld ha D.Ratio.R.T.cl D.Ratio.R.bot hl kq
theorem ok_is_integer (D : Dt P w K mg base) {f : Addr} {fd : FuncData} (F : FnP K "is_integer" s_is_integer f fd) :
    FnOk P w K mg base CX0 1 f fd ["value"] (spIsI K) := by
  refine F.ok sc_is_integer ?_ ?_
  · rintro vs H Q E ⟨v, t, b1, b2, rfl, _⟩
    rfl
  · rintro cdv A outer s H vs Q E hr ⟨v, t, b1, b2, rfl, ht, e1, e2, kq⟩
    refine ⟨_, PSs.nox (pss_one (ps_ret (pe_and (pe_callB (isiA K rfl) (by rfl) D.free_isinstance (by decide +kernel) (pa_cons (pv 0) (pa_cons (pe_bltn (v := .ty "int") (by rfl) D.free_int (by decide +kernel) rfl) pa_nil))) (pe_one (pe_not (pe_callB (isiA K rfl) (by rfl) D.free_isinstance (by decide +kernel) (pa_cons (pv 0) (pa_cons (pe_bltn (v := .ty "bool") (by rfl) D.free_bool (by decide +kernel) rfl) pa_nil)))))))), ?_⟩
    walk_at "go"
    refine r_isiT ht e1 ?_
    walk_at "rd"
    cases b1 with
    | true =>
      refine iteT ?_
      walk_at "rd"
      refine r_isiT ht e2 ?_
      walk_at "rd"
      exact kq
    | false => exact iteF kq
theorem ok_eq (D : Dt P w K mg base) (c_top : CalV P w K mg base D.Ratio.C "top" "_top") (c_bottom : CalV P w K mg base D.Ratio.C "bottom" "_bottom")
    (c_is_integer : Cal P w K mg base CX0 1 "is_integer" ["value"] (spIsI K)) {f : Addr} {fd : FuncData} (F : FnM K "__eq__" "Ratio.__eq__" s_Ratio___eq__ [] f fd) :
    FnOk P w K mg base CX0 3 f fd ["self", "other"] (spEqR K D.Ratio.C) := by
  refine F.ok sc_Ratio___eq__ ?_ ?_
  · rintro vs H Q E ⟨a, v, p, rfl, _⟩
    rfl
  · rintro cdv A outer s H vs Q E hr ⟨a, v, p, rfl, ha, h⟩
    refine ⟨_, PSs.nox (pss_cons (ps_if (pt_val (pe_callB (isiA K rfl) (by rfl) D.free_isinstance (by decide +kernel) (pa_cons (pv 1) (pa_cons (pe_glob (v := .ref D.Ratio.C) rfl D.Ratio.gC rfl) pa_nil)))) (pss_one (ps_ret (pe_and (pe_cmpR op_eq (pe_fldA K rfl (pv 0)) (pe_get c_top D.Ratio.R.T.cl (hr.mono (by decide)) (pv 1)) (nomark _)) (pe_one (pe_cmpR op_eq (pe_fldA K rfl (pv 0)) (pe_get c_bottom D.Ratio.R.T.cl (hr.mono (by decide)) (pv 1)) (nomark _)))))) pss_nil)
      (pss_one (ps_ret (pe_and (pe_cal c_is_integer (hr.mono (by decide)) pass0 (pa_cons (pv 1) pa_nil)) (pe_and (pe_cmpR op_eq (pe_fldA K rfl (pv 0)) pe_int (nomark _)) (pe_one (pe_cmpR op_eq (pe_fldA K rfl (pv 0)) (pv 1) (nomark _)))))))), ?_⟩
    walk_at "go"
    rcases h with ⟨q, ⟨b, rfl, hb⟩ | ⟨i, rfl, rfl⟩, kq⟩ | ⟨hn, kq⟩
    · have kq := kq H (Same.refl _)
      refine r_isR D.Ratio.R hb ?_
      walk_at "rd"
      refine iteT ?_
      walk_at "rd"
      refine r_sTop D.Ratio.R ha ?_
      walk_at "rd"
      refine r_top hb ?_
      walk_at "rd"
      refine r_eq rfl ?_
      walk_at "rd"
      rw [dInt]
      by_cases e : p.num = q.num
      · rw [decide_eq_true e]
        refine iteT ?_
        walk_at "rd"
        refine r_sBot D.Ratio.R ha ?_
        walk_at "rd"
        refine r_bot hb ?_
        walk_at "rd"
        refine r_eq rfl ?_
        walk_at "rd"
        rw [dInt]
        have z : decide ((p.den : Int) = (q.den : Int)) = decide (p = q) := by
          by_cases e2 : (p.den : Int) = (q.den : Int)
          · rw [decide_eq_true e2, decide_eq_true (Rat.ext e (by omega))]
          · rw [decide_eq_false e2, decide_eq_false (fun z => e2 (by rw [z]))]
        rw [z]
        exact kq
      · rw [decide_eq_false e]
        refine iteF ?_
        rw [decide_eq_false (fun z => e (by rw [z]))] at kq
        exact kq
    · have kq := kq H (Same.refl _)
      refine r_isRi D.Ratio.R ?_
      walk_at "rd"
      refine iteF ?_
      walk_at "rd"
      refine isI_int ?_
      walk_at "rd"
      refine iteT ?_
      walk_at "rd"
      refine r_sBot D.Ratio.R ha ?_
      walk_at "rd"
      refine r_eq rfl ?_
      walk_at "rd"
      rw [dInt]
      by_cases e : (p.den : Int) = 1
      · rw [decide_eq_true e]
        refine iteT ?_
        walk_at "rd"
        refine r_sTop D.Ratio.R ha ?_
        walk_at "rd"
        refine r_eq rfl ?_
        walk_at "rd"
        rw [dInt]
        have z : decide (p.num = i) = decide (p = (i : Rat)) := by
          by_cases e2 : p.num = i
          · rw [decide_eq_true e2, decide_eq_true (Rat.ext (by rw [Rat.num_intCast]; exact e2) (by rw [Rat.den_intCast]; omega))]
          · rw [decide_eq_false e2, decide_eq_false (fun z => e2 (by rw [z, Rat.num_intCast]))]
        rw [z]
        exact kq
      · rw [decide_eq_false e]
        refine iteF ?_
        rw [decide_eq_false (fun z => e (by rw [z, Rat.den_intCast]; rfl))] at kq
        exact kq
    · have kq := kq H (Same.refl _)
      refine r_isRN hn ?_
      walk_at "rd"
      refine iteF ?_
      walk_at "rd"
      refine isI_no hn ?_
      walk_at "rd"
      exact iteF kq

theorem ok_law_cell (D : Dt P w K mg base) {f : Addr} {fd : FuncData} (F : FnP K "_law_cell" s__law_cell f fd) :
    FnOk P w K mg base CX0 1 f fd ["_law_script", "_law_k"] (spCel K) := by
  refine F.ok sc__law_cell ?_ ?_
  · rintro vs H Q E ⟨a, ns, k, rfl, _⟩
    rfl
  · rintro cdv A outer s H vs Q E hr ⟨a, ns, k, rfl, hS, hl, h0, h63, kq⟩
    refine ⟨_, PSs.nox (pss_one (ps_ret (pe_ifExp (pt_cmpR op_lt (pv 1) (pe_callB (lenA K rfl) (by rfl) D.free_len (by decide +kernel) (pa_cons (pv 0) pa_nil)) (nomark _)) (pe_ix (ixLA K rfl) (pv 0) (pv 1) (fun _ _ => rfl)) pe_int))), ?_⟩
    walk_at "go"
    refine ite2 (fun hk => ?_) (fun hk => ?_)
    · walk_at "rd"
      rw [List.length_map, decide_eq_true_eq] at hk
      obtain ⟨j, rfl⟩ := Int.eq_ofNat_of_zero_le h0
      have hj : j < ns.length := by omega
      refine r_ixL hS (v := .int ns[j]) (atI_nat ?_) (kq _)
      rw [List.getElem?_map, List.getElem?_eq_getElem hj]
      rfl
    · walk_at "rd"
      exact kq _
theorem ok_law_box (D : Dt P w K mg base) (c_law_cell : Cal P w K mg base CX0 1 "_law_cell" ["_law_script", "_law_k"] (spCel K)) {f : Addr} {fd : FuncData}
    (F : FnP K "_law_box" s__law_box f fd) : FnOk P w K mg base CX0 2 f fd ["_law_script", "_law_k"] (spBx K) := by
  refine F.ok sc__law_box ?_ ?_
  · rintro vs H Q E ⟨a, ns, k, rfl, _⟩
    rfl
  · rintro cdv A outer s H vs Q E hr ⟨a, ns, k, rfl, hS, hl, h0, h63, kq⟩
    refine ⟨_, PSs.nox (pss_one (ps_ret (pe_lst (pa_cons (pe_callB cl_abs (by rfl) D.free_abs (by decide +kernel) (pa_cons (pe_callTy cl_int (by rfl) D.free_int (by decide +kernel) (pa_cons (pe_cal c_law_cell (hr.mono (by decide)) pass0 (pa_cons (pv 0) (pa_cons (pv 1) pa_nil))) pa_nil)) pa_nil)) (pa_cons pe_int (pa_cons (pe_op op_add (pe_op op_mulw pe_int (pv 1)) pe_int) pa_nil)))))), ?_⟩
    walk_at "go"
    refine ⟨a, ns, k, rfl, hS, hl, h0, h63, fun z => ?_⟩
    walk_at "rd"
    refine r_MulW (wide_mul (a := 100) (b := 100) (by decide) (by omega) (by decide) (by decide) (by decide)) ?_
    walk_at "rd"
    refine r_newL (Nat.le_of_ble_eq_true rfl) (fun p H' hp s h => kq p H' hp s ⟨_, _, _, h, ?_, Int.le_refl 0, Int.le_refl 0, by omega, by omega⟩)
    split <;> omega
theorem ok_law_take (D : Dt P w K mg base) {f : Addr} {fd : FuncData} (F : FnP K "_law_take" s__law_take f fd) :
    FnOk P w K mg base CX0 1 f fd ["_law_box_here", "_law_many"] spTk := by
  refine F.ok sc__law_take ?_ ?_
  · rintro vs H Q E ⟨b, m, c, rfl, _⟩
    rfl
  · rintro cdv A outer s H vs Q E hr ⟨b, m, c, rfl, ⟨x, y, z, hb, hx, hy0, hy, hz0, hz⟩, hc, hm, hm2, kq⟩
    refine ⟨_, PSs.nox (pss_cons (ps_if (pt_cmpR op_ge (pe_ix (ixLA K rfl) (pv 0) pe_int (fun _ _ => rfl)) (pe_op op_powW pe_int pe_int) (nomark _)) (pss_cons (ps_set (i := 2) sc__law_take.nd rfl (Or.inl rfl) (pe_op op_modP (pe_callTy cl_int (by rfl) D.free_int (by decide +kernel) (pa_cons (pe_ix (ixLA K rfl) (pv 0) pe_int (fun _ _ => rfl)) pa_nil)) (pv 1)))
      (pss_cons (ps_asg (pe_op op_divW (pe_ix (ixLA K rfl) (pv 0) pe_int (fun _ _ => rfl)) (pv 1)) (pg_sub (pv 0) pe_int set_list))
      (pss_one (ps_ret (pv 2))))) pss_nil)
      (pss_cons (ps_asg (pe_op op_add (pe_ix (ixLA K rfl) (pv 0) pe_int (fun _ _ => rfl)) pe_int) (pg_sub (pv 0) pe_int set_list))
      (pss_cons (ps_set (i := 3) sc__law_take.nd rfl (Or.inl rfl) (pe_op op_modP (pe_op op_powW (pe_callTy cl_int (by rfl) D.free_int (by decide +kernel) (pa_cons (pe_op op_add (pe_op op_add (pe_op op_mulw (pe_op op_add (pe_ix (ixLA K rfl) (pv 0) pe_int (fun _ _ => rfl)) pe_int) pe_int) (pe_op op_mulw (pe_ix (ixLA K rfl) (pv 0) pe_int (fun _ _ => rfl)) pe_int)) (pe_ix (ixLA K rfl) (pv 0) pe_int (fun _ _ => rfl))) pa_nil)) pe_int) pe_int))
      (pss_cons (ps_set (i := 3) sc__law_take.nd rfl (Or.inl rfl) (pe_op op_modP (pe_op op_powW (pe_callTy cl_int (by rfl) D.free_int (by decide +kernel) (pa_cons (pe_op op_add (pv 3) (pe_op op_mulw (pe_ix (ixLA K rfl) (pv 0) pe_int (fun _ _ => rfl)) pe_int)) pa_nil)) pe_int) pe_int))
      (pss_one (ps_ret (pe_op op_modP (pe_callTy cl_int (by rfl) D.free_int (by decide +kernel) (pa_cons (pe_op op_divW (pv 3) pe_int) pa_nil)) (pv 1)))))))), ?_⟩
    have hb0 := hb
    have e18 : (10 : Int) ^ Int.toNat 18 = 1000000000000000000 := by decide
    walk_at "go"
    refine r_ixL (.of hb) (v := .int x) rfl ?_
    walk_at "rd"
    refine r_PowW (powW (by decide) (by decide) (by decide)) ?_
    walk_at "rd"
    rw [e18]
    refine ite2 (fun hk => ?_) (fun hk => ?_)
    · walk_at "rd"
      refine r_ixL (.of hb) (v := .int x) rfl ?_
      walk_at "rd"
      refine r_Mod hm ?_
      walk_at "rd"
      refine r_ixL (.of hb) (v := .int x) rfl ?_
      walk_at "rd"
      refine r_DivW (wide_div hm hm2 (by decide) (by decide)) ?_
      walk_at "rd"
      refine r_setL hb (j := 0) rfl ?_
      walk_at "rd"
      refine kq _ _ (Int.emod_nonneg _ (by omega)) (Int.emod_lt_of_pos _ hm) SameX.upd ⟨_, _, _, upd_same, Int.ediv_nonneg hx (by omega), hy0, by omega, hz0, hz⟩
    · rw [decide_eq_true_eq] at hk
      walk_at "rd"
      refine r_ixL (.of hb) (v := .int y) rfl ?_
      walk_at "rd"
      refine r_setL hb (j := 1) rfl ?_
      have hb2 : (upd H b (.lst [.int x, .int (y + 1), .int z])) b = some (.lst [.int x, .int (y + 1), .int z]) := upd_same
      show _
      walk_at "rd"
      refine r_ixL (.of hb2) (v := .int x) rfl ?_
      walk_at "rd"
      refine r_MulW (wide_mul (a := 100) (b := 100) (by omega) (by decide) (by decide) (by decide) (by decide)) ?_
      walk_at "rd"
      refine r_ixL (.of hb2) (v := .int (y + 1)) rfl ?_
      walk_at "rd"
      refine r_MulW (wide_mul (a := 100) (b := 100) (by omega) (by decide) (by decide) (by decide) (by decide)) ?_
      walk_at "rd"
      refine r_ixL (.of hb2) (v := .int z) rfl ?_
      walk_at "rd"
      refine r_PowW (powW (Nat.lt_of_lt_of_le (by omega) (by decide : (2 : Nat) ^ 100 ≤ 2 ^ 4000)) (by decide) (by decide)) ?_
      walk_at "rd"
      refine r_Mod (by decide) ?_
      generalize hq : ((((x + 7) * 69069 + (y + 1) * 40692 + z) ^ Int.toNat 3) % 2147483647) = q
      have q0 : 0 ≤ q := by
        rw [← hq]
        exact Int.emod_nonneg _ (by decide)
      have q1 : q < 2147483647 := by
        rw [← hq]
        exact Int.emod_lt_of_pos _ (by decide)
      walk_at "rd"
      refine r_ixL (.of hb2) (v := .int (y + 1)) rfl ?_
      walk_at "rd"
      refine r_MulW (wide_mul (a := 100) (b := 100) (by omega) (by decide) (by decide) (by decide) (by decide)) ?_
      walk_at "rd"
      refine r_PowW (powW (Nat.lt_of_lt_of_le (by omega) (by decide : (2 : Nat) ^ 100 ≤ 2 ^ 4000)) (by decide) (by decide)) ?_
      walk_at "rd"
      refine r_Mod (by decide) ?_
      walk_at "rd"
      refine r_DivW (wide_div (b := 100) (by decide) (by decide) (by decide) (by decide)) ?_
      walk_at "rd"
      refine r_Mod hm ?_
      exact kq _ _ (Int.emod_nonneg _ (by omega)) (Int.emod_lt_of_pos _ hm) SameX.upd ⟨_, _, _, upd_same, hx, by omega, by omega, hz0, hz⟩

theorem ok_law_frac (D : Dt P w K mg base) {f : Addr} {fd : FuncData} (F : FnP K "_law_frac" s__law_frac f fd) :
    FnOk P w K mg base CX0 1 f fd ["_law_up", "_law_down"] spFr := by
  refine F.ok sc__law_frac ?_ ?_
  · rintro vs H Q E ⟨t, b, rfl, _⟩
    rfl
  · rintro cdv A outer s H vs Q E hr ⟨t, b, rfl, h0, ht, hb, kq⟩
    refine ⟨_, PSs.nox (pss_cons (ps_par (i := 2) (j := 3) (by rfl) sc__law_frac.nd rfl rfl (by decide) rfl rfl (pa_cons (pe_callB cl_abs (by rfl) D.free_abs (by decide +kernel) (pa_cons (pv 0) pa_nil)) (pa_cons (pe_callB cl_abs (by rfl) D.free_abs (by decide +kernel) (pa_cons (pv 1) pa_nil)) pa_nil)) (by rfl))
      (pss_cons (ps_while PassesOwn.never (pt_cmpR op_gt (pv 3) pe_int (nomark _))
      (pss_one (ps_par (i := 2) (j := 3) (by rfl) sc__law_frac.nd rfl rfl (by decide) rfl rfl (pa_cons (pv 3) (pa_cons (pe_op op_modP (pv 2) (pv 3)) pa_nil)) (by rfl))))
      (pss_cons (ps_if (pt_cmpR op_lt (pv 1) pe_int (nomark _)) (pss_one (ps_set (i := 2) sc__law_frac.nd rfl (Or.inl rfl) (pe_op op_sub pe_int (pv 2)))) pss_nil)
      (pss_one (ps_ret (pe_tup (pa_cons (pe_op op_fdivZ (pv 0) (pv 2)) (pa_cons (pe_op op_fdivZ (pv 1) (pv 2)) pa_nil)))))))), ?_⟩
    have ea : ∀ i : Int, (if i < 0 then -i else i) = (i.natAbs : Int) := by
      intro i
      split <;> omega
    walk_at "go"
    rw [ea, ea]
    refine r_while (fun σ H' => H' = H ∧ ∃ i j : Nat, σ = [some (.int t), some (.int b), some (.int (i : Int)), some (.int (j : Int))] ∧ Nat.gcd i j = Nat.gcd t.natAbs b.natAbs ∧ i < 2 ^ 8000 ∧ j < 2 ^ 8000)
      (fun σ _ => match σ with
        | [_, _, _, some (.int j)] => j.toNat
        | _ => 0) ⟨rfl, t.natAbs, b.natAbs, rfl, rfl, ht, hb⟩ ?_
    rintro σ H' ⟨rfl, i, j, rfl, hg, hi, hj⟩
    walk_at "rd"
    refine ifB (fun hk => ?_) (fun hk => ?_)
    · rw [decide_eq_true_eq] at hk
      have hj0 : 0 < j := by omega
      refine r_whB ?_
      walk_at "rd"
      refine r_Mod hk ?_
      walk_at "rd"
      refine ⟨⟨rfl, j, i % j, rfl, by rw [gcd_step hj0]; exact hg, hj, Nat.lt_trans (Nat.mod_lt _ hj0) hj⟩, ?_⟩
      show ((i : Int) % (j : Int)).toNat < ((j : Int)).toNat
      have := Nat.mod_lt i hj0
      omega
    · rw [decide_eq_false_iff_not] at hk
      have hj0 : j = 0 := by omega
      subst hj0
      rw [Nat.gcd_zero_right] at hg
      subst hg
      walk_at "rd"
      refine ifB (fun hn => ?_) (fun hn => ?_)
      · rw [decide_eq_true_eq] at hn
        have e : (0 : Int) - ((Nat.gcd t.natAbs b.natAbs : Nat) : Int) = sgcd t b := by
          unfold sgcd
          rw [if_pos hn, Int.zero_sub]
        walk_at "rd"
        rw [e]
        refine r_DivZ (divZ_sgcd hb h0) ?_
        walk_at "rd"
        refine r_DivZ (divZ_sgcd hb h0) ?_
        walk_at "rd"
        rw [num_mk h0, den_mk h0]
        exact r_newT (Nat.le_of_ble_eq_true rfl) (fun p H2 n s h => kq p H2 n s h)
      · rw [decide_eq_false_iff_not] at hn
        have e : ((Nat.gcd t.natAbs b.natAbs : Nat) : Int) = sgcd t b := by
          unfold sgcd
          rw [if_neg hn]
        walk_at "rd"
        rw [e]
        refine r_DivZ (divZ_sgcd hb h0) ?_
        walk_at "rd"
        refine r_DivZ (divZ_sgcd hb h0) ?_
        walk_at "rd"
        rw [num_mk h0, den_mk h0]
        exact r_newT (Nat.le_of_ble_eq_true rfl) (fun p H2 n s h => kq p H2 n s h)

theorem ok_text (D : Dt P w K mg base) {f : Addr} {fd : FuncData} (F : FnM K "text" "Ratio.text" s_Ratio_text [] f fd) :
    FnOk P w K mg base CX0 1 f fd ["self"] (spTxt D.Ratio.C) := by
  refine F.ok sc_Ratio_text ?_ ?_
  · rintro vs H Q E ⟨a, q, rfl, _⟩
    rfl
  · rintro cdv A outer s H vs Q E hr ⟨a, q, rfl, ha, zq, kq⟩
    refine ⟨_, PSs.nox (pss_cons (ps_if (pt_cmpR op_eq (pe_fldA K rfl (pv 0)) pe_int (nomark _)) (pss_one (ps_ret (pe_callTy cl_str (by rfl) D.free_str (by decide +kernel) (pa_cons (pe_fldA K rfl (pv 0)) pa_nil)))) pss_nil)
      (pss_one (ps_ret (pe_join (PJ.cons (pe_fmt (pe_fldA K rfl (pv 0))) (PJ.cons pe_str (PJ.cons (pe_fmt (pe_fldA K rfl (pv 0))) PJ.nil))))))), ?_⟩
    have l1 := len_int zq.1
    have l2 := len_int zq.den'
    walk_at "go"
    refine r_sBot D.Ratio.R ha ?_
    walk_at "rd"
    refine r_eqI ?_
    walk_at "rd"
    by_cases h : (q.den : Int) = 1
    · rw [decide_eq_true h]
      refine iteT ?_
      walk_at "rd"
      refine r_sTop D.Ratio.R ha ?_
      walk_at "rd"
      refine r_str (log_int zq.1) ?_
      have kq := kq H (Same.refl _)
      unfold txt at kq
      rw [if_pos (by omega)] at kq
      exact kq
    · rw [decide_eq_false h]
      refine iteF ?_
      walk_at "rd"
      refine r_sTop D.Ratio.R ha ?_
      refine r_fmI (log_int zq.1) ?_
      refine r_jsR ?_ ?_
      · show (Str.empty ++ Str.ofString (toString q.num)).length ≤ 100000
        rw [TL.len_tl, TL.tl_append, List.length_append, ← TL.len_tl, ← TL.len_tl]
        exact Nat.le_trans (Nat.add_le_add_left l1 _) (by decide)
      walk_at "rd"
      refine r_jsR ?_ ?_
      · show (Str.empty ++ Str.ofString (toString q.num) ++ ("/" : Str)).length ≤ 100000
        rw [TL.len_tl, TL.tl_append, TL.tl_append, List.length_append, List.length_append, ← TL.len_tl, ← TL.len_tl, ← TL.len_tl]
        exact Nat.le_trans (Nat.add_le_add_right (Nat.add_le_add_left l1 _) _) (by decide +kernel)
      walk_at "rd"
      refine r_sBot D.Ratio.R ha ?_
      refine r_fmI (log_int zq.den') ?_
      have e := txt_join q (by omega)
      refine r_jsR ?_ ?_
      · show (Str.empty ++ Str.ofString (toString q.num) ++ ("/" : Str) ++ Str.ofString (toString (q.den : Int))).length ≤ 100000
        rw [TL.len_tl, TL.tl_append, TL.tl_append, TL.tl_append, List.length_append, List.length_append, List.length_append, ← TL.len_tl, ← TL.len_tl, ← TL.len_tl, ← TL.len_tl]
        exact Nat.le_trans (Nat.add_le_add (Nat.add_le_add_right (Nat.add_le_add_left l1 _) _) l2) (by decide +kernel)
      walk_at "rd"
      have kq := kq H (Same.refl _)
      rw [← e] at kq
      exact kq
theorem ok_read (D : Dt P w K mg base) (c_mk : MkC P w K mg base D.Ratio.C D.ByZero.C) (c_text : CalM P w K mg base D.Ratio.C CX0 1 "text" ["self"] (spTxt D.Ratio.C)) {f : Addr} {fd : FuncData}
    (F : FnM K "read" "Ratio.read" s_Ratio_read [] f fd) : FnOk P w K mg base (L2.CX P w) 3 f fd ["cls", "text"] (spRead D.Ratio.C D.BadText.C) := by
  refine F.ok sc_Ratio_read ?_ ?_
  · rintro vs H Q E ⟨x, rfl, _⟩
    rfl
  · rintro cdv A outer s H vs Q E hr ⟨x, rfl, hp, hl, kq, kE⟩
    refine ⟨_, (pss_cons (ps_asg (pe_part (pv 1) pe_str) (pg_tup (by rfl) (pgs_cons (pg_name (i := 2) sc_Ratio_read.nd rfl (Or.inl rfl)) (pgs_cons (pg_name (i := 3) sc_Ratio_read.nd rfl (Or.inl rfl)) (pgs_cons (pg_name (i := 4) sc_Ratio_read.nd rfl (Or.inl rfl)) pgs_nil)))))
      (pss_cons (ps_if (pt_not (pt_truS K rfl (pv 3) (by intro _; rfl))) (pss_one (ps_set (i := 4) sc_Ratio_read.nd rfl (Or.inl rfl) pe_str)) pss_nil)
      (pss_cons (ps_if (pt_not (PW.pt (pw_and (pt_val (pe_isdec (pe_remP (pv 2) pe_str))) (pw_and1 (pt_val (pe_isdec (pv 4))))))) (pss_one (ps_raise rfl (takes_of rfl rfl rfl rfl) (pmk_P0 D.BadText))) pss_nil)
      (pss_cons (ps_if (pt_cmpR op_eq (pe_callTy cl_intS (by rfl) D.free_int (by decide +kernel) (pa_cons (pv 4) pa_nil)) pe_int (nomark _)) (pss_one (ps_raise rfl (takes_of rfl rfl rfl rfl) (pmk_P0 D.BadText))) pss_nil)
      (pss_cons (ps_set (i := 5) sc_Ratio_read.nd rfl (Or.inl rfl) (pe_mkV (i := 0) c_mk (hr.mono (by decide)) passL rfl (Or.inl rfl) (pa_cons (pe_callTy cl_intS (by rfl) D.free_int (by decide +kernel) (pa_cons (pv 2) pa_nil)) (pa_cons (pe_callTy cl_intS (by rfl) D.free_int (by decide +kernel) (pa_cons (pv 4) pa_nil)) pa_nil))))
      (pss_cons (ps_if (pt_cmpR op_ne (pe_meth0 (pv 5) D.Ratio.R.T.cl c_text.me c_text.ok (hr.mono (by decide)) c_text.b .nil pass0) (pv 1) (nomark _)) (pss_one (ps_raise rfl (takes_of rfl rfl rfl rfl) (pmk_P0 D.BadText))) pss_nil)
      (pss_one (ps_ret (pv 5))))))))), ?_⟩
    have l1 : ("/" : Str).length = 1 := by decide +kernel
    have l2 : ("1" : Str).length = 1 := by decide +kernel
    walk_at "go"
    refine r_part (by omega) (by rw [l1]; rfl) (fun p H1 n1 s1 h1 => ?_)
    refine r_gTup (SqT.of h1) rfl ?_
    walk_at "rd"
    generalize hT : Txt.partition x "/" = pt at h1 ⊢
    obtain ⟨t, sl, u0⟩ := pt
    dsimp only
    -- what stands behind the bottom's line
    have cut : (sl = Str.empty ∧ t = x ∧ 47 ∉ TL.tl x) ∨ (sl = "/" ∧ x = t ++ "/" ++ u0 ∧ 47 ∉ TL.tl t) := by
      rcases cut_cases x with h | ⟨a, b, rfl, h⟩
      · rw [TL.partition_none tl_slash h] at hT
        cases hT
        exact Or.inl ⟨rfl, rfl, h⟩
      · rw [TL.partition_app tl_slash h] at hT
        cases hT
        exact Or.inr ⟨rfl, rfl, h⟩
    clear hT
    walk_at "rd"
    rcases cut with ⟨rfl, rfl, h47⟩ | ⟨rfl, rfl, h47⟩
    · refine r_truS (by decide) ?_
      have c0 : (((Str.empty : Str).length : Int) != 0) = false := by decide +kernel
      rw [c0]
      walk_at "rx"
      have ht : Plain t := hp
      have lt : t.length ≤ 400 := hl
      have hq : ∀ q, txt q = t → TL.tl t = namL q.num ∧ TL.tl ("1" : Str) = namL (q.den : Int) := by
        intro q e
        obtain ⟨z1, z2⟩ := txt_whole h47 e
        exact ⟨z1, by rw [z2]; exact tl_one⟩
      have hu : Plain "1" := by
        intro c hc
        rw [tl_one] at hc
        exact namL_ascii hc
      have lu : ("1" : Str).length ≤ 400 := by omega
      generalize ("1" : Str) = u at hq hu lu ⊢
      walk_at "rd"
      refine r_remP (by omega) ?_
      walk_at "rd"
      refine ifB (fun d1 => ?_) (fun d1 => ?_)
      rotate_left
      · walk_at "rx"
        refine kE (fun q e => ?_) H1 s1
        obtain ⟨z, _⟩ := hq q e
        rw [dec_nam z] at d1
        cases d1
      walk_at "rd"
      cases d2 : Txt.isdecimal u with
      | false =>
        walk_at "rx"
        refine kE (fun q e => ?_) H1 s1
        obtain ⟨_, z⟩ := hq q e
        rw [dec_den z] at d2
        cases d2
      | true =>
        walk_at "rx"
        obtain ⟨n, en, ln⟩ := int_dec hu lu d2
        obtain ⟨m, em, lm⟩ := int_good ht lt d1
        refine r_intS en (by omega) ?_
        walk_at "rd"
        refine r_eqI ?_
        walk_at "rd"
        refine ifB (fun hn => ?_) (fun hn => ?_)
        · rw [decide_eq_true_eq] at hn
          refine kE (fun q e => ?_) H1 s1
          obtain ⟨_, z⟩ := hq q e
          rw [int_namL z (by omega)] at en
          have := q.den_nz
          have := Option.some.inj en
          omega
        rw [decide_eq_false_iff_not] at hn
        walk_at "rd"
        refine r_mkV rfl ?_
        walk_at "rd"
        refine r_intS em (by omega) ?_
        walk_at "rd"
        refine r_intS en (by omega) ?_
        walk_at "rd"
        have bm : m.natAbs < 2 ^ 1400 := Nat.lt_of_lt_of_le lm ten_two
        have bn : ((n : Int)).natAbs < 2 ^ 1400 := Nat.lt_of_lt_of_le ln ten_two
        have zq : Sz 1400 (Rat.divInt m (n : Int)) := sz_mk bm bn hn
        refine r_mk2 (ab_up bm (by decide)) (ab_up bn (by decide)) hn (fun c H2 n2 s2 r2 => ?_)
        walk_at "rd"
        refine r_mtR r2 rfl ?_
        walk_at "rd"
        refine ⟨c, _, rfl, r2, zq.mono (by decide), fun H3 s3 => ?_⟩
        walk_at "rd"
        refine r_ne rfl ?_
        by_cases e : txt (Rat.divInt m (n : Int)) = t
        · rw [e, decide_eq_true rfl]
          walk_at "rx"
          exact kq _ e zq c H3 ((s1.trans s2).trans s3) (r2.same s3)
        · rw [decide_eq_false (fun z => e (V.str.inj z))]
          walk_at "rx"
          refine kE (fun q' e' => ?_) H3 ((s1.trans s2).trans s3)
          obtain ⟨z1, z2⟩ := hq q' e'
          rw [int_namL z1 (by omega)] at em
          rw [int_namL z2 (by omega)] at en
          have e1 := Option.some.inj em
          have e2 := Option.some.inj en
          rw [← e1, ← e2, rat_self] at e
          exact e e'
    · refine r_truS (by omega) ?_
      have c1 : ((("/" : Str).length : Int) != 0) = true := by rw [l1]; rfl
      rw [c1]
      walk_at "rx"
      have ht : Plain t := fun c hc => hp c (by rw [TL.tl_append, TL.tl_append]; simp only [List.mem_append]; exact Or.inl (Or.inl hc))
      have hu : Plain u0 := fun c hc => hp c (by rw [TL.tl_append]; exact List.mem_append_right _ hc)
      have ll : t.length + 1 + u0.length ≤ 400 := by
        rw [TL.len_tl, TL.tl_append, TL.tl_append, tl_slash] at hl
        rw [TL.len_tl t, TL.len_tl u0]
        simp only [List.length_append, List.length_cons, List.length_nil] at hl
        omega
      have lt : t.length ≤ 400 := by omega
      have lu : u0.length ≤ 400 := by omega
      have hq : ∀ q, txt q = t ++ "/" ++ u0 → TL.tl t = namL q.num ∧ TL.tl u0 = namL (q.den : Int) := by
        intro q e
        obtain ⟨z1, z2, _⟩ := txt_cut h47 e
        exact ⟨z1, z2⟩
      walk_at "rd"
      refine r_remP (by omega) ?_
      walk_at "rd"
      refine ifB (fun d1 => ?_) (fun d1 => ?_)
      rotate_left
      · walk_at "rx"
        refine kE (fun q e => ?_) H1 s1
        obtain ⟨z, _⟩ := hq q e
        rw [dec_nam z] at d1
        cases d1
      walk_at "rd"
      cases d2 : Txt.isdecimal u0 with
      | false =>
        walk_at "rx"
        refine kE (fun q e => ?_) H1 s1
        obtain ⟨_, z⟩ := hq q e
        rw [dec_den z] at d2
        cases d2
      | true =>
        walk_at "rx"
        obtain ⟨n, en, ln⟩ := int_dec hu lu d2
        obtain ⟨m, em, lm⟩ := int_good ht lt d1
        refine r_intS en (by omega) ?_
        walk_at "rd"
        refine r_eqI ?_
        walk_at "rd"
        refine ifB (fun hn => ?_) (fun hn => ?_)
        · rw [decide_eq_true_eq] at hn
          refine kE (fun q e => ?_) H1 s1
          obtain ⟨_, z⟩ := hq q e
          rw [int_namL z (by omega)] at en
          have := q.den_nz
          have := Option.some.inj en
          omega
        rw [decide_eq_false_iff_not] at hn
        walk_at "rd"
        refine r_mkV rfl ?_
        walk_at "rd"
        refine r_intS em (by omega) ?_
        walk_at "rd"
        refine r_intS en (by omega) ?_
        walk_at "rd"
        have bm : m.natAbs < 2 ^ 1400 := Nat.lt_of_lt_of_le lm ten_two
        have bn : ((n : Int)).natAbs < 2 ^ 1400 := Nat.lt_of_lt_of_le ln ten_two
        have zq : Sz 1400 (Rat.divInt m (n : Int)) := sz_mk bm bn hn
        refine r_mk2 (ab_up bm (by decide)) (ab_up bn (by decide)) hn (fun c H2 n2 s2 r2 => ?_)
        walk_at "rd"
        refine r_mtR r2 rfl ?_
        walk_at "rd"
        refine ⟨c, _, rfl, r2, zq.mono (by decide), fun H3 s3 => ?_⟩
        walk_at "rd"
        refine r_ne rfl ?_
        by_cases e : txt (Rat.divInt m (n : Int)) = t ++ "/" ++ u0
        · rw [e, decide_eq_true rfl]
          walk_at "rx"
          exact kq _ e zq c H3 ((s1.trans s2).trans s3) (r2.same s3)
        · rw [decide_eq_false (fun z => e (V.str.inj z))]
          walk_at "rx"
          refine kE (fun q' e' => ?_) H3 ((s1.trans s2).trans s3)
          obtain ⟨z1, z2⟩ := hq q' e'
          rw [int_namL z1 (by omega)] at em
          rw [int_namL z2 (by omega)] at en
          have e1 := Option.some.inj em
          have e2 := Option.some.inj en
          rw [← e1, ← e2, rat_self] at e
          exact e e'

theorem ok_law_whole (D : Dt P w K mg base) {f : Addr} {fd : FuncData} (F : FnP K "_law_whole" s__law_whole f fd) : FnOk P w K mg base CX0 1 f fd ["_law_word"] spWhole := by
  refine F.ok sc__law_whole ?_ ?_
  · rintro vs H Q E ⟨x, rfl, _⟩
    rfl
  · rintro cdv A outer s H vs Q E hr ⟨x, rfl, hp, hl, kI, kN⟩
    refine ⟨_, PSs.nox (pss_cons (ps_set (i := 1) sc__law_whole.nd rfl (Or.inl rfl) (pe_ifExp (pt_cmpR op_eq (pe_slice sl_str (pv 0) po_none (po_some pe_int)) pe_str (nomark _)) (pe_slice sl_str (pv 0) (po_some pe_int) po_none) (pv 0)))
      (pss_cons (ps_if (PW.pt (pw_or (pt_cmpR op_eq (pv 1) pe_str (nomark _)) (pw_or1 (pt_cmpR (neDA K rfl hr.units) (pe_lc (own := [("_law_char", 2)]) (g := gName 2) rfl sc__law_whole.nd (pi_str (pv 1)) (blkOk_by (own := [("_law_char", 2)]) (N := N__law_whole) (sc := defScope s__law_whole) (by decide +kernel)) (fun _ _ _ _ _ => pg_name (i := 2) sc__law_whole.nd rfl (Or.inl rfl)) (fun _ _ _ _ _ => (pts_one (pt_cmpR op_notInS (pv 2) pe_str (by rfl)))) (fun _ _ _ _ _ => (pv 2))) (pe_lst pa_nil) (nomark _))))) (pss_one (ps_ret pe_non)) pss_nil)
      (pss_one (ps_ret (pe_ifExp (pt_cmpR op_eq (pe_callTy cl_str (by rfl) D.free_str (by decide +kernel) (pa_cons (pe_callTy cl_intS (by rfl) D.free_int (by decide +kernel) (pa_cons (pv 0) pa_nil)) pa_nil)) (pv 0) (nomark _)) (pe_callTy cl_intS (by rfl) D.free_int (by decide +kernel) (pa_cons (pv 0) pa_nil)) pe_non))))), ?_⟩
    walk_at "go"
    refine r_slS (z := x) (by omega) ?_
    walk_at "rd"
    refine r_eq rfl ?_
    walk_at "rd"
    refine if_gen (R := fun Q' => ∀ d : Str, TL.tl d = noDash (TL.tl x) → Q' (.str d) H) ?_ ?_ ?_
    · intro e Q' k
      rw [decide_eq_true_eq] at e
      have e2 : TL.tl (cutS x none (some ((1 : Nat) : Int))) = [45] := by
        rw [show cutS x none (some ((1 : Nat) : Int)) = "-" from V.str.inj e]
        exact tl_dash
      rw [tl_cut_to] at e2
      walk_at "rd"
      refine r_slS (z := x) (by omega) (k _ ?_)
      have e3 := tl_cut_from x 1
      refine e3.trans ?_
      cases h : TL.tl x with
      | nil =>
        rw [h] at e2
        cases e2
      | cons c r =>
        rw [h] at e2
        have : c = 45 := (List.cons.inj e2).1
        subst this
        rfl
    · intro e Q' k
      rw [decide_eq_false_iff_not] at e
      walk_at "rd"
      refine k x ?_
      unfold noDash
      split
      · rename_i r h
        refine absurd ?_ e
        refine congrArg V.str (TL.ext_tl ?_)
        have e3 := tl_cut_to x 1
        refine e3.trans ?_
        rw [h, tl_dash]
        rfl
      · rfl
    intro d hd
    have pd : ∀ c ∈ TL.tl d, c < 128 := by
      intro c hc
      rw [hd] at hc
      refine hp c ?_
      unfold noDash at hc
      split at hc
      · rename_i r h
        rw [h]
        exact List.mem_cons_of_mem _ hc
      · exact hc
    have ld : d.length ≤ 400 := by
      have h1 := TL.len_tl x
      rw [TL.len_tl, hd]
      unfold noDash
      split
      · rename_i r h
        rw [h, List.length_cons] at h1
        omega
      · omega
    have nam : ∀ i, TL.tl x = namL i → TL.tl d = TL.numL i.natAbs := fun i h => by rw [hd, h, noDash_nam]
    walk_at "rd"
    refine r_eq rfl ?_
    walk_at "rd"
    have t0 : TL.tl ("" : Str) = [] := by decide +kernel
    refine ifB (fun e => ?_) (fun e => ?_)
    · rw [decide_eq_true_eq] at e
      walk_at "rx"
      refine kN (fun i h => ?_) H (Same.refl _)
      have := nam i h
      rw [show d = "" from V.str.inj e, t0] at this
      exact TL.numL_ne _ this.symm
    rw [decide_eq_false_iff_not] at e
    have dne : TL.tl d ≠ [] := fun z => e (congrArg V.str (TL.ext_tl (by rw [z, t0])))
    walk_at "rd"
    refine r_lcs ?_
    walk_at "rd"
    refine r_lcsA (fun c => !decide (c ∈ TL.tl ("0123456789" : Str))) (by omega) ?_ ?_ (fun p H1 n1 s1 h1 => ?_)
    · intro c H1 hc s1 R k
      walk_at "rd"
      refine r_notInS ?_
      walk_at "rd"
      exact k H1 (Same.refl _)
    · intro c H1 R k
      walk_at "rd"
      exact k
    walk_at "rd"
    refine r_newL (Nat.le_of_ble_eq_true rfl) (fun p2 H2 n2 s2 h2 => ?_)
    by_cases hall : ∀ c ∈ TL.tl d, c ∈ TL.tl ("0123456789" : Str)
    rotate_left
    · have fne : (TL.tl d).filter (fun c => !decide (c ∈ TL.tl ("0123456789" : Str))) ≠ [] := by
        intro z
        refine hall (fun c hc => ?_)
        have := List.filter_eq_nil_iff.mp z c hc
        simpa using this
      refine r_neSigns fne (fun c hc => pd c (List.mem_filter.mp hc).1) (s2 _ _ h1) h2 ?_
      walk_at "rx"
      refine kN (fun i h => ?_) H2 (s1.trans s2)
      refine hall (fun c hc => in_digits.mpr ?_)
      rw [nam i h] at hc
      exact TL.numL_digits _ c hc
    have fe : (TL.tl d).filter (fun c => !decide (c ∈ TL.tl ("0123456789" : Str))) = [] := by
      rw [List.filter_eq_nil_iff]
      intro c hc
      rw [decide_eq_true (hall c hc)]
      decide
    rw [fe] at h1
    refine r_neNil (s2 _ _ h1) h2 ?_
    walk_at "rx"
    have ad : NumText.AllDigits (noDash (TL.tl x)) := by
      rw [← hd]
      exact fun c hc => in_digits.mp (hall c hc)
    obtain ⟨n, en, ln⟩ := int_good hp hl (isdec_of (by rw [tl_rp]; exact ad) (by rw [tl_rp, ← hd]; exact dne))
    refine r_intS en (by omega) ?_
    walk_at "rd"
    refine r_str (Nat.lt_of_lt_of_le (PySem.Flt.log2_lt_of (by decide) (Nat.lt_of_lt_of_le ln ten_two)) (by decide)) ?_
    walk_at "rd"
    refine r_eq rfl ?_
    walk_at "rd"
    by_cases ex : Str.ofString (toString n) = x
    · rw [decide_eq_true (congrArg V.str ex)]
      refine iteT ?_
      walk_at "rd"
      refine r_intS en (by omega) ?_
      exact kI n (by rw [← ex]; exact tl_int n) ln H2 (s1.trans s2)
    · rw [decide_eq_false (fun z => ex (V.str.inj z))]
      refine iteF ?_
      walk_at "rd"
      refine kN (fun i h => ?_) H2 (s1.trans s2)
      rw [int_namL h (by omega)] at en
      have := Option.some.inj en
      subst this
      exact ex (TL.ext_tl (by rw [tl_int, h]))

theorem ok_law_due (D : Dt P w K mg base) (c_law_whole : Cal P w K mg base CX0 1 "_law_whole" ["_law_word"] spWhole) (c_law_frac : Cal P w K mg base CX0 1 "_law_frac" ["_law_up", "_law_down"] spFr)
    {f : Addr} {fd : FuncData} (F : FnP K "_law_due" s__law_due f fd) : FnOk P w K mg base CX0 2 f fd ["_law_phrase"] spOne := by
  refine F.ok sc__law_due ?_ ?_
  · rintro vs H Q E ⟨x, rfl, _⟩
    rfl
  · rintro cdv A outer s H vs Q E hr ⟨x, rfl, hp, hl, kT, kN⟩
    refine ⟨_, PSs.nox (pss_cons (ps_setLc (i := 1) (own := [("_law_word", 2)]) (g := gName 2) (tt := tYes) rfl sc__law_due.nd rfl rfl (sw_true rfl rfl rfl (by decide +kernel)) (pi_listA K rfl (pe_spl (pv 0) pe_str)) (blkOk_by (own := [("_law_word", 2)]) (N := N__law_due) (sc := defScope s__law_due) (by decide +kernel)) (fun _ _ _ _ _ => pg_name (i := 2) sc__law_due.nd rfl (Or.inl rfl)) (fun _ _ _ _ _ => pts_nil) (fun _ _ _ _ _ => (pe_cal c_law_whole (hr.mono (by decide)) pass0 (pa_cons (pv 2) pa_nil))))
      (pss_cons (ps_if (PW.pt (pw_or (pt_cmpR (inA K rfl) pe_non (pv 1) (by rfl)) (pw_or1 (pt_cmpR op_gt (pe_callB (lenA K rfl) (by rfl) D.free_len (by decide +kernel) (pa_cons (pv 1) pa_nil)) pe_int (nomark _))))) (pss_one (ps_ret pe_non)) pss_nil)
      (pss_cons (ps_if (pt_cmpR op_eq (pe_callB (lenA K rfl) (by rfl) D.free_len (by decide +kernel) (pa_cons (pv 1) pa_nil)) pe_int (nomark _)) (pss_one (ps_ret (pe_tup (pa_cons (pe_ix (ixLA K rfl) (pv 1) pe_int (fun _ _ => rfl)) (pa_cons pe_int pa_nil))))) pss_nil)
      (pss_one (ps_ret (pe_ifExp (PW.pt (pw_and (pt_cmpR op_gt (pe_ix (ixLA K rfl) (pv 1) pe_int (fun _ _ => rfl)) pe_int (nomark _)) (pw_and1 (pt_cmpR (eqDA K rfl hr.units) (pe_cal c_law_frac (hr.mono (by decide)) pass0 (pa_cons (pe_ix (ixLA K rfl) (pv 1) pe_int (fun _ _ => rfl)) (pa_cons (pe_ix (ixLA K rfl) (pv 1) pe_int (fun _ _ => rfl)) pa_nil))) (pe_tup (pa_cons (pe_ix (ixLA K rfl) (pv 1) pe_int (fun _ _ => rfl)) (pa_cons (pe_ix (ixLA K rfl) (pv 1) pe_int (fun _ _ => rfl)) pa_nil))) (nomark _))))) (pe_tup (pa_cons (pe_ix (ixLA K rfl) (pv 1) pe_int (fun _ _ => rfl)) (pa_cons (pe_ix (ixLA K rfl) (pv 1) pe_int (fun _ _ => rfl)) pa_nil))) pe_non)))))), ?_⟩
    have l1 : ("/" : Str).length = 1 := by decide +kernel
    have parts := split_parts x.length x (Nat.le_refl _)
    walk_at "go"
    refine r_lc ?_
    walk_at "rd"
    refine r_split (by omega) (by rw [l1]; rfl) (fun p0 H0 n0 s0 h0 => ?_)
    have wn : (Txt.split x "/").length ≤ 10000 := by
      have := split_count x.length x (Nat.le_refl _)
      omega
    refine r_lcA (fun _ => true) (fun v => match v with
      | .str w => wv w
      | _ => .non) (.of h0) (by rw [List.length_map]; exact wn) ?_ ?_ (fun p1 H1 n1 s1 h1 => ?_)
    · intro v H1 hv s1 R k
      walk_at "rd"
      exact k H1 (Same.refl _)
    · intro v H1 hv _ s1 R k
      obtain ⟨w, hw, rfl⟩ := List.mem_map.mp hv
      obtain ⟨pw, lw⟩ := parts w hw
      walk_at "rd"
      refine ⟨w, rfl, fun c hc => hp c (pw c hc), by omega, fun i hi _ H' s' => ?_, fun hN H' s' => ?_⟩
      · have := k H' s'
        rw [show (match V.str w with | .str w => wv w | _ => .non) = wv w from rfl, wv_int hi] at this
        exact this
      · have := k H' s'
        rw [show (match V.str w with | .str w => wv w | _ => .non) = wv w from rfl, wv_non hN] at this
        exact this
    have h1 : H1 p1 = some (.lst ((Txt.split x "/").map wv)) := by
      rw [h1, List.filter_eq_self.mpr (fun _ _ => rfl), List.map_map]
      rfl
    have t1 : Same H H1 := s0.trans s1
    clear s0 s1 h0 n0 n1
    have flat : ((Txt.split x "/").map wv).all flatV = true := by
      rw [List.all_map, List.all_eq_true]
      exact fun w _ => wv_flat w
    walk_at "rd"
    refine r_in h1 rfl flat ?_
    walk_at "rd"
    have vi : ∀ i : Int, eqV (.int i) .non = false := fun _ => rfl
    have vn : eqV .non .non = true := rfl
    have one : ∀ w : Str, (∃ i : Int, TL.tl w = namL i) ∨ ∀ i : Int, TL.tl w ≠ namL i := by
      intro w
      by_cases h : ∃ i : Int, TL.tl w = namL i
      · exact Or.inl h
      · exact Or.inr (fun i z => h ⟨i, z⟩)
    rcases cut_cases x with h47 | ⟨a, b, rfl, h47⟩
    · rw [split_none h47] at h1 ⊢
      rw [List.map_cons, List.map_nil] at h1 ⊢
      rcases one x with ⟨i, hi⟩ | hN
      · rw [wv_int hi] at h1 ⊢
        have e : inV .non [V.int i] = false := rfl
        rw [e]
        walk_at "rx"
        refine r_lenL (.of h1) ?_
        walk_at "rd"
        have z1 : decide ((2 : Int) < (([V.int i] : List V).length : Int)) = false := rfl
        rw [z1]
        walk_at "rx"
        refine r_lenL (.of h1) ?_
        walk_at "rd"
        refine r_eqI ?_
        walk_at "rd"
        have z2 : decide ((([V.int i] : List V).length : Int) = 1) = true := rfl
        rw [z2]
        walk_at "rx"
        refine r_ixL (.of h1) (v := .int i) rfl ?_
        walk_at "rd"
        refine r_newT (Nat.le_of_ble_eq_true rfl) (fun p2 H2 n2 s2 h2 => ?_)
        refine kT (i : Rat) ?_ (sz_int (nam_bound hp hl hi) (by decide)) p2 H2 (My.Same.none t1 n2) (t1.trans s2) (tupq_int h2)
        refine TL.ext_tl ?_
        rw [tl_txt, hi]
        unfold txL
        rw [if_pos (Rat.den_intCast i), Rat.num_intCast]
      · rw [wv_non hN]
        have e : inV .non [V.non] = true := rfl
        rw [e]
        walk_at "rx"
        exact kN (fun q z => hN _ (txt_whole h47 z).1) H1 t1
    rw [split_cut h47] at h1 ⊢
    have plA : Plain a := fun c hc => hp c (by rw [TL.tl_append, TL.tl_append]; exact List.mem_append_left _ (List.mem_append_left _ hc))
    have plB : Plain b := fun c hc => hp c (by rw [TL.tl_append]; exact List.mem_append_right _ hc)
    rw [len_app, len_app] at hl
    rcases cut_cases b with g47 | ⟨c, d, rfl, g47⟩
    rotate_left
    · have none : ∀ q, txt q ≠ a ++ "/" ++ (c ++ "/" ++ d) := by
        intro q z
        obtain ⟨_, z2, _⟩ := txt_cut h47 z
        exact namL_free (i := (q.den : Int)) (s := 47) (by omega) (by rw [← z2, TL.tl_append, TL.tl_append, tl_slash]; simp)
      refine ifB (fun _ => ?_) (fun _ => ?_)
      · walk_at "rx"
        exact kN none H1 t1
      · walk_at "rd"
        refine r_lenL (.of h1) ?_
        walk_at "rd"
        have ln : (2 : Int) < ((List.map wv (a :: Txt.split (c ++ "/" ++ d) "/")).length : Int) := by
          rw [split_cut g47, List.length_map, List.length_cons, List.length_cons]
          have := List.length_pos_iff.mpr (split_ne d)
          omega
        rw [decide_eq_true ln]
        walk_at "rx"
        exact kN none H1 t1
    rw [split_none g47] at h1 ⊢
    rw [List.map_cons, List.map_cons, List.map_nil] at h1 ⊢
    rcases one a with ⟨i, hi⟩ | hN
    rotate_left
    · rw [wv_non hN]
      have e : inV .non [V.non, wv b] = true := rfl
      rw [e]
      walk_at "rx"
      exact kN (fun q z => hN _ (txt_cut h47 z).1) H1 t1
    rcases one b with ⟨j, hj⟩ | hN
    rotate_left
    · rw [wv_non hN, wv_int hi]
      have e : inV .non [V.int i, V.non] = true := rfl
      rw [e]
      walk_at "rx"
      exact kN (fun q z => hN _ (txt_cut h47 z).2.1) H1 t1
    rw [wv_int hi, wv_int hj] at h1 ⊢
    have e : inV .non [V.int i, V.int j] = false := rfl
    rw [e]
    have bi := nam_bound plA (by omega) hi
    have bj := nam_bound plB (by omega) hj
    walk_at "rx"
    refine r_lenL (.of h1) ?_
    walk_at "rd"
    have z1 : decide ((2 : Int) < (([V.int i, V.int j] : List V).length : Int)) = false := rfl
    rw [z1]
    walk_at "rx"
    refine r_lenL (.of h1) ?_
    walk_at "rd"
    refine r_eqI ?_
    walk_at "rd"
    have z2 : decide ((([V.int i, V.int j] : List V).length : Int) = 1) = false := rfl
    rw [z2]
    walk_at "rx"
    refine r_ixL (.of h1) (v := .int j) rfl ?_
    walk_at "rd"
    have back : ∀ q, txt q = a ++ "/" ++ b → q.num = i ∧ (q.den : Int) = j ∧ q.den ≠ 1 := by
      intro q z
      obtain ⟨z1, z2, z3⟩ := txt_cut h47 z
      rw [hi] at z1
      rw [hj] at z2
      exact ⟨(namL_inj z1).symm, (namL_inj z2).symm, z3⟩
    refine ifB (fun gt => ?_) (fun gt => ?_)
    rotate_left
    · rw [decide_eq_false_iff_not] at gt
      walk_at "rx"
      refine kN (fun q z => ?_) H1 t1
      obtain ⟨_, z2, z3⟩ := back q z
      have := q.den_nz
      omega
    rw [decide_eq_true_eq] at gt
    walk_at "rd"
    refine r_ixL (.of h1) (v := .int i) rfl ?_
    walk_at "rd"
    refine r_ixL (.of h1) (v := .int j) rfl ?_
    walk_at "rd"
    refine ⟨i, j, rfl, by omega, ab_up bi (by decide), ab_up bj (by decide), fun p2 H2 n2 s2 h2 => ?_⟩
    have h1 := s2 _ _ h1
    have t2 := t1.trans s2
    walk_at "rd"
    refine r_ixL (.of h1) (v := .int i) rfl ?_
    walk_at "rd"
    refine r_ixL (.of h1) (v := .int j) rfl ?_
    walk_at "rd"
    refine r_newT (Nat.le_of_ble_eq_true rfl) (fun p3 H3 n3 s3 h3 => ?_)
    refine r_eqTI (s3 _ _ h2) h3 ?_
    walk_at "rd"
    have h1 := s3 _ _ h1
    have t3 := t2.trans s3
    refine ifB (fun eq => ?_) (fun eq => ?_)
    · rw [Bool.and_eq_true_iff, decide_eq_true_eq, decide_eq_true_eq] at eq
      walk_at "rd"
      refine r_ixL (.of h1) (v := .int i) rfl ?_
      walk_at "rd"
      refine r_ixL (.of h1) (v := .int j) rfl ?_
      walk_at "rd"
      refine r_newT (Nat.le_of_ble_eq_true rfl) (fun p4 H4 n4 s4 h4 => ?_)
      have zq : Sz 1400 (Rat.divInt i j) := sz_mk bi bj (by omega)
      refine kT (Rat.divInt i j) ?_ zq p4 H4 (My.Same.none t3 n4) (t3.trans s4) ?_
      · refine TL.ext_tl ?_
        rw [tl_txt, TL.tl_append, TL.tl_append, hi, hj, tl_slash, List.append_assoc]
        unfold txL
        rw [if_neg (by omega), eq.1, eq.2]
        rfl
      · unfold TupQ
        rw [h4, eq.1, eq.2]
    · walk_at "rd"
      refine kN (fun q z => ?_) H3 t3
      obtain ⟨z1, z2, _⟩ := back q z
      have : Rat.divInt i j = q := by rw [← z1, ← z2, rat_self]
      rw [this, z1, z2, decide_eq_true rfl, decide_eq_true rfl] at eq
      cases eq
theorem ok_law_read (D : Dt P w K mg base) (c_top : CalV P w K mg base D.Ratio.C "top" "_top") (c_bottom : CalV P w K mg base D.Ratio.C "bottom" "_bottom") (c_read : CmC P w K mg base D.Ratio.C 3 (spRead D.Ratio.C D.BadText.C))
    {f : Addr} {fd : FuncData} (F : FnP K "_law_read" s__law_read f fd) : FnOk P w K mg base CX0 4 f fd ["_law_phrase"] spOne := by
  refine F.ok sc__law_read ?_ ?_
  · rintro vs H Q E ⟨x, rfl, _⟩
    rfl
  · rintro cdv A outer s H vs Q E hr ⟨x, rfl, hp, hl, kT, kN⟩
    refine ⟨_, PSs.nox (pss_cons (ps_try_only rfl rfl ⟨rfl, by decide, .inl D.BadText.gC⟩ takes0
        (fun W pn xe tk _ => pss_one (ps_set (i := 1) sc__law_read.nd rfl (Or.inl rfl) (pe_cmethW (pe_glob (v := .ref D.Ratio.C) rfl D.Ratio.gC rfl) D.cread c_read (hr.mono (by decide)) tk (pa_cons (pv 0) pa_nil))))
        (fun a oe cls d pn hz hf => pss_one (ps_ret pe_non)))
      (pss_one (ps_ret (pe_tup (pa_cons (pe_get c_top D.Ratio.R.T.cl (hr.mono (by decide)) (pv 1)) (pa_cons (pe_get c_bottom D.Ratio.R.T.cl (hr.mono (by decide)) (pv 1)) pa_nil)))))), ?_⟩
    walk_at "go"
    refine ⟨x, rfl, hp, hl, fun q z zq a H1 s1 ha => ?_, fun hn H1 s1 => wOnly_yes D.exT (fun e ne => ?_)⟩
    · walk_at "rd"
      refine r_top ha ?_
      walk_at "rd"
      refine r_bot ha ?_
      walk_at "rd"
      exact r_newT (Nat.le_of_ble_eq_true rfl) (fun p H2 n2 s2 h2 => kT q z zq p H2 (My.Same.none s1 n2) (s1.trans s2) h2)
    · walk_at "rd"
      exact kN hn H1 s1

def spLaw (K : PySem.W.Frag) : Sp := fun vs H Q _ => ∃ (a : Addr) (ns : List Int), vs = [.ref a] ∧ SqL K H a (ns.map V.int) ∧ ns.length ≤ 63 ∧ ∀ H', Q (.bl true) H'
abbrev kwO (vs zs : List V) : List V := vs ++ zs
theorem ok_law (D : Dt P w K mg base) (c_mk : MkC P w K mg base D.Ratio.C D.ByZero.C) (c_text : CalM P w K mg base D.Ratio.C CX0 1 "text" ["self"] (spTxt D.Ratio.C))
    (c_eq : CalQ P w K mg base D.Ratio.C CX0 3 "__eq__" (spEqR K D.Ratio.C)) (c_read : CmC P w K mg base D.Ratio.C 3 (spRead D.Ratio.C D.BadText.C))
    {g3 : List Value → List Value → List Value} (k_read : KBn K c_read.fd ["cls", "text"] 1 ["text"] g3 kwO)
    (c_law_box : Cal P w K mg base CX0 2 "_law_box" ["_law_script", "_law_k"] (spBx K)) (c_law_take : Cal P w K mg base CX0 1 "_law_take" ["_law_box_here", "_law_many"] spTk)
    (c_law_frac : Cal P w K mg base CX0 1 "_law_frac" ["_law_up", "_law_down"] spFr) (c_law_due : Cal P w K mg base CX0 2 "_law_due" ["_law_phrase"] spOne) (c_law_read : Cal P w K mg base CX0 4 "_law_read" ["_law_phrase"] spOne)
    {f : Addr} {fd : FuncData} (F : FnP K "law" s_law f fd) : FnG P w K mg base CX0 5 f fd ["_law_script"] (spLaw K) := by
  refine fun_okG F sc_law ?_ ?_
  · rintro vs H Q E ⟨a, ns, rfl, _⟩
    rfl
  · rintro cdv A outer s H vs Q E hgd hr ⟨a, ns, rfl, hS, hl, kq⟩
    refine ⟨_, PSs.nox (pss_cons (ps_for PassesOwn.never rfl (pi_range1 (by rfl) D.free_range (pa_cons (pe_callB (cl_max rfl) (by rfl) D.free_max (by decide +kernel) (pa_cons pe_int (pa_cons (pe_callB (cl_min rfl) (by rfl) D.free_min (by decide +kernel) (pa_cons pe_int (pa_cons (pe_callB (lenA K rfl) (by rfl) D.free_len (by decide +kernel) (pa_cons (pv 0) pa_nil)) pa_nil))) pa_nil))) pa_nil)) (pg_name (i := 1) sc_law.nd rfl (Or.inl rfl))
      (pss_cons (ps_set (i := 2) sc_law.nd rfl (Or.inl rfl) (pe_cal c_law_box (hr.mono (by decide)) pass0 (pa_cons (pv 0) (pa_cons (pv 1) pa_nil))))
      (pss_cons (ps_set (i := 3) sc_law.nd rfl (Or.inl rfl) (pe_ix (ixLA K rfl) (pe_lst (pa_cons pe_int (pa_cons pe_int (pa_cons (pe_op op_sub (pe_op op_powW pe_int pe_int) pe_int) (pa_cons (pe_op op_powW pe_int pe_int) pa_nil))))) (pe_cal c_law_take (hr.mono (by decide)) pass0 (pa_cons (pv 2) (pa_cons pe_int pa_nil))) (fun _ _ => rfl)))
      (pss_cons (ps_set (i := 4) sc_law.nd rfl (Or.inl rfl) (pe_cal c_law_frac (hr.mono (by decide)) pass0 (pa_cons (pe_op op_sub (pe_cal c_law_take (hr.mono (by decide)) pass0 (pa_cons (pv 2) (pa_cons (pe_op op_add (pe_op op_mulw pe_int (pv 3)) pe_int) pa_nil))) (pv 3)) (pa_cons (pe_ix (ixLA K rfl) (pe_lst (pa_cons pe_int (pa_cons (pe_op op_add pe_int (pe_cal c_law_take (hr.mono (by decide)) pass0 (pa_cons (pv 2) (pa_cons (pv 3) pa_nil)))) pa_nil))) (pe_cal c_law_take (hr.mono (by decide)) pass0 (pa_cons (pv 2) (pa_cons pe_int pa_nil))) (fun _ _ => rfl)) pa_nil))))
      (pss_cons (ps_set (i := 5) sc_law.nd rfl (Or.inl rfl) (pe_ifExp (pt_cmpR op_eq (pe_ix (ixTA K rfl) (pv 4) pe_int (fun _ _ => rfl)) pe_int (nomark _)) (pe_callTy cl_str (by rfl) D.free_str (by decide +kernel) (pa_cons (pe_ix (ixTA K rfl) (pv 4) pe_int (fun _ _ => rfl)) pa_nil)) (pe_op op_adds (pe_op op_adds (pe_callTy cl_str (by rfl) D.free_str (by decide +kernel) (pa_cons (pe_ix (ixTA K rfl) (pv 4) pe_int (fun _ _ => rfl)) pa_nil)) pe_str) (pe_callTy cl_str (by rfl) D.free_str (by decide +kernel) (pa_cons (pe_ix (ixTA K rfl) (pv 4) pe_int (fun _ _ => rfl)) pa_nil)))))
      (pss_cons (ps_if (PW.pt (pw_or (pt_cmpR op_ne (pe_meth0 (pe_mk2 c_mk (hr.mono (by decide)) passL (pa_cons (pe_ix (ixTA K rfl) (pv 4) pe_int (fun _ _ => rfl)) (pa_cons (pe_ix (ixTA K rfl) (pv 4) pe_int (fun _ _ => rfl)) pa_nil))) D.Ratio.R.T.cl c_text.me c_text.ok (hr.mono (by decide)) c_text.b .nil pass0) (pv 5) (nomark _)) (pw_or (pt_cmpR (neDA K rfl hr.units) (pe_cal c_law_read (hr.mono (by decide)) pass0 (pa_cons (pv 5) pa_nil)) (pv 4) (nomark _)) (pw_or1 (pt_cmpR (neDA K rfl hr.units) (pe_cal c_law_due (hr.mono (by decide)) pass0 (pa_cons (pv 5) pa_nil)) (pv 4) (nomark _)))))) (pss_one (ps_ret pe_bl)) pss_nil)
      (pss_cons (ps_if (pt_not (pt_cmpR (op_calC (fun _ _ => rfl) c_eq (hr.mono (by decide)) pass0) (pe_cmethK0 (pe_glob (v := .ref D.Ratio.C) rfl D.Ratio.gC rfl) D.cread c_read.me c_read.ok (hr.mono (by decide)) k_read passL (pk_cons (pv 5) pk_nil)) (pe_mk2 c_mk (hr.mono (by decide)) passL (pa_cons (pe_ix (ixTA K rfl) (pv 4) pe_int (fun _ _ => rfl)) (pa_cons (pe_ix (ixTA K rfl) (pv 4) pe_int (fun _ _ => rfl)) pa_nil))) (nomark _))) (pss_one (ps_ret pe_bl)) pss_nil)
      (pss_one (ps_for PassesOwn.never rfl (pi_range1 (by rfl) D.free_range (pa_cons pe_int pa_nil)) (pg_name (i := 6) sc_law.nd rfl (Or.inl rfl))
      (pss_cons (ps_set (i := 7) sc_law.nd rfl (Or.inl rfl) (pe_cal c_law_take (hr.mono (by decide)) pass0 (pa_cons (pv 2) (pa_cons (pe_op op_add (pe_callB cl_lenS (by rfl) D.free_len (by decide +kernel) (pa_cons (pv 5) pa_nil)) pe_int) pa_nil))))
      (pss_cons (ps_set (i := 8) sc_law.nd rfl (Or.inl rfl) (pe_ix (ixLA K rfl) (pe_lst (pa_cons pe_str (pa_cons pe_str (pa_cons pe_str (pa_cons pe_str (pa_cons pe_str (pa_cons pe_str (pa_cons pe_str (pa_cons pe_str (pa_cons pe_str (pa_cons pe_str (pa_cons pe_str (pa_cons pe_str (pa_cons pe_str (pa_cons pe_str pa_nil))))))))))))))) (pe_cal c_law_take (hr.mono (by decide)) pass0 (pa_cons (pv 2) (pa_cons pe_int pa_nil))) (fun _ _ => rfl)))
      (pss_cons (ps_set (i := 9) sc_law.nd rfl (Or.inl rfl) (pe_op op_adds (pe_op op_adds (pe_slice sl_str (pv 5) po_none (po_some (pv 7))) (pv 8)) (pe_slice sl_str (pv 5) (po_some (pe_op op_add (pv 7) (pe_cal c_law_take (hr.mono (by decide)) pass0 (pa_cons (pv 2) (pa_cons pe_int pa_nil))))) po_none)))
      (pss_cons (ps_set (i := 10) sc_law.nd rfl (Or.inl rfl) (pe_op op_adds (pe_op op_adds (pe_callTy cl_str (by rfl) D.free_str (by decide +kernel) (pa_cons (pe_op op_mulw (pe_ix (ixTA K rfl) (pv 4) pe_int (fun _ _ => rfl)) pe_int) pa_nil)) pe_str) (pe_callTy cl_str (by rfl) D.free_str (by decide +kernel) (pa_cons (pe_op op_mulw (pe_ix (ixTA K rfl) (pv 4) pe_int (fun _ _ => rfl)) pe_int) pa_nil))))
      (pss_one (ps_for PassesOwn.never rfl (pi_listA K rfl (pe_lst (pa_cons (pv 9) (pa_cons (pv 10) (pa_cons (pe_op op_adds (pe_op op_adds (pv 5) pe_str) (pv 8)) (pa_cons (pe_op op_adds (pv 8) (pv 5)) (pa_cons (pe_op op_adds (pv 5) (pv 8)) pa_nil))))))) (pg_name (i := 11) sc_law.nd rfl (Or.inl rfl))
      (pss_one (ps_if (pt_cmpR (neDA K rfl hr.units) (pe_cal c_law_read (hr.mono (by decide)) pass0 (pa_cons (pv 11) pa_nil)) (pe_cal c_law_due (hr.mono (by decide)) pass0 (pa_cons (pv 11) pa_nil)) (nomark _)) (pss_one (ps_ret pe_bl)) pss_nil)))))))))))))))))
      (pss_one (ps_ret (pe_and (pe_cmpR op_isN (pe_cal c_law_read (hr.mono (by decide)) pass0 (pa_cons pe_str pa_nil)) pe_non (nomark _)) (pe_and (pe_cmpR op_isN (pe_cal c_law_read (hr.mono (by decide)) pass0 (pa_cons pe_str pa_nil)) pe_non (nomark _)) (pe_one (pe_cmpR op_isN (pe_cal c_law_read (hr.mono (by decide)) pass0 (pa_cons pe_str pa_nil)) pe_non (nomark _)))))))), ?_⟩
    walk_at "go"
    refine r_forR ?_
    walk_at "rd"
    have hm : ∃ m : Nat, (if (if ((ns.map V.int).length : Int) < 3 then ((ns.map V.int).length : Int) else 3) > 1 then (if ((ns.map V.int).length : Int) < 3 then ((ns.map V.int).length : Int) else 3) else 1) = (m : Int) ∧ m ≤ 3 := by
      generalize (ns.map V.int).length = m
      by_cases h : (m : Int) < 3
      · rw [if_pos h]
        by_cases h2 : (m : Int) > 1
        · rw [if_pos h2]
          exact ⟨m, rfl, by omega⟩
        · rw [if_neg h2]
          exact ⟨1, rfl, by decide⟩
      · rw [if_neg h]
        exact ⟨3, rfl, by decide⟩
    obtain ⟨m, em, m3⟩ := hm
    refine r_range m (fun i σ H' => (∃ z1 z2 z3 z4 z5 z6 z7 z8 z9 z10 z11, σ = [some (.ref a), z1, z2, z3, z4, z5, z6, z7, z8, z9, z10, z11]) ∧ Same H H') em (by omega)
      ⟨⟨_, _, _, _, _, _, _, _, _, _, _, rfl⟩, Same.refl _⟩ ?_ ?_
    rotate_left
    · rintro σ H' ⟨⟨z1, z2, z3, z4, z5, z6, z7, z8, z9, z10, z11, rfl⟩, s⟩
      walk_at "rd"
      refine ⟨"", rfl, plain_of (by decide +kernel), by decide +kernel, fun q z => absurd z (not_empty q), fun _ H1 s1 => ?_⟩
      walk_at "rd"
      refine ⟨rfl, ?_⟩
      walk_at "rd"
      refine iteT ?_
      walk_at "rd"
      refine ⟨"-0", rfl, plain_of (by decide +kernel), by decide +kernel, fun q z => absurd z (not_dash0 q), fun _ H2 s2 => ?_⟩
      walk_at "rd"
      refine ⟨rfl, ?_⟩
      walk_at "rd"
      refine iteT ?_
      walk_at "rd"
      refine ⟨"0/3", rfl, plain_of (by decide +kernel), by decide +kernel, fun q z => absurd z (not_0_3 q), fun _ H3 s3 => ?_⟩
      walk_at "rd"
      refine ⟨rfl, ?_⟩
      exact kq H3
    rintro k σ H' hk ⟨⟨z1, z2, z3, z4, z5, z6, z7, z8, z9, z10, z11, rfl⟩, sH⟩
    walk_at "rd"
    refine ⟨a, ns, (k : Int), rfl, SqL_same sH hS, hl, by omega, by omega, fun b H1 n1 s1 hb1 => ?_⟩
    have nb : H b = none := My.Same.none sH n1
    have sH1 := sH.trans s1
    clear sH s1
    walk_at "rd"
    refine r_PowW (powW (by decide) (by decide) (by decide)) ?_
    walk_at "rd"
    refine r_PowW (powW (by decide) (by decide) (by decide)) ?_
    walk_at "rd"
    refine r_newL (Nat.le_of_ble_eq_true rfl) (fun p0 H2 n2 s2 h2 => ?_)
    walk_at "rd"
    refine ⟨b, 4, 0, rfl, hb1.same s2, by decide, by decide, by decide, fun r3 H3 r30 r31 s3 hb3 => ?_⟩
    obtain ⟨vw, evw, mvw⟩ := atI_mem (xs := [V.int 9, V.int 60, V.int (10 ^ Int.toNat 9 - 1), V.int (10 ^ Int.toNat 59)]) r30 r31
    refine r_ixL (.of (s3.get (hb1.ne n2) h2)) evw ?_
    have hw : ∃ m : Int, vw = .int m ∧ 0 < m ∧ m ≤ 10 ^ 59 := by
      simp only [List.mem_cons, List.mem_nil_iff, or_false] at mvw
      rcases mvw with rfl | rfl | rfl | rfl
      · exact ⟨9, rfl, by decide, by decide⟩
      · exact ⟨60, rfl, by decide, by decide⟩
      · exact ⟨_, rfl, by decide, by decide⟩
      · exact ⟨_, rfl, by decide, by decide⟩
    obtain ⟨wd, rfl, w0, w1⟩ := hw
    have w2 : wd.natAbs < 2 ^ 197 := by
      have : wd ≤ 2 ^ 196 := Int.le_trans w1 (by decide)
      omega
    have sX : SameX b H1 H3 := (SameX.of s2).trans s3
    clear s2 s3 h2 n2 evw mvw hb1 r30 r31
    walk_at "rd"
    refine r_MulW (wide_mul (a := 10) (b := 197) (by decide) w2 (by decide) (by decide) (by decide)) ?_
    walk_at "rd"
    refine ⟨b, 2 * wd + 1, 1, rfl, hb3, by decide, by omega, Nat.lt_of_lt_of_le (show (2 * wd + 1).natAbs < 2 ^ 199 by omega) (Nat.pow_le_pow_right (by decide) (by decide)), fun r4 H4 u0 u1 s4 hb4 => ?_⟩
    walk_at "rd"
    refine ⟨b, wd, 2, rfl, hb4, by decide, w0, ab_up w2 (by decide), fun r5 H5 v0 v1 s5 hb5 => ?_⟩
    walk_at "rd"
    refine r_newL (Nat.le_of_ble_eq_true rfl) (fun p6 H6 n6 s6 h6 => ?_)
    walk_at "rd"
    refine ⟨b, 2, 3, rfl, hb5.same s6, by decide, by decide, by decide, fun r7 H7 x0 x1 s7 hb7 => ?_⟩
    obtain ⟨vd, evd, mvd⟩ := atI_mem (xs := [V.int 1, V.int (1 + r5)]) x0 x1
    refine r_ixL (.of (s7.get (hb5.ne n6) h6)) evd ?_
    have hd : ∃ d : Int, vd = .int d ∧ 0 < d ∧ d.natAbs < 2 ^ 199 := by
      simp only [List.mem_cons, List.mem_nil_iff, or_false] at mvd
      rcases mvd with rfl | rfl
      · exact ⟨_, rfl, by decide, by decide⟩
      · exact ⟨_, rfl, by omega, by omega⟩
    obtain ⟨d, rfl, d0, d1⟩ := hd
    have sX := sX.trans (s4.trans (s5.trans ((SameX.of s6).trans s7)))
    clear s4 s5 s6 s7 h6 n6 evd mvd hb3 hb4 hb5 x0 x1
    walk_at "rd"
    refine ⟨r4 - wd, d, rfl, by omega, ab_up (n := 199) (by omega) (by decide), ab_up d1 (by decide), fun px H8 _ s8 hx => ?_⟩
    have zq : Sz 210 (Rat.divInt (r4 - wd) d) := sz_mk (Nat.lt_of_lt_of_le (show (r4 - wd).natAbs < 2 ^ 199 by omega) (by decide)) (ab_up d1 (by decide)) (by omega)
    generalize Rat.divInt (r4 - wd) d = q at zq hx
    have hb8 := hb7.same s8
    have sX := sX.trans (SameX.of s8)
    clear s8 hb7 u0 u1 v0 v1 w0 w1 w2 d0 d1
    have lt := len_txt zq
    have pt := plain_txt q
    have b0 : q.num.natAbs < 2 ^ 1900 := ab_up zq.1 (by decide)
    have b1 : ((q.den : Int)).natAbs < 2 ^ 1900 := ab_up zq.den' (by decide)
    walk_at "rd"
    refine r_tq1 hx ?_
    walk_at "rd"
    refine r_eqI ?_
    walk_at "rd"
    refine if_gen (R := fun Q' => Q' (.str (txt q)) H8) ?_ ?_ ?_
    · intro e Q' k
      rw [decide_eq_true_eq] at e
      walk_at "rd"
      refine r_tq0 hx ?_
      walk_at "rd"
      refine r_str (log_int b0) ?_
      unfold txt at k
      rw [if_pos (by omega)] at k
      exact k
    · intro e Q' k
      rw [decide_eq_false_iff_not] at e
      walk_at "rd"
      refine r_tq0 hx ?_
      walk_at "rd"
      refine r_str (log_int b0) ?_
      walk_at "rd"
      have l1 := len_int2 zq.1
      have l2 := len_int2 zq.den'
      have l3 : ("/" : Str).length = 1 := by decide +kernel
      refine r_adds (show (Str.ofString (toString q.num)).length + ("/" : Str).length ≤ 1000000 by omega) ?_
      walk_at "rd"
      refine r_tq1 hx ?_
      walk_at "rd"
      refine r_str (log_int b1) ?_
      refine r_adds (show (Str.ofString (toString q.num) ++ "/").length + (Str.ofString (toString (q.den : Int))).length ≤ 1000000 by rw [len_app]; omega) ?_
      unfold txt at k
      rw [if_neg (by omega)] at k
      exact k
    walk_at "rd"
    refine r_tq0 hx ?_
    walk_at "rd"
    refine r_tq1 hx ?_
    walk_at "rd"
    have q0 : q.num.natAbs < 2 ^ 8000 := ab_up zq.1 (by decide)
    have q1 : ((q.den : Int)).natAbs < 2 ^ 8000 := ab_up zq.den' (by decide)
    refine r_mk2 q0 q1 (den_ne q) (fun c1 I1 _ s1 r1 => ?_)
    rw [rat_self] at r1
    walk_at "rd"
    refine r_mtR r1 rfl ?_
    walk_at "rd"
    refine ⟨c1, q, rfl, r1, zq.mono (by decide), fun I2 s2 => ?_⟩
    walk_at "rd"
    refine r_ne rfl ?_
    rw [decide_eq_true rfl]
    walk_at "rx"
    refine ⟨txt q, rfl, pt, by omega, fun qa za _ pa I3 _ s3 ha => ?_, fun hn => absurd rfl (hn q)⟩
    walk_at "rd"
    refine r_neTQ ha (hx.same ((s1.trans s2).trans s3)) (txt_inj za) ?_
    walk_at "rx"
    refine ⟨txt q, rfl, pt, by omega, fun qb zb _ pb I4 _ s4 hb => ?_, fun hn => absurd rfl (hn q)⟩
    walk_at "rd"
    refine r_neTQ hb (hx.same (((s1.trans s2).trans s3).trans s4)) (txt_inj zb) ?_
    have hx := hx.same (((s1.trans s2).trans s3).trans s4)
    have hb9 := hb8.same (((s1.trans s2).trans s3).trans s4)
    have sX := sX.trans (SameX.of (((s1.trans s2).trans s3).trans s4))
    clear s1 s2 s3 s4 r1 ha hb hb8 za zb
    walk_at "rx"
    refine ⟨rfl, txt q, rfl, pt, by omega, fun qc zc _ pc I5 s5 hc => ?_, fun hn => absurd rfl (hn q)⟩
    walk_at "rd"
    refine r_tq0 (hx.same s5) ?_
    walk_at "rd"
    refine r_tq1 (hx.same s5) ?_
    walk_at "rd"
    refine r_mk2 q0 q1 (den_ne q) (fun c6 I6 _ s6 r6 => ?_)
    rw [rat_self] at r6
    refine r_eqR D.Ratio.R (hc.same s6) r6.num (fun I7 s7 => ?_)
    rw [decide_eq_true (txt_inj zc)]
    have hx := hx.same ((s5.trans s6).trans s7)
    have hb10 := hb9.same ((s5.trans s6).trans s7)
    have sX := sX.trans (SameX.of ((s5.trans s6).trans s7))
    clear s5 s6 s7 hc r6 hb9 zc
    walk_at "rx"
    refine r_nxM ?_
    refine r_forR ?_
    walk_at "rd"
    refine r_range 6 (fun i σ H' => (∃ y6 y7 y8 y9 y10 y11, σ = [some (.ref a), some (.int (k : Int)), some (.ref b), some (.int wd), some (.ref px), some (.str (txt q)), y6, y7, y8, y9, y10, y11]) ∧
      SameX b H1 H' ∧ BoxAt H' b (4 + 3 * i) ∧ TupQ H' px q) rfl (by decide) ⟨⟨_, _, _, _, _, _, rfl⟩, sX, hb10, hx⟩ ?_ ?_
    rotate_left
    · rintro σ H' ⟨⟨y6, y7, y8, y9, y10, y11, rfl⟩, sX, _, _⟩
      exact ⟨⟨_, _, _, _, _, _, _, _, _, _, _, rfl⟩, SameX.same sH1 nb sX⟩
    clear sX hb10 hx
    rintro j σ J0 hj ⟨⟨y6, y7, y8, y9, y10, y11, rfl⟩, sX, hb, hx⟩
    walk_at "rd"
    refine r_lenS (by omega) ?_
    walk_at "rd"
    refine ⟨b, ((txt q).length : Int) + 1, _, rfl, hb, by omega, by omega, Nat.lt_of_lt_of_le (show (((txt q).length : Int) + 1).natAbs < 2 ^ 10 by omega) (Nat.pow_le_pow_right (by decide) (by decide)), fun at_ J1 a0 a1 s1 hb1 => ?_⟩
    have hx := hx.sameX hb s1
    walk_at "rd"
    refine r_newL (Nat.le_of_ble_eq_true rfl) (fun p2 J2 n2 s2 h2 => ?_)
    walk_at "rd"
    refine ⟨b, 14, _, rfl, hb1.same s2, by omega, by decide, by decide, fun r3 J3 c0 c1 s3 hb3 => ?_⟩
    have hx := (hx.same s2).sameX (hb1.same s2) s3
    obtain ⟨vp, evp, mvp⟩ := atI_mem (xs := [V.str "0", V.str "1", V.str "-", V.str "/", V.str " ", V.str "+", V.str ".", V.str "/1", V.str "/0", V.str "00", V.str "a", V.str "", V.str "_", V.str "\n"]) c0 c1
    refine r_ixL (.of (s3.get (hb1.ne n2) h2)) evp ?_
    have hp : ∃ pt : Str, vp = .str pt ∧ Plain pt ∧ pt.length ≤ 2 := by
      simp only [List.mem_cons, List.mem_nil_iff, or_false] at mvp
      rcases mvp with rfl | rfl | rfl | rfl | rfl | rfl | rfl | rfl | rfl | rfl | rfl | rfl | rfl | rfl
      all_goals exact ⟨_, rfl, plain_of (by decide +kernel), by decide +kernel⟩
    obtain ⟨pa, rfl, pp, lp⟩ := hp
    have sX := sX.trans (s1.trans ((SameX.of s2).trans s3))
    clear s1 s2 s3 h2 n2 evp mvp hb hb1 c0 c1
    walk_at "rd"
    refine r_slS (by omega) ?_
    walk_at "rd"
    have c1 := cutS_length (txt q) none (some at_)
    refine r_adds (by omega) ?_
    walk_at "rd"
    refine ⟨b, 2, _, rfl, hb3, by omega, by decide, by decide, fun r4 J4 d0 d1 s4 hb4 => ?_⟩
    have hx := hx.sameX hb3 s4
    have sX := sX.trans s4
    clear s4 hb3
    walk_at "rd"
    refine r_slS (by omega) ?_
    walk_at "rd"
    have c2 := cutS_length (txt q) (some (at_ + r4)) none
    refine r_adds (by rw [len_app]; omega) ?_
    walk_at "rd"
    refine r_tq0 hx ?_
    walk_at "rd"
    have n0 : (q.num * 2).natAbs < 2 ^ 1900 := by
      have := ab_mul zq.1 (show (2 : Int).natAbs < 2 ^ 2 by decide)
      exact ab_up this (by decide)
    have n1 : ((q.den : Int) * 2).natAbs < 2 ^ 1900 := by
      have := ab_mul zq.den' (show (2 : Int).natAbs < 2 ^ 2 by decide)
      exact ab_up this (by decide)
    refine r_MulW (mul8 (ab_up b0 (by decide)) (by decide)) ?_
    walk_at "rd"
    refine r_str (log_int n0) ?_
    walk_at "rd"
    have f0 := len_int3 zq.1
    have f1 := len_int3 zq.den'
    have l3 : ("/" : Str).length = 1 := by decide +kernel
    refine r_adds (show (Str.ofString (toString (q.num * 2))).length + ("/" : Str).length ≤ 1000000 by omega) ?_
    walk_at "rd"
    refine r_tq1 hx ?_
    walk_at "rd"
    refine r_MulW (mul8 (ab_up b1 (by decide)) (by decide)) ?_
    walk_at "rd"
    refine r_str (log_int n1) ?_
    refine r_adds (show (Str.ofString (toString (q.num * 2)) ++ "/").length + (Str.ofString (toString ((q.den : Int) * 2))).length ≤ 1000000 by rw [len_app]; omega) ?_
    walk_at "rd"
    refine r_nxM ?_
    refine r_forL ?_
    walk_at "rd"
    refine r_adds (show (txt q).length + ("/" : Str).length ≤ 1000000 by omega) ?_
    walk_at "rd"
    refine r_adds (show (txt q ++ "/").length + pa.length ≤ 1000000 by rw [len_app]; omega) ?_
    walk_at "rd"
    refine r_adds (show pa.length + (txt q).length ≤ 1000000 by omega) ?_
    walk_at "rd"
    refine r_adds (show (txt q).length + pa.length ≤ 1000000 by omega) ?_
    walk_at "rd"
    refine r_newL (Nat.le_of_ble_eq_true rfl) (fun l5 J5 n5 s5 h5 => ?_)
    have hE : ∀ v ∈ [V.str (cutS (txt q) none (some at_) ++ pa ++ cutS (txt q) (some (at_ + r4)) none), V.str (Str.ofString (toString (q.num * 2)) ++ "/" ++ Str.ofString (toString ((q.den : Int) * 2))),
        V.str (txt q ++ "/" ++ pa), V.str (pa ++ txt q), V.str (txt q ++ pa)], ∃ o : Str, v = .str o ∧ Plain o ∧ o.length ≤ 400 := by
      intro v hv
      simp only [List.mem_cons, List.mem_nil_iff, or_false] at hv
      rcases hv with rfl | rfl | rfl | rfl | rfl
      · exact ⟨_, rfl, plain_app (plain_app (plain_cut pt) pp) (plain_cut pt), by rw [len_app, len_app]; omega⟩
      · exact ⟨_, rfl, plain_app (plain_app (plain_nam _) plain_slash) (plain_nam _), by rw [len_app, len_app]; omega⟩
      · exact ⟨_, rfl, plain_app (plain_app pt plain_slash) pp, by rw [len_app, len_app]; omega⟩
      · exact ⟨_, rfl, plain_app pp pt, by rw [len_app]; omega⟩
      · exact ⟨_, rfl, plain_app pt pp, by rw [len_app]; omega⟩
    have hx := hx.same s5
    have hb5 := hb4.same s5
    have sX := sX.trans (SameX.of s5)
    generalize hN : cutS (txt q) none (some at_) ++ pa ++ cutS (txt q) (some (at_ + r4)) none = near at h5 hE ⊢
    generalize hF : Str.ofString (toString (q.num * 2)) ++ "/" ++ Str.ofString (toString ((q.den : Int) * 2)) = fac at h5 hE ⊢
    generalize hxs : [V.str near, V.str fac, V.str (txt q ++ "/" ++ pa), V.str (pa ++ txt q), V.str (txt q ++ pa)] = xs at h5 hE
    clear hN hF s5 n5 hb4 c1 c2 n0 n1 f0 f1
    refine r_each (xs := xs) (fun i σ H' => (∃ y11, σ = [some (.ref a), some (.int (k : Int)), some (.ref b), some (.int wd), some (.ref px), some (.str (txt q)), some (.int (j : Int)), some (.int at_), some (.str pa), some (.str near), some (.str fac), y11]) ∧ Same J5 H')
      (.of h5) ⟨⟨y11, rfl⟩, Same.refl _⟩ ?_ ?_ ?_
    · rintro i σ H' _ ⟨_, s⟩
      exact .of (s _ _ h5)
    · rintro i v σ H' hv ⟨⟨z11, rfl⟩, s⟩
      obtain ⟨o, rfl, po, lo⟩ := hE v (List.mem_of_getElem? hv)
      walk_at "rd"
      refine ⟨o, rfl, po, lo, fun q1 e1 _ p1 K1 _ s1 h1 => ?_, fun hn K1 s1 => ?_⟩
      · walk_at "rd"
        refine ⟨o, rfl, po, lo, fun q2 e2 _ p2 K2 _ s2 h2 => ?_, fun hn => absurd e1 (hn q1)⟩
        walk_at "rd"
        refine r_neTQ (h1.same s2) h2 (txt_inj (e1.trans e2.symm)) ?_
        walk_at "rx"
        exact ⟨⟨_, rfl⟩, (s.trans s1).trans s2⟩
      · walk_at "rd"
        refine ⟨o, rfl, po, lo, fun q2 e2 => absurd e2 (hn q2), fun _ K2 s2 => ?_⟩
        walk_at "rd"
        refine r_neNN ?_
        walk_at "rx"
        exact ⟨⟨_, rfl⟩, (s.trans s1).trans s2⟩
    · rintro σ H' ⟨⟨z11, rfl⟩, s⟩
      exact ⟨⟨_, _, _, _, _, _, rfl⟩, sX.trans (SameX.of s), (hb5.same s).mono (by omega), hx.same s⟩

end
end K03

set_option Elab.async false
set_option linter.all false
set_option maxRecDepth 100000
set_option maxHeartbeats 8000000
namespace K03
open PySem PySem.Spec PyProof.Rows L2 My
theorem kwg_rel {vs ds zs : List V} {us its ws : List Value} (r : Vals vs us) (_ : Vals ds its) (r2 : Vals zs ws) : Vals (kwg vs ds zs) (kwg us its ws) := by
  cases r with
  | nil => exact .nil
  | cons h0 r =>
    cases r with
    | cons _ _ => exact .nil
    | nil =>
      cases r2 with
      | nil => exact .nil
      | cons h1 r =>
        cases r with
        | nil => exact .nil
        | cons h2 r =>
          cases r with
          | nil => exact .cons h0 (.cons h2 (.cons h1 .nil))
          | cons h3 r => exact .nil
def fns : List DefX := [⟨aMet "Ratio" "__init__", "__init__", "Ratio.__init__", defArgs s_Ratio___init__, defBody s_Ratio___init__, defScope s_Ratio___init__, [.int 1]⟩,
  ⟨aGet "Ratio" "top", "top", "Ratio.top", defArgs s_Ratio_top, defBody s_Ratio_top, defScope s_Ratio_top, []⟩,
  ⟨aGet "Ratio" "bottom", "bottom", "Ratio.bottom", defArgs s_Ratio_bottom, defBody s_Ratio_bottom, defScope s_Ratio_bottom, []⟩,
  ⟨aGlo "is_integer", "is_integer", "is_integer", defArgs s_is_integer, defBody s_is_integer, defScope s_is_integer, []⟩,
  ⟨aMet "Ratio" "__eq__", "__eq__", "Ratio.__eq__", defArgs s_Ratio___eq__, defBody s_Ratio___eq__, defScope s_Ratio___eq__, []⟩,
  ⟨aMet "Ratio" "text", "text", "Ratio.text", defArgs s_Ratio_text, defBody s_Ratio_text, defScope s_Ratio_text, []⟩,
  ⟨aCm "Ratio" "read", "read", "Ratio.read", defArgs s_Ratio_read, defBody s_Ratio_read, defScope s_Ratio_read, []⟩,
  ⟨aGlo "_law_cell", "_law_cell", "_law_cell", defArgs s__law_cell, defBody s__law_cell, defScope s__law_cell, []⟩,
  ⟨aGlo "_law_box", "_law_box", "_law_box", defArgs s__law_box, defBody s__law_box, defScope s__law_box, []⟩,
  ⟨aGlo "_law_take", "_law_take", "_law_take", defArgs s__law_take, defBody s__law_take, defScope s__law_take, []⟩,
  ⟨aGlo "_law_frac", "_law_frac", "_law_frac", defArgs s__law_frac, defBody s__law_frac, defScope s__law_frac, []⟩,
  ⟨aGlo "_law_whole", "_law_whole", "_law_whole", defArgs s__law_whole, defBody s__law_whole, defScope s__law_whole, []⟩,
  ⟨aGlo "_law_due", "_law_due", "_law_due", defArgs s__law_due, defBody s__law_due, defScope s__law_due, []⟩,
  ⟨aGlo "_law_read", "_law_read", "_law_read", defArgs s__law_read, defBody s__law_read, defScope s__law_read, []⟩,
  ⟨aGlo "law", "law", "law", defArgs s_law, defBody s_law, defScope s_law, []⟩]
def fxs : List Fx := [fFree "len", fFree "abs", fFree "int", fFree "str", fFree "bool", fFree "range", fFree "max", fFree "min", fFree "isinstance", fMkr "Ratio", fProp "Ratio" "top", fProp "Ratio" "bottom", fGlo "is_integer", fMeth "Ratio" "__eq__", fMeth "Ratio" "text", fCMet "Ratio" "read", fGlo "_law_cell", fGlo "_law_box", fGlo "_law_take", fGlo "_law_frac", fGlo "_law_whole", fGlo "_law_due", fGlo "_law_read", fGlo "law", fBfun "gcd" "math.gcd", fGlo "Ratio", fIns "Ratio", fNoat "Ratio" "_top", fNoat "Ratio" "_bottom", fIs "Ratio" "Ratio" true, fIsT "Ratio" "int" false, fIsT "Ratio" "bool" false, fNot "Ratio", fNe "Ratio", fExc "ByZero", fExc "BadText", fExm "BadText", fCRead "Ratio"]
abbrev R : PySem.W.OpenRow := PySem.W.OpenLaw.row PySem.Challenge.rw_fairbatches_k03_texts_of_ratios
abbrev qv : Program := PySem.W.view R.prog [0, 19]
abbrev hk : PySem.W.Hook := hookZ 7 fxs fns
def ob (s : PySem.W.SharedT) : He.AlD := obsZG 7 fxs fns (HandSHeadRun.getT s)
theorem ob_eq (s : PySem.W.SharedT) : ob s = hk.obs s.abs := obsZG_eq (HandSHeadRun.getT_eq s)
def names : List Str := ["_wall", "OrderError", "ByZero", "BadText", "BadNumber", "Ratio", "is_integer", "as_ratio", "_law_cell", "_law_box", "_law_take", "_law_frac", "_law_whole", "_law_due", "_law_read"]
theorem run (w : World) : HandSHeadRun.RunEqI R qv hk ob 6000 names w := by
  unfold HandSHeadRun.RunEqI
  kernel_rfl
theorem facts {P : Program} {w : World} {K : PySem.W.Frag} {h : Heap} {mg : Str → Option Value} {fa : Addr} (X : K.In h) (G : h.Ns mainGlobals mg)
    (hfa : mg ("law" : Str) = some (.ref fa)) (c : SaysY fxs fns K) :
    ∃ fd : FuncData, (∀ (s : Shared) (v : Value), BindsTo s fd ⟨[v], []⟩ [(("_law_script" : Str), v)]) ∧
      ∀ base : Heap, K.In base → base.Ns mainGlobals mg → FnG P w K mg base CX0 5 fa fd ["_law_script"] (spLaw K) := by
  obtain ⟨fd_init, F_init⟩ := c.fn_ 0 (d := ⟨aMet "Ratio" "__init__", "__init__", "Ratio.__init__", defArgs s_Ratio___init__, defBody s_Ratio___init__, defScope s_Ratio___init__, [.int 1]⟩) rfl
  obtain ⟨ds0, e0, b_init0⟩ := F_init.binds1 (ps := ["self", "top", "bottom"]) 3 1 (fun z => by cases z) rfl
    (fun _ _ _ _ _ _ _ us its h1 h2 => match us, h1, its, h2 with | [_, _, _], _, [_], _ => ⟨_, rfl, rfl⟩)
  have b_init : L2.Binds K fd_init ["self", "top", "bottom"] [] := by
    cases e0
    exact b_init0
  obtain ⟨ds1, e1, b_init1⟩ := F_init.binds1 (ps := ["self", "top", "bottom"]) 2 0 (fun z => by cases z) rfl
    (fun _ _ _ _ _ _ _ us its h1 h2 => match us, h1, its, h2 with | [_, _], _, [_], _ => ⟨_, rfl, rfl⟩)
  obtain ⟨its, k_init⟩ := F_init.kbindsD (ps := ["self", "top", "bottom"]) 1 ["bottom", "top"] kwg (fun z => by cases z) kwg_rel
    (fun _ _ _ _ _ _ _ us its ws h1 h2 h3 => match us, h1, its, h2, ws, h3 with | [_], _, [_], _, [_, _], _ => ⟨_, rfl, rfl⟩)
  obtain ⟨fd_top, F_top⟩ := c.fn_ 1 (d := ⟨aGet "Ratio" "top", "top", "Ratio.top", defArgs s_Ratio_top, defBody s_Ratio_top, defScope s_Ratio_top, []⟩) rfl
  have b_top : L2.Binds K fd_top ["self"] [] := F_top.bindsN fun _ _ _ _ _ _ us hl => match us, hl with | [_], _ => rfl
  obtain ⟨fd_bottom, F_bottom⟩ := c.fn_ 2 (d := ⟨aGet "Ratio" "bottom", "bottom", "Ratio.bottom", defArgs s_Ratio_bottom, defBody s_Ratio_bottom, defScope s_Ratio_bottom, []⟩) rfl
  have b_bottom : L2.Binds K fd_bottom ["self"] [] := F_bottom.bindsN fun _ _ _ _ _ _ us hl => match us, hl with | [_], _ => rfl
  obtain ⟨fd_is_integer, F_is_integer⟩ := c.fn_ 3 (d := ⟨aGlo "is_integer", "is_integer", "is_integer", defArgs s_is_integer, defBody s_is_integer, defScope s_is_integer, []⟩) rfl
  have b_is_integer : L2.Binds K fd_is_integer ["value"] [] := F_is_integer.bindsN fun _ _ _ _ _ _ us hl => match us, hl with | [_], _ => rfl
  obtain ⟨fd_eq, F_eq⟩ := c.fn_ 4 (d := ⟨aMet "Ratio" "__eq__", "__eq__", "Ratio.__eq__", defArgs s_Ratio___eq__, defBody s_Ratio___eq__, defScope s_Ratio___eq__, []⟩) rfl
  have b_eq : L2.Binds K fd_eq ["self", "other"] [] := F_eq.bindsN fun _ _ _ _ _ _ us hl => match us, hl with | [_, _], _ => rfl
  obtain ⟨fd_text, F_text⟩ := c.fn_ 5 (d := ⟨aMet "Ratio" "text", "text", "Ratio.text", defArgs s_Ratio_text, defBody s_Ratio_text, defScope s_Ratio_text, []⟩) rfl
  have b_text : L2.Binds K fd_text ["self"] [] := F_text.bindsN fun _ _ _ _ _ _ us hl => match us, hl with | [_], _ => rfl
  obtain ⟨fd_read, F_read⟩ := c.fn_ 6 (d := ⟨aCm "Ratio" "read", "read", "Ratio.read", defArgs s_Ratio_read, defBody s_Ratio_read, defScope s_Ratio_read, []⟩) rfl
  have b_read : L2.Binds K fd_read ["cls", "text"] [] := F_read.bindsN fun _ _ _ _ _ _ us hl => match us, hl with | [_, _], _ => rfl
  obtain ⟨fd__law_cell, F__law_cell⟩ := c.fn_ 7 (d := ⟨aGlo "_law_cell", "_law_cell", "_law_cell", defArgs s__law_cell, defBody s__law_cell, defScope s__law_cell, []⟩) rfl
  have b__law_cell : L2.Binds K fd__law_cell ["_law_script", "_law_k"] [] := F__law_cell.bindsN fun _ _ _ _ _ _ us hl => match us, hl with | [_, _], _ => rfl
  obtain ⟨fd__law_box, F__law_box⟩ := c.fn_ 8 (d := ⟨aGlo "_law_box", "_law_box", "_law_box", defArgs s__law_box, defBody s__law_box, defScope s__law_box, []⟩) rfl
  have b__law_box : L2.Binds K fd__law_box ["_law_script", "_law_k"] [] := F__law_box.bindsN fun _ _ _ _ _ _ us hl => match us, hl with | [_, _], _ => rfl
  obtain ⟨fd__law_take, F__law_take⟩ := c.fn_ 9 (d := ⟨aGlo "_law_take", "_law_take", "_law_take", defArgs s__law_take, defBody s__law_take, defScope s__law_take, []⟩) rfl
  have b__law_take : L2.Binds K fd__law_take ["_law_box_here", "_law_many"] [] := F__law_take.bindsN fun _ _ _ _ _ _ us hl => match us, hl with | [_, _], _ => rfl
  obtain ⟨fd__law_frac, F__law_frac⟩ := c.fn_ 10 (d := ⟨aGlo "_law_frac", "_law_frac", "_law_frac", defArgs s__law_frac, defBody s__law_frac, defScope s__law_frac, []⟩) rfl
  have b__law_frac : L2.Binds K fd__law_frac ["_law_up", "_law_down"] [] := F__law_frac.bindsN fun _ _ _ _ _ _ us hl => match us, hl with | [_, _], _ => rfl
  obtain ⟨fd__law_whole, F__law_whole⟩ := c.fn_ 11 (d := ⟨aGlo "_law_whole", "_law_whole", "_law_whole", defArgs s__law_whole, defBody s__law_whole, defScope s__law_whole, []⟩) rfl
  have b__law_whole : L2.Binds K fd__law_whole ["_law_word"] [] := F__law_whole.bindsN fun _ _ _ _ _ _ us hl => match us, hl with | [_], _ => rfl
  obtain ⟨fd__law_due, F__law_due⟩ := c.fn_ 12 (d := ⟨aGlo "_law_due", "_law_due", "_law_due", defArgs s__law_due, defBody s__law_due, defScope s__law_due, []⟩) rfl
  have b__law_due : L2.Binds K fd__law_due ["_law_phrase"] [] := F__law_due.bindsN fun _ _ _ _ _ _ us hl => match us, hl with | [_], _ => rfl
  obtain ⟨fd__law_read, F__law_read⟩ := c.fn_ 13 (d := ⟨aGlo "_law_read", "_law_read", "_law_read", defArgs s__law_read, defBody s__law_read, defScope s__law_read, []⟩) rfl
  have b__law_read : L2.Binds K fd__law_read ["_law_phrase"] [] := F__law_read.bindsN fun _ _ _ _ _ _ us hl => match us, hl with | [_], _ => rfl
  obtain ⟨fd_law, F_law⟩ := c.fn_ 14 (d := ⟨aGlo "law", "law", "law", defArgs s_law, defBody s_law, defScope s_law, []⟩) rfl
  have b_law : L2.Binds K fd_law ["_law_script"] [] := F_law.bindsN fun _ _ _ _ _ _ us hl => match us, hl with | [_], _ => rfl
  have el := hfa.symm.trans (fGlo_ok X G (c.fact 23 (f := fGlo "law")))
  have ef := Value.ref.inj (Option.some.inj el)
  subst ef
  refine ⟨fd_law, fun s v => FunD.bindsA (ps := ["_law_script"]) F_law (fun _ _ _ _ _ _ us hl => match us, hl with | [_], _ => rfl) s [v] rfl, fun base _ _ => ?_⟩
  let D : Dt P w K mg base := {
    free_len := fFree_ok X G (c.fact 0 (f := fFree "len"))
    free_abs := fFree_ok X G (c.fact 1 (f := fFree "abs"))
    free_int := fFree_ok X G (c.fact 2 (f := fFree "int"))
    free_str := fFree_ok X G (c.fact 3 (f := fFree "str"))
    free_bool := fFree_ok X G (c.fact 4 (f := fFree "bool"))
    free_range := fFree_ok X G (c.fact 5 (f := fFree "range"))
    free_max := fFree_ok X G (c.fact 6 (f := fFree "max"))
    free_min := fFree_ok X G (c.fact 7 (f := fFree "min"))
    free_isinstance := fFree_ok X G (c.fact 8 (f := fFree "isinstance"))
    gcd := fBfun_ok X G (c.fact 24 (f := fBfun "gcd" "math.gcd"))
    Ratio := ⟨He.ga K "Ratio", fGlo_ok X G (c.fact 25 (f := fGlo "Ratio")), fIns_ok (c.fact 26 (f := fIns "Ratio")), of_decide_eq_true (c.fact 27 (f := fNoat "Ratio" "_top")), of_decide_eq_true (c.fact 28 (f := fNoat "Ratio" "_bottom")), of_decide_eq_true (c.fact 29 (f := fIs "Ratio" "Ratio" true)), of_decide_eq_true (c.fact 30 (f := fIsT "Ratio" "int" false)), of_decide_eq_true (c.fact 31 (f := fIsT "Ratio" "bool" false)),
      fun T hT => of_decide_eq_true (Bool.and_eq_true_iff.mp (List.all_eq_true.mp (c.fact 32 (f := fNot "Ratio")) T hT)).1, fun T hT => (Bool.and_eq_true_iff.mp (List.all_eq_true.mp (c.fact 32 (f := fNot "Ratio")) T hT)).2⟩
    ne := of_decide_eq_true (c.fact 33 (f := fNe "Ratio"))
    ByZero := calP_of X G (c.fact 34 (f := fExc "ByZero"))
    BadText := calP_of X G (c.fact 35 (f := fExc "BadText"))
    exT := of_decide_eq_true (c.fact 36 (f := fExm "BadText"))
    cread := fCRead_ok (c.fact 37 (f := fCRead "Ratio")) }
  let c_mk : MkC P w K mg base D.Ratio.C D.ByZero.C := ⟨_, fd_init, ok_init D F_init, He.mkr_ok (c.fact 9 (f := fMkr "Ratio")), D.Ratio.gC, b_init, ds1, b_init1, e1, its, k_init⟩
  let c_top : CalV P w K mg base D.Ratio.C "top" "_top" := ⟨_, _, fd_top, fProp_ok (c.fact 10 (f := fProp "Ratio" "top")), ok_top D F_top, b_top⟩
  let c_bottom : CalV P w K mg base D.Ratio.C "bottom" "_bottom" := ⟨_, _, fd_bottom, fProp_ok (c.fact 11 (f := fProp "Ratio" "bottom")), ok_bottom D F_bottom, b_bottom⟩
  let c_is_integer : Cal P w K mg base CX0 1 "is_integer" ["value"] (spIsI K) := ⟨_, fd_is_integer, ok_is_integer D F_is_integer, fGlo_ok X G (c.fact 12 (f := fGlo "is_integer")), F_is_integer.kp, b_is_integer⟩
  let c_eq : CalQ P w K mg base D.Ratio.C CX0 3 "__eq__" (spEqR K D.Ratio.C) := ⟨_, fd_eq, ok_eq D c_top c_bottom c_is_integer F_eq, (He.meth_ok (c.fact 13 (f := fMeth "Ratio" "__eq__"))).at_, (He.meth_ok (c.fact 13 (f := fMeth "Ratio" "__eq__"))).fn, b_eq⟩
  let c_text : CalM P w K mg base D.Ratio.C CX0 1 "text" ["self"] (spTxt D.Ratio.C) := ⟨_, fd_text, ok_text D F_text, He.meth_ok (c.fact 14 (f := fMeth "Ratio" "text")), b_text⟩
  let c_read : CmC P w K mg base D.Ratio.C 3 (spRead D.Ratio.C D.BadText.C) := ⟨_, _, fd_read, fCMet_ok (c.fact 15 (f := fCMet "Ratio" "read")), ok_read D c_mk c_text F_read, b_read⟩
  have k_read : KBn K c_read.fd ["cls", "text"] 1 ["text"] (fun us ws => us ++ ws) kwO := kbn_of F_read (fun r1 r2 => r1.append r2)
    (fun _ _ _ _ _ _ us ws h1 h2 => match us, h1, ws, h2 with | [_], _, [_], _ => rfl)
  let c_law_cell : Cal P w K mg base CX0 1 "_law_cell" ["_law_script", "_law_k"] (spCel K) := ⟨_, fd__law_cell, ok_law_cell D F__law_cell, fGlo_ok X G (c.fact 16 (f := fGlo "_law_cell")), F__law_cell.kp, b__law_cell⟩
  let c_law_box : Cal P w K mg base CX0 2 "_law_box" ["_law_script", "_law_k"] (spBx K) := ⟨_, fd__law_box, ok_law_box D c_law_cell F__law_box, fGlo_ok X G (c.fact 17 (f := fGlo "_law_box")), F__law_box.kp, b__law_box⟩
  let c_law_take : Cal P w K mg base CX0 1 "_law_take" ["_law_box_here", "_law_many"] spTk := ⟨_, fd__law_take, ok_law_take D F__law_take, fGlo_ok X G (c.fact 18 (f := fGlo "_law_take")), F__law_take.kp, b__law_take⟩
  let c_law_frac : Cal P w K mg base CX0 1 "_law_frac" ["_law_up", "_law_down"] spFr := ⟨_, fd__law_frac, ok_law_frac D F__law_frac, fGlo_ok X G (c.fact 19 (f := fGlo "_law_frac")), F__law_frac.kp, b__law_frac⟩
  let c_law_whole : Cal P w K mg base CX0 1 "_law_whole" ["_law_word"] spWhole := ⟨_, fd__law_whole, ok_law_whole D F__law_whole, fGlo_ok X G (c.fact 20 (f := fGlo "_law_whole")), F__law_whole.kp, b__law_whole⟩
  let c_law_due : Cal P w K mg base CX0 2 "_law_due" ["_law_phrase"] spOne := ⟨_, fd__law_due, ok_law_due D c_law_whole c_law_frac F__law_due, fGlo_ok X G (c.fact 21 (f := fGlo "_law_due")), F__law_due.kp, b__law_due⟩
  let c_law_read : Cal P w K mg base CX0 4 "_law_read" ["_law_phrase"] spOne := ⟨_, fd__law_read, ok_law_read D c_top c_bottom c_read F__law_read, fGlo_ok X G (c.fact 22 (f := fGlo "_law_read")), F__law_read.kp, b__law_read⟩
  exact ok_law D c_mk c_text c_eq c_read k_read c_law_box c_law_take c_law_frac c_law_due c_law_read F_law

end K03
open PySem PySem.W PySem.Calls PyProof.Rows
set_option maxRecDepth 100000 in
set_option maxHeartbeats 0 in
theorem PySem.Challenge.cw_fairbatches_k03_texts_of_ratios_holds : PySem.Challenge.rw_fairbatches_k03_texts_of_ratios.Holds := by
  w_on; o_law
  refine HandSHeadRun.head_imp (r := K03.R) (q := K03.qv) (H := K03.hk) (ob := K03.ob) (M := 6000) (loose := K03.names)
    (d := HandSHeadRun.topDef K03.R.prog 19) (kwd := []) K03.ob_eq K03.run (by kernel_rfl) (by kernel_rfl)
    (by kernel_rfl) (by rfl) (by first | assumption | decide +kernel) (by decide +kernel) ⟨rfl, rfl, rfl, rfl, rfl, by decide +kernel⟩ ?hw ?hc
  case hw => w_witness2
  case hc =>
    refine My.walk_ofG (l := PySem.Challenge.rw_fairbatches_k03_texts_of_ratios) (n := 63) (k := 5) (x := "_law_script") (CX := fun _ => L2.CX0) rfl (by decide)
      (by kernel_rfl) ⟨rfl, by decide, by decide⟩ ?F (fun _ _ _ _ _ z => z)
    intro w mg fa h Y G hmg0
    obtain ⟨K, KX, c⟩ := Y
    have hmg : mg ("law" : PySem.Str) = some (.ref fa) := by
      have e : (HandSHeadRun.topDef K03.R.prog 19).name = ("law" : PySem.Str) := by kernel_rfl
      rw [← e]
      exact hmg0
    obtain ⟨fd, hb, hF⟩ := K03.facts (P := (PySem.Challenge.rw_fairbatches_k03_texts_of_ratios).prog) (w := w) KX G hmg c
    exact ⟨K, fd, K03.spLaw K, KX, hb, fun H a ns hl _ _ hS => ⟨a, ns, rfl, hS, hl, fun _ => rfl⟩, hF⟩
#print axioms PySem.Challenge.cw_fairbatches_k03_texts_of_ratios_holds

