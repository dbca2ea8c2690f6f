import PyProof.Rows.All
import Wide.All
import OpenK.AllK
import Wide.FinOn
import KE.KStateDown
import HandS.ForMost
import HandS.Defaults
import HandS.MakeKwOnly
import HandS.Star
import HandS.FStr
import HandS.IsInst
import HandS.TupAny
import HandS.Property
import HandS.OwnEq
import HandS.Exc
import HandS.Evl
import PyProof.ReprRoads
import HandS.Head0
import HandS.Head1
import HandS.Head2
import HandS.HeadEnd
import HandS.HeadHook1
import HandS.HeadHook2
import HandS.OwnIter
import HandS.IterVal
import HandS.ExcInit
import HandS.ExcField
import HandS.TryMany
import HandS.TryOnly
import HandS.Nested
import KE.KExcSuper
import HandS.ExcOwn
import OpenK.KMeth
import OpenK.KOps
import PySem.Challenge.RW_tinkerhall_k06_catalogues
set_option Elab.async false
set_option linter.all false
set_option maxRecDepth 100000
/-! ## Lay1 -/
set_option maxHeartbeats 4000000
/-! A layer of the prover's own over HandS: defs that are run where no repr is on the stack. -/
namespace Gd
open PySem PySem.Spec PyProof.Rows L2

section
variable {P : Program} {w : World} {K : PySem.W.Frag} {mg : Str → Option Value} {base : Heap}

/-- a def's promise, told only where the stack holds no guard (so that a text of data can be made) -/
structure FnG (P : Program) (w : World) (K : PySem.W.Frag) (mg : Str → Option Value) (base : Heap) (k : Nat) (f : Addr) (fd : FuncData) (ps : List Str) (sp : Sp) : Prop where
  many : ∀ vs H Q E, sp vs H Q E → vs.length = ps.length
  goes : ∀ (A : Around) (outer : List Env) (s : Shared) (H : Hp) (args : Args) (us : List Value) (vs : List V) (Q : VK),
    A.guards = some [] → Room k A → Env0 P w K mg base A outer s H → BindsTo s fd args (ps.zip us) → Vals vs us → sp vs H Q E0 →
    codeAny (model P w) A (.call (.ref f) args) (CR CX0 outer P w H s Q E0) s

theorem FnG.of {k : Nat} {f : Addr} {fd : FuncData} {ps : List Str} {sp : Sp} (F : FnOk P w K mg base CX0 k f fd ps sp) : FnG P w K mg base k f fd ps sp :=
  ⟨F.len, fun A outer s H args us vs Q _ hr he hb hv hs => F.run A outer s H args us vs Q E0 hr he hb hv hs⟩

/-- the body of such a def: as for the layer's own rule, with the stack's fact besides -/
theorem fnG_of {k : Nat} {f : Addr} {x qual : Str} {params : Arguments} {body : List Stmt} {scope : Scope} {dvs : List V} {kws : List (Str × V)} {fd : FuncData} {N ps : List Str} {sp : Sp}
    (F : FunD K x qual params body scope dvs kws f fd) (S : FnScope N ps scope) (many : ∀ vs H Q E, sp vs H Q E → vs.length = ps.length)
    (hbody : ∀ (cdv : Value) (A : Around) (outer : List Env) (s : Shared) (H : Hp) (vs : List V) (Q : VK), A.guards = some [] →
      Room k (A.deeper (envOfC qual scope s.heap.objs.size f cdv)) → sp vs H Q E0 →
      ∃ t, PSs (cxOf CX0 P w K mg base N qual scope f cdv A outer s H E0) body t ∧ t { nx := fun _ H' => Q .non H', rt := Q } (start N vs) H) :
    FnG P w K mg base (k + 1) f fd ps sp := by
  obtain ⟨oc, od, dV, kV, doc, pm, an, cdv, ct, osl, rfl, lk, hcd, _, _⟩ := F.ex
  refine ⟨many, fun A outer s H args us vs Q hg hr e0 hb r hsp => ?_⟩
  have many' := many _ _ _ _ hsp
  have stays : ∀ b o, base.get? b = some o → s.heap.get? b = some o := fun b o e => (e0.bs b o e).1
  have inK := e0.mod.kin.keeps stays
  have free := e0.mod.nolimit.keeps stays
  have kinds : ∀ q ∈ ps.zip us, scope.names.lookup q.1 = some .local ∨
      (scope.names.lookup q.1 = some .cell ∧ ((cellsFrom (s.heap.objs.size + 1) scope.names []).lookup q.1).isSome = true) := by
    rintro ⟨n, v⟩ hq
    cases S.par n (List.of_mem_zip hq).1 with
    | inl l => exact Or.inl l
    | inr c => exact Or.inr ⟨c, PySem.W.cellsFrom_some _ _ _ (Or.inl c)⟩
  refine codeAny_call_function hr.depth (inK _ _ lk) rfl S.co S.gen rfl
    (PySem.W.codeRec_of inK hcd) (hb _ _ _ _ ?_)
  refine wpAny_newFunctionEnv_cells S.kind kinds fun env made s1 entered => ?_
  subst made
  refine ⟨free.keeps entered.toInCall.keep, codeAny_func ?_⟩
  obtain ⟨t, runs, reads⟩ := hbody cdv A outer s H vs Q hg (hr.deeper _) hsp
  have I : Inv (cxOf CX0 P w K mg base N qual scope f cdv A outer s H E0) [] (start N vs) H s1 :=
    inv_start S hr.hd e0 many' r entered
  refine wpAny_mono (runs.run [] s1 (start N vs) H _ I reads) (fun fl s' ends => ?_)
    fun _ _ z => z
  cases fl with
  | ret u =>
    obtain ⟨v, _, H', J, rv, q⟩ := ends
    exact ⟨v, H', J.os, J.bare, J.base, J.hok, rv, q⟩
  | next =>
    obtain ⟨_, H', J, q⟩ := ends
    exact ⟨V.non, H', J.os, J.bare, J.base, J.hok, rfl, q⟩
  | brk => obtain ⟨_, _, _, z⟩ := ends; exact z.elim
  | cont => obtain ⟨_, _, _, z⟩ := ends; exact z.elim
end

/-! ### the call of such a def in a body that knows its stack -/
section
variable {X : Cx} {k : Nat} {f : Addr} {fd : FuncData} {ps : List Str} {sp : Sp} {x : Str} {p pos : Pos} {e : Expr} {es : List Expr} {t : TA}
theorem pe_callG (F : FnG X.prog X.w X.K X.mg X.base k f fd ps sp) (hgd : X.A.guards = some []) (hr : Room k X.A) (hg : Gl X x)
    (hm : X.mg x = some (.ref f)) (hk : PySem.W.keepIn X.K (.ref f) = true) (hb : Binds X.K fd ps []) (ha : PA X (e :: es) t)
    (hdb : (x == ("__debug__" : Str)) = false := by decide)
    (he : starEach (e :: es) X.env = (false, eval e X.env) :: starEach es X.env := by rfl)
    (hpl : (backTo pos (starEach es X.env)).any (·.1) = false := by rfl) :
    PE X (.Call (.Name x p) (e :: es) [] pos) (tCall sp [] E0 t) := by
  constructor
  intro pins s σ H Q I h
  refine wpAny_Call_Name_kw (ld_glob I hg hm ?_ hdb)
  refine PySem.W.callWith_K (h₀ := X.base) I.ok.mod.kin hk
    (thn (ha.run pos pins s σ H _ I h) ?_) he hpl
  rintro us s1 ⟨vs, H1, I1, r, q⟩
  refine ⟨I1.kIn, ?_⟩
  have q : sp vs H1 Q E0 := by
    have q' : sp (vs ++ []) H1 Q E0 := q
    rw [List.append_nil] at q'
    exact q'
  have n : (us ++ []).length = ps.length := by
    rw [List.append_nil, ← r.length]
    exact F.many _ _ _ _ q
  have bound := hb s1 us I1.kIn n
  rw [List.append_nil] at bound
  refine wpAny_call (codeAny_mono (F.goes X.A X.stack s1 H1 _ us vs Q hgd hr I1.env0 bound r q) fun res s' hq => ?_)
  match res, hq with
  | .error er, hq => exact False.elim hq
  | .ok (.ret u), hq => exact I1.after hq
end

/-! ### the text of data -/
/-- repr of a piece of data, where the stack holds no guard -/
def rRepr (K : PySem.W.Frag) : List V → Hp → VK → Prop := fun xs H Q => ∃ v d, xs = [v] ∧ Dp K H v d ∧ d.showable = true ∧ d.hasDict = false ∧ d.depth ≤ 64 ∧ d.shown.length ≤ sizeLine ∧ Q (.str d.shown) H
section
variable {X : Cx}
theorem call_repr (hgd : X.A.guards = some []) (hu : X.A.units + 100 < cLine) : CallR X (.builtin "repr") (rRepr X.K) := by
  intro pins s σ H xs us Q I r h
  obtain ⟨v, d, rfl, hd, hs, hn, hdep, hsz, q⟩ := h
  cases r with
  | cons rv rn =>
    cases rn
    rename_i u
    obtain ⟨as, rd⟩ := Dp.reads I d v u hd rv
    cases hd with
    | non =>
      cases (show u = Value.none from rv)
      refine PySem.P.repr_of_none ⟨.str _, H, I.tok _, ⟨_, rfl⟩, ?_⟩
      simpa only [PyData.shown] using q
    | bl b =>
      cases (show u = Value.bool b from rv)
      refine PySem.P.repr_of_bool ⟨.str _, H, I.tok _, ⟨_, rfl⟩, ?_⟩
      simpa only [PyData.shown] using q
    | int i =>
      obtain ⟨tk, rfl⟩ := rv
      refine PySem.P.repr_of_int (by simpa [PyData.showable] using hs) ⟨.str _, H, I.tok _, ⟨_, rfl⟩, ?_⟩
      simpa only [PyData.shown] using q
    | str x =>
      obtain ⟨tk, rfl⟩ := rv
      refine PySem.P.repr_of_str ⟨.str _, H, I.tok _, ⟨_, rfl⟩, ?_⟩ (by simpa only [PyData.shown] using hsz)
      simpa only [PyData.shown] using q
    | lst h1 h2 =>
      rename_i a xs ds
      cases (show u = Value.ref a from rv)
      refine repr_of_reads' rd hs (fun z => by rw [hn] at z; cases z) hgd (by omega) (fun _ _ e => e) (fun h' tx tk kp => ?_) hsz
      exact ⟨.str _, H, I.kept kp, ⟨_, rfl⟩, q⟩
    | tup h1 h2 =>
      rename_i a xs ds
      cases (show u = Value.ref a from rv)
      refine repr_of_reads' rd hs (fun z => by rw [hn] at z; cases z) hgd (by omega) (fun _ _ e => e) (fun h' tx tk kp => ?_) hsz
      exact ⟨.str _, H, I.kept kp, ⟨_, rfl⟩, q⟩
end

/-! ### the law's own call: from what its def promises, told for the caller's stack -/
section
variable {P : Program} {w : World} {K : PySem.W.Frag} {mg mb : Str → Option Value} {k : Nat} {fa a : Addr} {fd : FuncData} {x : Str} {sp : Sp} {t₁ : Shared} {vs : List Value} {ns : List Int}
/-- the end, from an abstract heap that tracks nothing but (perhaps) the script -/
theorem from_heap (KX : K.In t₁.heap) (hns : t₁.heap.Ns mainGlobals mg) (hb : t₁.heap.Ns builtinsNs mb) (hbb : ∀ y : Str, y ≠ "__name__" → mb y = bootBuiltins y)
    (hlim : t₁.heap.NoLimit) (hgen : t₁.gens = #[]) (ha : t₁.heap.get? a = some { cls := .type "list", data := .seq vs.toArray }) (hr : Room k callerA)
    (F : ∀ base : Heap, K.In base → base.Ns mainGlobals mg → FnG P w K mg base k fa fd [x] sp)
    (hbind : ∀ (s : Shared) (u : Value), BindsTo s fd ⟨[u], []⟩ [(x, u)])
    (H : Hp) (only : Only H) (hok : HOk P w H t₁.heap) (at_a : ∀ b, H b ≠ none → b = a) (notK : H a ≠ none → K.lookup a = none)
    (hsp : sp [.ref a] H (fun v _ => v = .bl true) E0) :
    codeAny (model P w) callerA (.call (.ref fa) ⟨[.ref a], []⟩)
      (fun r s' => r = .ok (.ret (.bool true)) ∧ OldK t₁.heap s'.heap ∧ s'.os = t₁.os ∧ AllBare s'.gens) t₁ := by
  have untracked : ∀ {b : Addr} {o : Obj}, t₁.heap.get? b = some o → b ≠ a → H b = none := fun {b o} _ hne => by
    cases e : H b with
    | none => rfl
    | some u => exact absurd (at_a b (by rw [e]; simp)) hne
  have dict_ne : ∀ {b : Addr} {o : Obj} {es : Array DictEntry} {n : Nat}, t₁.heap.get? b = some o → o.data = .dict es n → b ≠ a := by
    rintro b o es n e d rfl
    rw [ha] at e
    cases e
    cases (show Data.seq vs.toArray _ = Data.dict es n from d)
  have ns_to : ∀ {b : Addr} {m : Str → Option Value}, t₁.heap.Ns b m → (hidT t₁.heap H).Ns b m := by
    rintro b m ⟨o, es, n, e, d, rest⟩
    exact ⟨o, es, n, hidT_get e (untracked e (dict_ne e d)), d, rest⟩
  have inBase : K.In (hidT t₁.heap H) := by
    intro b o e
    refine hidT_get (KX b o e) ?_
    cases q : H b with
    | none => rfl
    | some u =>
      have hq : H b ≠ none := by rw [q]; simp
      have eb := at_a b hq
      subst eb
      rw [notK hq] at e
      cases e
  have lim : (hidT t₁.heap H).NoLimit := by
    obtain ⟨m, h1, h2⟩ := hlim
    exact ⟨m, ns_to h1, h2⟩
  have e0 : Env0 P w K mg (hidT t₁.heap H) callerA [] t₁ H :=
    ⟨rfl, ⟨inBase, ns_to hns, ⟨mb, ns_to hb, hbb⟩, lim⟩, fun _ _ e => of_hidT e, Nat.le_of_eq (hidT_size _ _), trivial,
      fun b z => absurd (show b ∈ ([] : List Addr) from z) (by simp), hok, .of_eq hgen⟩
  refine codeAny_mono ((F _ inBase (ns_to hns)).goes callerA [] t₁ H ⟨[.ref a], []⟩ [.ref a] [.ref a] _ rfl hr e0
    (hbind t₁ (.ref a)) (.cons rfl .nil) hsp) fun res s' h => ?_
  match res, h with
  | .error _, h => exact False.elim h
  | .ok (.ret u), h =>
    obtain ⟨v, H', os, bare, un, hok', rv, rfl⟩ := h
    cases (show u = Value.bool true from rv)
    refine ⟨rfl, OldK.of_keep fun b o e => ?_, os, bare⟩
    cases q : H b with
    | none => exact un.keep b o e q (fun z => absurd (show b ∈ ([] : List Addr) from z) (by simp)) (by simp)
    | some u =>
      rcases only b with z | ⟨ob, ys, z⟩
      · rw [q] at z; cases z
      · obtain ⟨g1, _⟩ := hok b _ z
        obtain ⟨g2, _⟩ := hok' b _ (un.frzs b ob _ z)
        rw [e] at g1
        cases g1
        exact g2

theorem law_callG (KX : K.In t₁.heap) (hns : t₁.heap.Ns mainGlobals mg) (hb : t₁.heap.Ns builtinsNs mb) (hbb : ∀ y : Str, y ≠ "__name__" → mb y = bootBuiltins y)
    (hlim : t₁.heap.NoLimit) (hgen : t₁.gens = #[]) (ha : t₁.heap.get? a = some { cls := .type "list", data := .seq vs.toArray }) (hi : IntsAre vs ns) (hl : ns.length ≤ sizeLine)
    (hr : Room k callerA) (F : ∀ base : Heap, K.In base → base.Ns mainGlobals mg → FnG P w K mg base k fa fd [x] sp)
    (hbind : ∀ (s : Shared) (u : Value), BindsTo s fd ⟨[u], []⟩ [(x, u)])
    (hsp : ∀ H : Hp, Only H → SqL K H a (ns.map V.int) → sp [.ref a] H (fun v _ => v = .bl true) E0) :
    codeAny (model P w) callerA (.call (.ref fa) ⟨[.ref a], []⟩)
      (fun r s' => r = .ok (.ret (.bool true)) ∧ OldK t₁.heap s'.heap ∧ s'.os = t₁.os ∧ AllBare s'.gens) t₁ := by
  have rel := vals_ints hi
  cases inK : K.lookup a with
  | some o =>
    have e := KX a o inK
    rw [ha] at e
    cases e
    have len : (ns.map V.int).length ≤ sizeLine := by rw [List.length_map]; exact hl
    refine from_heap KX hns hb hbb hlim hgen ha hr F hbind (fun _ => none) (fun _ => Or.inl rfl)
      (fun b u z => by cases (show (none : Option HO) = some u from z)) (fun b z => absurd rfl z) (fun z => absurd rfl z) ?_
    refine hsp _ (fun _ => Or.inl rfl) (Or.inr ⟨_, vs.toArray, _, inK, rfl, rfl, rfl, ?_, by simpa using rel⟩)
    rw [List.size_toArray, hi.length]
    exact hl
  | none =>
    have there : ∀ b, (if b = a then some (HO.frz { cls := .type "list", data := .seq vs.toArray } (.lst (ns.map V.int))) else none : Option HO) ≠ none → b = a := by
      intro b z
      by_cases h : b = a
      · exact h
      · exact absurd (if_neg h) z
    have known : Only (fun b => if b = a then some (HO.frz { cls := .type "list", data := .seq vs.toArray } (.lst (ns.map V.int))) else none) := by
      intro b
      by_cases h : b = a
      · exact Or.inr ⟨_, _, if_pos h⟩
      · exact Or.inl (if_neg h)
    refine from_heap KX hns hb hbb hlim hgen ha hr F hbind _ known ?_ there (fun _ => inK)
      (hsp _ known (Or.inl (Or.inr ⟨_, if_pos rfl⟩)))
    intro b u z
    by_cases h : b = a
    · subst h
      cases (if_pos rfl).symm.trans z
      exact ⟨ha, by rw [List.length_map]; exact hl, vs, _, rel, ha⟩
    · cases (if_neg h).symm.trans z
end

/-- the end of a law's row over a head by facts -/
theorem walk_G {l : PySem.W.OpenLaw} {n k : Nat} {q : Program} {loose : List Str} {XP : (Str → Option Value) → Heap → Prop} {YP : World → Heap → Prop} {d : DefRec} {x : Str}
    (hn : l.most = some n) (hn2 : n ≤ sizeLine) (hdf : d.params.defaults = []) (hr : Room k callerA)
    (F : ∀ (w : World) (mg : Str → Option Value) (fa : Addr) (h : Heap), YP w h → h.Ns mainGlobals mg → mg d.name = some (.ref fa) →
      ∃ (K : PySem.W.Frag) (fd : FuncData) (sp : Sp), K.In h ∧ (∀ (s : Shared) (u : Value), BindsTo s fd ⟨[u], []⟩ [(x, u)]) ∧
        (∀ (H : Hp) (a : Addr) (ns : List Int), ns.length ≤ n → Only H → SqL K H a (ns.map V.int) → sp [.ref a] H (fun v _ => v = .bl true) E0) ∧
        ∀ base : Heap, K.In base → base.Ns mainGlobals mg → FnG l.prog w K mg base k fa fd [x] sp) :
    PySem.W.WalkO q loose XP YP l.row.toRowW d [] (fun f vs => PySem.call f vs) := by
  refine Att.attach_call hn hdf ?_
  intro w s₀ s₁ mg mb fa o pm cd doc a vs ns G Y _ _ _ hmg hobj hints hlen hg
  obtain ⟨K, fd, sp, KX, bound, hsp, hF⟩ := F w mg fa _ Y G.T.g hmg
  exact law_callG KX G.T.g G.T.b G.T.builtins G.T.nolimit hg hobj hints (Nat.le_trans hlen hn2) hr hF bound
    fun H hO hS => hsp H a ns hlen hO hS
end Gd

/-! ## Lay2 -/
set_option maxHeartbeats 4000000
namespace Gd
open PySem PySem.Spec PyProof.Rows L2

/-! ### a def that keeps its promise, in short -/
section
variable {P : Program} {w : World} {K : PySem.W.Frag} {mg : Str → Option Value} {base : Heap}
/-- the def at f, called with as many values as it has parameters -/
def Ok (P : Program) (w : World) (K : PySem.W.Frag) (mg : Str → Option Value) (base : Heap) (k : Nat) (f : Addr) (ps : List Str) (sp : Sp) : Prop :=
  ∃ fd, FnOk P w K mg base CX0 k f fd ps sp ∧ Binds K fd ps [] ∧ PySem.W.keepIn K (.ref f) = true
def OkG (P : Program) (w : World) (K : PySem.W.Frag) (mg : Str → Option Value) (base : Heap) (k : Nat) (f : Addr) (ps : List Str) (sp : Sp) : Prop :=
  ∃ fd, FnG P w K mg base k f fd ps sp ∧ Binds K fd ps [] ∧ PySem.W.keepIn K (.ref f) = true
theorem Ok.mono {j k : Nat} {f : Addr} {ps : List Str} {sp : Sp} (F : Ok P w K mg base j f ps sp) (h : j ≤ k) : Ok P w K mg base k f ps sp :=
  let ⟨fd, a, b, c⟩ := F; ⟨fd, a.mono h, b, c⟩
/-- from its body -/
theorem ok_of {x qual : Str} {params : Arguments} {body : List Stmt} {scope : Scope} {dvs : List V} {kws : List (Str × V)} {f : Addr} {fd : FuncData} {N ps : List Str} {k : Nat} {sp : Sp}
    (F : FunD K x qual params body scope dvs kws f fd) (b : Binds K fd ps []) (S : FnScope N ps scope) (many : ∀ vs H Q E, sp vs H Q E → vs.length = ps.length)
    (hbody : ∀ (cdv : Value) (A : Around) (outer : List Env) (s : Shared) (H : Hp) (vs : List V) (Q : VK) (E : XK), Room k (A.deeper (envOfC qual scope s.heap.objs.size f cdv)) → sp vs H Q E →
      ∃ t, PSs (cxOf CX0 P w K mg base N qual scope f cdv A outer s H E).nox body t ∧ t { nx := fun _ H' => Q .non H', rt := Q } (start N vs) H) :
    Ok P w K mg base (k + 1) f ps sp := by
  refine ⟨fd, F.ok S many fun cdv A outer s H vs Q E hr h => ?_, b, F.kp⟩
  obtain ⟨t, p, q⟩ := hbody cdv A outer s H vs Q E hr h
  exact ⟨t, p.nox, q⟩
theorem okG_of {x qual : Str} {params : Arguments} {body : List Stmt} {scope : Scope} {dvs : List V} {kws : List (Str × V)} {f : Addr} {fd : FuncData} {N ps : List Str} {k : Nat} {sp : Sp}
    (F : FunD K x qual params body scope dvs kws f fd) (b : Binds K fd ps []) (S : FnScope N ps scope) (many : ∀ vs H Q E, sp vs H Q E → vs.length = ps.length)
    (hbody : ∀ (cdv : Value) (A : Around) (outer : List Env) (s : Shared) (H : Hp) (vs : List V) (Q : VK), A.guards = some [] →
      Room k (A.deeper (envOfC qual scope s.heap.objs.size f cdv)) → sp vs H Q E0 →
      ∃ t, PSs (cxOf CX0 P w K mg base N qual scope f cdv A outer s H E0).nox body t ∧ t { nx := fun _ H' => Q .non H', rt := Q } (start N vs) H) :
    OkG P w K mg base (k + 1) f ps sp := by
  refine ⟨fd, fnG_of F S many fun cdv A outer s H vs Q hg hr h => ?_, b, F.kp⟩
  obtain ⟨t, p, q⟩ := hbody cdv A outer s H vs Q hg hr h
  exact ⟨t, p.nox, q⟩
end
section
variable {X : Cx} {n k : Nat} {f C : Addr} {ps : List Str} {sp : Sp} {x m : Str} {p pos apos : Pos} {e o : Expr} {es : List Expr} {t : TA} {ta : TE}
theorem pk (F : Ok X.prog X.w X.K X.mg X.base k f ps sp) (hr : Room n X.A) (hg : Gl X x) (hm : X.mg x = some (.ref f)) (ha : PA X (e :: es) t) (hk : k ≤ n := by decide)
    (hdb : (x == ("__debug__" : Str)) = false := by decide)
    (he : starEach (e :: es) X.env = (false, eval e X.env) :: starEach es X.env := by rfl) (hpl : (backTo pos (starEach es X.env)).any (·.1) = false := by rfl) :
    PE X (.Call (.Name x p) (e :: es) [] pos) (tCall sp [] E0 t) := by
  obtain ⟨fd, F, b, kp⟩ := F
  exact pe_call F (hr.mono hk) hg hm kp b .nil pass0 ha hdb he hpl
theorem pk0 (F : Ok X.prog X.w X.K X.mg X.base k f ps sp) (hr : Room n X.A) (hg : Gl X x) (hm : X.mg x = some (.ref f)) (hk : k ≤ n := by decide)
    (hdb : (x == ("__debug__" : Str)) = false := by decide) : PE X (.Call (.Name x p) [] [] pos) (tCall sp [] E0 tNil) := by
  obtain ⟨fd, F, b, kp⟩ := F
  exact pe_call0 F (hr.mono hk) hg hm kp b .nil pass0 hdb
theorem pkG (F : OkG X.prog X.w X.K X.mg X.base k f ps sp) (hgd : X.A.guards = some []) (hr : Room n X.A) (hg : Gl X x) (hm : X.mg x = some (.ref f)) (ha : PA X (e :: es) t) (hk : k ≤ n := by decide)
    (hdb : (x == ("__debug__" : Str)) = false := by decide)
    (he : starEach (e :: es) X.env = (false, eval e X.env) :: starEach es X.env := by rfl) (hpl : (backTo pos (starEach es X.env)).any (·.1) = false := by rfl) :
    PE X (.Call (.Name x p) (e :: es) [] pos) (tCall sp [] E0 t) := by
  obtain ⟨fd, F, b, kp⟩ := F
  exact pe_callG F hgd (hr.mono hk) hg hm kp b ha hdb he hpl
theorem pkM (F : Ok X.prog X.w X.K X.mg X.base k f ps sp) (hr : Room n X.A) (c : Cls X.K C) (hm : Meth X.K C m f) (ho : PE X o ta) (ha : PA X (e :: es) t) (hk : k ≤ n := by decide) {pl : Sem Bool}
    (hst : starEach (e :: es) X.env = (false, eval e X.env) :: starEach es X.env := by rfl) (hpl : (backTo pos (starEach es X.env)).any (·.1) = false := by rfl)
    (ht : eval (.Call (.Attribute o m apos) (e :: es) [] pos) X.env = (do
      let ov ← eval o X.env
      standAt apos.atName
      let (f, first) ← holding [ov] (getMethod ov m pl)
      callWith pos f first (backTo pos (starEach (e :: es) X.env)) (backToKw pos (keywordEach [] X.env))) := by rfl) :
    PE X (.Call (.Attribute o m apos) (e :: es) [] pos) (tMeth C m sp [] E0 ta t) := by
  obtain ⟨fd, F, b, kp⟩ := F
  exact pe_meth ho c hm F (hr.mono hk) b .nil pass0 ha hst hpl ht
theorem pkM0 (F : Ok X.prog X.w X.K X.mg X.base k f ps sp) (hr : Room n X.A) (c : Cls X.K C) (hm : Meth X.K C m f) (ho : PE X o ta) (hk : k ≤ n := by decide) {pl : Sem Bool}
    (ht : eval (.Call (.Attribute o m apos) [] [] pos) X.env = (do
      let ov ← eval o X.env
      standAt apos.atName
      let (f, first) ← holding [ov] (getMethod ov m pl)
      callWith pos f first (backTo pos (starEach [] X.env)) (backToKw pos (keywordEach [] X.env))) := by rfl) :
    PE X (.Call (.Attribute o m apos) [] [] pos) (tMeth C m sp [] E0 ta tNil) := by
  obtain ⟨fd, F, b, kp⟩ := F
  exact pe_meth0 ho c hm F (hr.mono hk) b .nil pass0 ht
end
end Gd

/-! ## Lay3 -/
set_option maxHeartbeats 4000000
/-! What the top leaves, by tests of my own on the written part, and defs found at any address. -/
namespace Gd
open PySem PySem.Spec PyProof.Rows L2
abbrev Frg := PySem.W.Frag
/-- a def of the text: where it stands, and what it says -/
structure DefA where
  place : Frg → Addr
  name : Str
  qual : Str
  stm : Stmt
  dfl : List He.Dv := []
  kwd : List (Str × He.Dv) := []
def seenAt (K : Frg) (a : Addr) : He.FnW :=
  match K.lookup a with
  | some ⟨_, _, .func fd, _⟩ => some (fd.name, fd.qualname, fd.params, fd.body, fd.scope, fd.globals, fd.closure, fd.builtins)
  | _ => none
def DefA.due (d : DefA) : He.FnW := some (d.name, d.qual, defArgs d.stm, .stmts (defBody d.stm), defScope d.stm, mainGlobals, [], builtinsNs)
def DefA.dvs (d : DefA) (K : Frg) : List V := d.dfl.map (He.Dv.v K)
def DefA.kws (d : DefA) (K : Frg) : List (Str × V) := d.kwd.map fun q => (q.1, q.2.v K)
def DefA.good (d : DefA) (K : Frg) : Bool :=
  PySem.W.keepIn K (.ref (d.place K)) &&
    match K.lookup (d.place K) with
    | some ⟨_, _, .func fd, _⟩ => PySem.W.codeIn K fd.code d.qual && (He.dflB K fd.defaults (d.dvs K) && He.kwdB K fd.kwdefaults (d.kws K))
    | _ => false
theorem both {a b : Bool} (h : (a && b) = true) : a = true ∧ b = true := by
  cases a <;> cases b <;> simp_all
theorem DefA.fun {K : Frg} {d : DefA} (e : seenAt K (d.place K) = d.due) (c : d.good K = true) :
    ∃ fd, FunD K d.name d.qual (defArgs d.stm) (defBody d.stm) (defScope d.stm) (d.dvs K) (d.kws K) (d.place K) fd := by
  have c1 := (both c).1
  have c2 := (both c).2
  unfold seenAt at e
  cases q : K.lookup (d.place K) with
  | none => rw [q] at c2; cases c2
  | some o =>
    rw [q] at c2 e
    obtain ⟨oc, od, dt, osl⟩ := o
    cases dt with
    | func fd =>
      obtain ⟨m1, m2, m3, m4, m5, m6, m7, m8, m9, m10, m11, m12, m13, m14, m15⟩ := fd
      have e' : (some (m1, m2, m3, m4, m5, m6, m7, m15) : He.FnW) =
        some (d.name, d.qual, defArgs d.stm, .stmts (defBody d.stm), defScope d.stm, mainGlobals, [], builtinsNs) := e
      simp only [Option.some.injEq, Prod.mk.injEq] at e'
      obtain ⟨rfl, rfl, rfl, rfl, rfl, rfl, rfl, rfl⟩ := e'
      have c3 : (PySem.W.codeIn K m13 d.qual && (He.dflB K m8 (d.dvs K) && He.kwdB K m9 (d.kws K))) = true := c2
      have c4 := both (both c3).2
      exact ⟨_, ⟨oc, od, m8, m9, m10, m11, m12, m13, m14, osl, rfl, q, (both c3).1, He.dflB_ok c4.1, He.kwdB_ok c4.2⟩, c1⟩
    | _ => cases c2

abbrev Obs : Type := Bool × List He.FnW
def obsOf (ts : List (Frg → Bool)) (ds : List DefA) (K : Frg) : Obs :=
  ((ts.all fun t => t K) && ds.all fun d => d.good K, ds.map fun d => seenAt K (d.place K))
def dueOf (ds : List DefA) : Obs := (true, ds.map DefA.due)
def Tells (ts : List (Frg → Bool)) (ds : List DefA) (K : Frg) : Prop := obsOf ts ds K = dueOf ds
def obsAt (n : Nat) (ts : List (Frg → Bool)) (ds : List DefA) (g : Addr → Option Obj) : Obs := obsOf ts ds (He.frG g (He.asD g n))
def hook (n : Nat) (ts : List (Frg → Bool)) (ds : List DefA) : PySem.W.Hook where
  α := Obs
  obs s := obsAt n ts ds s.heap.get?
  val _ := dueOf ds
  says _ h := ∃ K : Frg, K.In h ∧ Tells ts ds K
  of _ _ e := ⟨_, He.frG_in, e⟩
  keeps := by
    rintro _ h h' ⟨K, hK, c⟩ k
    exact ⟨K, PySem.W.Frag.In.keeps hK k, c⟩
theorem obsAt_eq {n : Nat} {ts : List (Frg → Bool)} {ds : List DefA} {g : Addr → Option Obj} {s : Shared} (h : ∀ a, g a = s.heap.get? a) :
    obsAt n ts ds g = (hook n ts ds).obs s := by
  have e : g = s.heap.get? := funext h
  subst e
  rfl
section
variable {ts : List (Frg → Bool)} {ds : List DefA} {K : Frg}
theorem Tells.test (c : Tells ts ds K) (i : Nat) {t : Frg → Bool} (h : ts[i]? = some t := by rfl) : t K = true := by
  have c1 : ((ts.all fun t => t K) && ds.all fun d => d.good K) = true := congrArg Prod.fst c
  exact List.all_eq_true.mp (both c1).1 t (List.mem_of_getElem? h)
theorem Tells.fun (c : Tells ts ds K) (i : Nat) {d : DefA} (h : ds[i]? = some d := by rfl) :
    ∃ fd, FunD K d.name d.qual (defArgs d.stm) (defBody d.stm) (defScope d.stm) (d.dvs K) (d.kws K) (d.place K) fd := by
  have c1 : ((ts.all fun t => t K) && ds.all fun d => d.good K) = true := congrArg Prod.fst c
  have e : ds.map (fun d => seenAt K (d.place K)) = ds.map DefA.due := congrArg Prod.snd c
  have e' := congrArg (fun l => l[i]?) e
  simp only [List.getElem?_map, h, Option.map_some] at e'
  exact DefA.fun (Option.some.inj e') (List.all_eq_true.mp (both c1).2 d (List.mem_of_getElem? h))
end
/-! ### tests -/
def tF (f : He.Fa) : Frg → Bool := fun K => f.ok K
/-- the def under a property of the class C -/
def getA (C f : Str) (K : Frg) : Addr := match PySem.W.recIn K (He.ma K (He.ga K C) f) "property" with
  | some (.ref g :: _) => g
  | _ => 0
def tProp (C f : Str) : Frg → Bool := fun K =>
  He.eqO (PySem.W.findIn K (.ref (He.ga K C)) f) (some (some (.ref (He.ma K (He.ga K C) f)))) &&
  (He.eqO (PySem.W.specialIn K (.ref (He.ma K (He.ga K C) f)) "__get__") (some (some (.builtin "property.__get__"))) &&
  (decide (PySem.W.takesIn K (.ref (He.ma K (He.ga K C) f)) = some true) &&
  (match PySem.W.recIn K (He.ma K (He.ga K C) f) "property" with
    | some (.ref _ :: _) => true
    | _ => false)))
theorem prop_of {K : Frg} {C f : Str} (h : tProp C f K = true) : PropOf K (He.ga K C) f (He.ma K (He.ga K C) f) (getA C f K) := by
  have h1 := both h
  have h2 := both h1.2
  have h3 := both h2.2
  refine ⟨He.eqO_ok h1.1, He.eqO_ok h2.1, of_decide_eq_true h3.1, ?_⟩
  have h4 := h3.2
  unfold getA
  split at h4
  · rename_i g rest e
    exact ⟨rest, by rw [e]⟩
  · cases h4
/-- what isinstance asks of a class of the program -/
structure Isi (K : Frg) (C : Addr) : Prop where
  ha : PySem.W.findIn K (.ref C) "__class__" = some (some (.builtin "object.__class__"))
  hn : PySem.W.specialIn K (.builtin "object.__class__") "__get__" = some (some (.builtin "getset_descriptor.__get__"))
  htk : PySem.W.takesIn K (.builtin "object.__class__") = some true
  hm : PySem.W.mroIn K C (.type "object") = some true
def tIsi (C : Str) : Frg → Bool := fun K =>
  He.eqO (PySem.W.findIn K (.ref (He.ga K C)) "__class__") (some (some (.builtin "object.__class__"))) &&
  (He.eqO (PySem.W.specialIn K (.builtin "object.__class__") "__get__") (some (some (.builtin "getset_descriptor.__get__"))) &&
  (decide (PySem.W.takesIn K (.builtin "object.__class__") = some true) && decide (PySem.W.mroIn K (He.ga K C) (.type "object") = some true)))
theorem isi_of {K : Frg} {C : Str} (h : tIsi C K = true) : Isi K (He.ga K C) := by
  have h1 := both h
  have h2 := both h1.2
  have h3 := both h2.2
  exact ⟨He.eqO_ok h1.1, He.eqO_ok h2.1, of_decide_eq_true h3.1, of_decide_eq_true h3.2⟩
theorem Isi.ty {K : Frg} {C a dx : Addr} {fs : List (Str × V)} {H : Hp} (I : Isi K C) (c : Cls K C) (e : H a = some (.ins C dx fs)) : TyX K H (.ref a) (.ref C) := .base (.ins e c I.ha I.hn I.htk I.hm)
end Gd

/-! ## Lay4 -/
set_option maxHeartbeats 4000000
/-! Defs with keyword-only parameters that are all given; making; properties; rules within a comprehension's block. -/
namespace Gd
open PySem PySem.Spec PyProof.Rows L2
section
variable {P : Program} {w : World} {K : Frg} {mg : Str → Option Value} {base : Heap}
def KB (K : Frg) (fd : FuncData) (ps : List Str) (n : Nat) (ks : List Str) : Prop := KBn K fd ps n ks (fun us ws => us ++ ws) (fun vs zs => vs ++ zs)
theorem kb_of {x qual : Str} {params : Arguments} {body : List Stmt} {scope : Scope} {kws : List (Str × V)} {f : Addr} {fd : FuncData} {ps : List Str} {n : Nat} {ks : List Str} (F : FunD K x qual params body scope [] kws f fd) (hk : kws ≠ [])
    (h : ∀ (D : Addr) (doc pm : Value) (an : Option Addr) (cdv ct : Value) (us ws : List Value), us.length = n → ws.length = ks.length →
      bindArgs (PySem.W.fnOf x qual params body scope .none (.ref D) doc pm an cdv ct) ⟨us, ks.zip ws⟩ = pure (ps.zip (us ++ ws))) : KB K fd ps n ks := by
  obtain ⟨mv, b⟩ := F.kbinds0 (ps := ps) n ks [] (fun {α} us _ ws => us ++ ws) hk (by simp) (fun r1 _ r3 => r1.append r3) (fun D doc pm an cdv ct us mv ws l1 _ l3 => h D doc pm an cdv ct us ws l1 l3)
  exact b
def OkK (P : Program) (w : World) (K : Frg) (mg : Str → Option Value) (base : Heap) (k : Nat) (f : Addr) (ps : List Str) (sp : Sp) (n : Nat) (ks : List Str) : Prop :=
  ∃ fd, FnOk P w K mg base CX0 k f fd ps sp ∧ KB K fd ps n ks ∧ PySem.W.keepIn K (.ref f) = true
theorem okK_of {x qual : Str} {params : Arguments} {body : List Stmt} {scope : Scope} {dvs : List V} {kws : List (Str × V)} {f : Addr} {fd : FuncData} {N ps ks : List Str} {k n : Nat} {sp : Sp}
    (F : FunD K x qual params body scope dvs kws f fd) (b : KB K fd ps n ks) (S : FnScope N ps scope) (many : ∀ vs H Q E, sp vs H Q E → vs.length = ps.length)
    (hbody : ∀ (cdv : Value) (A : Around) (outer : List Env) (s : Shared) (H : Hp) (vs : List V) (Q : VK) (E : XK), Room k (A.deeper (envOfC qual scope s.heap.objs.size f cdv)) → sp vs H Q E →
      ∃ t, PSs (cxOf CX0 P w K mg base N qual scope f cdv A outer s H E).nox body t ∧ t { nx := fun _ H' => Q .non H', rt := Q } (start N vs) H) :
    OkK P w K mg base (k + 1) f ps sp n ks := by
  refine ⟨fd, F.ok S many fun cdv A outer s H vs Q E hr h => ?_, b, F.kp⟩
  obtain ⟨t, p, q⟩ := hbody cdv A outer s H vs Q E hr h
  exact ⟨t, p.nox, q⟩
end
section
variable {X : Cx} {n m k : Nat} {f C g : Addr} {ps ks : List Str} {sp : Sp} {x : Str} {p pos : Pos} {e : Expr} {es : List Expr} {kws : List Keyword} {t tk : TA} {ta : TE}
theorem pmkK (M : Mk X.K C f) (F : OkK X.prog X.w X.K X.mg X.base k f ps sp (n + 1) ks) (hr : Room m X.A) (hg : Gl X x) (hm : X.mg x = some (.ref C)) (ha : PA X (e :: es) t) (hkw : PK X kws tk) (hk : k + 1 ≤ m := by decide)
    (hall : (backToKw pos (keywordEach kws X.env)).all (·.1.isSome) = true := by rfl) (hks : (backToKw pos (keywordEach kws X.env)).filterMap (·.1) = ks := by rfl) (hdb : (x == ("__debug__" : Str)) = false := by decide)
    (he : starEach (e :: es) X.env = (false, eval e X.env) :: starEach es X.env := by rfl) (hpl : ((backTo pos (starEach (e :: es) X.env)).any (·.1) || (backToKw pos (keywordEach kws X.env)).any (·.1.isNone)) = false := by rfl) :
    PE X (.Call (.Name x p) (e :: es) kws pos) (tMakeK C n ks.length sp (fun vs zs => vs ++ zs) E0 t tk) := by
  obtain ⟨fd, F, b, kp⟩ := F
  exact pe_makeK M F (hr.mono hk) hg hm b pass0 ha hkw hall hks hdb he hpl
theorem pmk (M : Mk X.K C f) (F : Ok X.prog X.w X.K X.mg X.base k f ps sp) (hr : Room m X.A) (hg : Gl X x) (hm : X.mg x = some (.ref C)) (ha : PA X (e :: es) t) (hk : k + 1 ≤ m := by decide)
    (hdb : (x == ("__debug__" : Str)) = false := by decide)
    (he : starEach (e :: es) X.env = (false, eval e X.env) :: starEach es X.env := by rfl) (hpl : (backTo pos (starEach es X.env)).any (·.1) = false := by rfl) :
    PE X (.Call (.Name x p) (e :: es) [] pos) (tMake C sp [] E0 t) := by
  obtain ⟨fd, F, b, kp⟩ := F
  exact pe_make M F (hr.mono hk) hg hm b .nil pass0 ha hdb he hpl
theorem pprop {q : Addr} {y : Str} (F : Ok X.prog X.w X.K X.mg X.base k g ps sp) (hr : Room m X.A) (c : Cls X.K C) (hp : PropOf X.K C y q g) (he : PE X e ta) (hk : k + 1 ≤ m := by decide)
    (hab : attributeBase e y X.env (eval e X.env) = eval e X.env := by rfl) : PE X (.Attribute e y pos) (L2.tProp C sp [] E0 ta) := by
  obtain ⟨fd, F, b, kp⟩ := F
  exact pe_prop he c hp F (hr.mono hk) b .nil pass0 hab
end
section
variable {X : Cx} {K : Frg}
theorem pg_tupB (h : X.K = K) {pos : Pos} {es : List Expr} {k : Nat} {t : TGs} {n : Nat} (hc : X.calm = true) (hs : PGs X es t)
    (hn : (assignEach es X.env).length = n := by rfl) (hst : (assignEach es X.env).findIdx? (·.1) = none := by rfl) : PG X (.Tuple es k pos) (gTup K n t) := by
  subst h
  exact pg_tup hc hs hn hst
theorem ix_tupB (h : X.K = K) : IxR X (rIxT K) := h ▸ ix_tup
theorem ix_listB (h : X.K = K) : IxR X (rIxL K) := h ▸ ix_list
theorem op_in_seqB (h : X.K = K) : OpR X (compareOp .In) (rIn K false) := h ▸ op_in_seq
theorem op_notIn_seqB (h : X.K = K) : OpR X (compareOp .NotIn) (rIn K true) := h ▸ op_notIn_seq
theorem call_len_seqB (h : X.K = K) : CallR X (.builtin "len") (fun xs H Q => ∃ p ys, xs = [.ref p] ∧ (SqL K H p ys ∨ SqT K H p ys) ∧ Q (.int ys.length) H) := h ▸ call_len_seq
theorem sl_listB (h : X.K = K) : SlR X (rSlL K) := h ▸ sl_list
theorem sl_tupAB (h : X.K = K) : SlR X (rSlA K) := h ▸ sl_tupA
end
end Gd

/-! ## Rd -/
set_option maxHeartbeats 4000000
/-! Reading, one step at a time: what each combinator asks, by its head alone. -/
namespace Gd
open PySem PySem.Spec PyProof.Rows L2
section
variable {σ : L2.St} {H : Hp} {Q : VK} {QT : Bool → Hp → Prop} {QA : List V → Hp → Prop} {ta tb tc te td ty tv : TE} {tt uu : TT} {tr : TA} {v x y z : V} {i j : Int} {b : Bool} {D : Ends} {s1 s2 : TS} {K : Frg} {sp : Sp}
theorem r_var {k : Nat} (e : σ[k]? = some (some v)) (h : Q v H) : tVar k σ H Q := ⟨v, e, h⟩
theorem r_c (h : Q v H) : tC v σ H Q := h
theorem r_op {r : R2} (h : ta σ H fun x H1 => tb σ H1 fun y H2 => r x y H2 Q) : tOp r ta tb σ H Q := h
theorem r_un {r : V → Hp → VK → Prop} (h : ta σ H fun x H1 => r x H1 Q) : tUn r ta σ H Q := h
theorem r_I0 {g : Int → Int → V} (h : Q (g i j) H) : rI0 g (.int i) (.int j) H Q := ⟨i, j, rfl, rfl, h⟩
theorem r_I {C : Int → Int → Prop} {g : Int → Int → V} (hc : C i j) (h : Q (g i j) H) : rI C g (.int i) (.int j) H Q := ⟨i, j, rfl, rfl, hc, h⟩
theorem r_U {g : Int → V} (h : Q (g i) H) : rU g (.int i) H Q := ⟨i, rfl, h⟩
theorem r_eq (hs : scal x y = true) (h : Q (.bl (decide (x = y))) H) : rEq x y H Q := ⟨hs, h⟩
theorem r_ne (hs : scal x y = true) (h : Q (.bl (!decide (x = y))) H) : rNe x y H Q := ⟨hs, h⟩
theorem r_seq (h : s1 { D with nx := s2 D } σ H) : tSeq s1 s2 D σ H := h
theorem r_next (h : D.nx σ H) : tNext D σ H := h
theorem r_asg {g : TG} (h : te σ H fun x H1 => g x σ H1 D.nx) : tAsg te g D σ H := h
theorem r_name {k : Nat} {R : L2.St → Hp → Prop} (h : R (σ.set k (some v)) H) : gName k v σ H R := h
theorem r_ret (h : te σ H D.rt) : tRet te D σ H := h
theorem r_drop (h : te σ H fun _ H1 => D.nx σ H1) : tDrop te D σ H := h
theorem r_ifS (h : tt σ H fun b H1 => if b = true then s1 D σ H1 else s2 D σ H1) : tIfS tt s1 s2 D σ H := h
theorem r_test (h : te σ H fun x H' => ∃ k, x = .bl k ∧ QT k H') : tTest te σ H QT := h
theorem r_B (h : te σ H fun x H' => ∃ k, x = .bl k ∧ QT k H') : tB te σ H QT := h
theorem r_bl {R : Bool → Prop} (h : R b) : ∃ k, V.bl b = .bl k ∧ R k := ⟨b, rfl, h⟩
theorem r_not (h : tt σ H fun c H1 => QT (!c) H1) : tNot tt σ H QT := h
theorem r_and (h : tt σ H fun c H1 => if c = true then uu σ H1 QT else QT false H1) : tAnd tt uu σ H QT := h
theorem r_or (h : tt σ H fun c H1 => if c = true then QT true H1 else uu σ H1 QT) : tOr tt uu σ H QT := h
theorem r_andV (h : ta σ H fun x H1 => ∃ c, x = .bl c ∧ if c = true then tb σ H1 Q else Q (.bl false) H1) : tAndV ta tb σ H Q := h
theorem r_orV (h : ta σ H fun x H1 => ∃ c, x = .bl c ∧ if c = true then Q (.bl true) H1 else tb σ H1 Q) : tOrV ta tb σ H Q := h
theorem r_notV (h : ta σ H fun x H1 => ∃ c, x = .bl c ∧ Q (.bl (!c)) H1) : tNotV ta σ H Q := h
theorem r_ifE (h : tt σ H fun c H1 => if c = true then ta σ H1 Q else tb σ H1 Q) : tIf tt ta tb σ H Q := h
theorem r_nil (h : QA [] H) : tNil σ H QA := h
theorem r_cons (h : ta σ H fun x H1 => tr σ H1 fun xs H2 => QA (x :: xs) H2) : tCons ta tr σ H QA := h
theorem r_cb {r : List V → Hp → VK → Prop} (h : tr σ H fun vs H1 => r vs H1 Q) : tCB r tr σ H Q := h
theorem r_call {dvs : List V} {E : XK} (h : tr σ H fun vs H1 => sp (vs ++ dvs) H1 Q E) : tCall sp dvs E tr σ H Q := h
theorem r_tup (h : tr σ H fun xs H1 => xs.length ≤ sizeLine ∧ ∀ p, H1 p = none → Q (.ref p) (upd H1 p (.tup xs))) : tTup tr σ H Q := h
theorem r_lst (h : tr σ H fun xs H1 => xs.length ≤ sizeLine ∧ ∀ p, H1 p = none → Q (.ref p) (upd H1 p (.lst xs))) : tLst tr σ H Q := h
theorem r_dget (h : td σ H fun x H1 => ty σ H1 fun y H2 => ∃ a v, x = .ref a ∧ DGet H2 a y (some v) ∧ Q v H2) : tDGet td ty σ H Q := h
theorem r_dgot {a : Addr} {R : V → Prop} (d : DGet H a y (some v)) (h : R v) : ∃ a' v', V.ref a = .ref a' ∧ DGet H a' y (some v') ∧ R v' := ⟨a, v, rfl, d, h⟩
theorem r_dput (h : tv σ H fun v H1 => td σ H1 fun x H2 => ty σ H2 fun y H3 => ∃ a H4, x = .ref a ∧ DPut H3 a y v H4 ∧ D.nx σ H4) : sDPut td ty tv D σ H := h
theorem r_dputs {a : Addr} {H' : Hp} {R : Hp → Prop} (d : DPut H a y v H') (h : R H') : ∃ a' H4, V.ref a = .ref a' ∧ DPut H a' y v H4 ∧ R H4 := ⟨a, H', rfl, d, h⟩
theorem r_ixL {p : Addr} {xs : List V} (s : SqL K H p xs) (a : atI xs i = some v) (h : Q v H) : rIxL K (.ref p) (.int i) H Q := ⟨p, xs, i, v, rfl, rfl, s, a, h⟩
theorem r_ixT {p : Addr} {xs : List V} (s : SqT K H p xs) (a : atI xs i = some v) (h : Q v H) : rIxT K (.ref p) (.int i) H Q := ⟨p, xs, i, v, rfl, rfl, s, a, h⟩
theorem r_ixS {w : Str} {c : Nat} (l : w.length ≤ sizeLine) (a : atI w.cps.toList i = some c) (h : Q (.str ⟨#[c]⟩) H) : rIxS (.str w) (.int i) H Q := ⟨w, i, c, rfl, rfl, l, a, h⟩
theorem r_iT {A B : Prop} (h : A) : if (true = true) then A else B := by rw [if_pos rfl]; exact h
theorem r_iF {A B : Prop} (h : B) : if (false = true) then A else B := by rw [if_neg Bool.false_ne_true]; exact h
theorem r_if2 {A B : Prop} (h1 : b = true → A) (h2 : b = false → B) : if b = true then A else B := by
  cases b with
  | true => exact r_iT (h1 rfl)
  | false => exact r_iF (h2 rfl)
theorem r_ifd {c A B : Prop} [Decidable c] (h1 : c → A) (h2 : ¬ c → B) : if decide c = true then A else B := by
  by_cases h : c
  · rw [if_pos (decide_eq_true h)]; exact h1 h
  · rw [if_neg (by rw [decide_eq_false h]; exact Bool.false_ne_true)]; exact h2 h
theorem r_int1 (h : Q (.int i) H) : (∃ k, [V.int i] = [.int k] ∧ Q (.int k) H) ∨ ∃ k, [V.int i] = [.bl k] ∧ Q (.int (if k then 1 else 0)) H := .inl ⟨i, rfl, h⟩
end
end Gd
namespace Gd
open PySem PySem.Spec PyProof.Rows L2
section
variable {σ : L2.St} {H : Hp} {Q : VK} {to te : TE} {tr : TA} {K : Frg}
theorem r_m1 {r : V → List V → Hp → VK → Prop} (h : to σ H fun x H1 => (∃ a, x = .str a) ∧ te σ H1 fun y H2 => r x [y] H2 Q) : tM1 r to te σ H Q := h
end
end Gd

/-! ## Way -/
set_option maxHeartbeats 4000000
/-! Ways from heap to heap; comprehensions and loops along them. -/
namespace Gd
open PySem PySem.Spec PyProof.Rows L2
/-- what nothing here ever changes -/
def Still : HO → Prop
  | .tup _ => True
  | .ins _ _ _ => True
  | .own _ => True
  | .frz _ _ => True
  | _ => False
/-- all that is still stands -/
def Sd (H H' : Hp) : Prop := ∀ a o, Still o → H a = some o → H' a = some o
section
variable {K : Frg} {H H' H'' : Hp} {a p : Addr} {o : HO} {xs : List V}
theorem Sd.refl (H : Hp) : Sd H H := fun _ _ _ h => h
theorem Sd.trans (x : Sd H H') (y : Sd H' H'') : Sd H H'' := fun a o s h => y a o s (x a o s h)
theorem Sd.of (x : Same H H') : Sd H H' := fun a o _ h => x a o h
theorem Sd.lst (e : H p = some (.lst xs)) : Sd H (upd H p o) := fun a u s h => by
  rw [upd_ne (ne_of h e (by rintro rfl; exact s))]
  exact h
theorem Sd.dK {kvs : List (Key × V)} (e : H p = some (.dK kvs)) : Sd H (upd H p o) := fun a u s h => by
  rw [upd_ne (ne_of h e (by rintro rfl; exact s))]
  exact h
theorem Sd.new (e : H p = none) : Sd H (upd H p o) := fun a u s h => by
  rw [upd_ne (ne_of_none h e)]
  exact h
theorem Sd.tup (x : Sd H H') (h : SqT K H a xs) : SqT K H' a xs := by
  rcases h with (h | ⟨o, h⟩) | h
  · exact .inl (.inl (x _ _ trivial h))
  · exact .inl (.inr ⟨o, x _ _ trivial h⟩)
  · exact .inr h
end
/-- a way: what a body may do to the heap -/
structure Way (R : Hp → Hp → Prop) : Prop where
  trans : ∀ {A B C}, R A B → R B C → R A C
  chg : ∀ {A B p o}, R A B → A p = none → R A (upd B p o)
  sd : ∀ {A B}, R A B → Sd A B
  lst : ∀ {A B a xs}, R A B → A a = some (.lst xs) → B a = some (.lst xs)
  back : ∀ {A B p}, R A B → B p = none → A p = none
  seq : ∀ {K A B a xs}, R A B → SqL K A a xs → SqL K B a xs
theorem way_same : Way Same where
  trans := fun x y => x.trans y
  chg := fun x n a u h => by rw [upd_ne (ne_of_none h n)]; exact x a u h
  sd := fun x => Sd.of x
  lst := fun x h => x _ _ h
  back := fun x h => x.free h
  seq := fun x h => x.seq h
/-- facts that stand while what is still stands -/
def Mono (P : Hp → Prop) : Prop := ∀ H H', Sd H H' → P H → P H'
section
variable {K : Frg} {R : Hp → Hp → Prop} {H : Hp} {σ : L2.St} {vs : List Nat} {g : TG} {te ta : TE} {t : TA} {Q : VK} {P : Nat → V → Hp → Prop} {n : Int} {a : Addr} {xs : List V}
/-- the body of a comprehension over a range, a list, a tuple -/
def mR (g : TG) (te : TE) (vs : List Nat) (ws : List V) (σ : L2.St) (H : Hp) (Q : VK) : Prop := tLc (iRng1 fun _ H' k => k ws H') g tYes te vs σ H Q
def mL (K : Frg) (g : TG) (te : TE) (vs : List Nat) (v : V) (σ : L2.St) (H : Hp) (Q : VK) : Prop := tLc (iList K fun _ H' k => k v H') g tYes te vs σ H Q
def mT (K : Frg) (g : TG) (te : TE) (vs : List Nat) (v : V) (σ : L2.St) (H : Hp) (Q : VK) : Prop := tLc (iTup K fun _ H' k => k v H') g tYes te vs σ H Q
theorem r_lcR (h : t σ H fun ws H1 => mR g te vs ws σ H1 Q) : tLc (iRng1 t) g tYes te vs σ H Q := h
theorem r_lcL (h : ta σ H fun v H1 => mL K g te vs v σ H1 Q) : tLc (iList K ta) g tYes te vs σ H Q := h
theorem r_lcT (h : ta σ H fun v H1 => mT K g te vs v σ H1 Q) : tLc (iTup K ta) g tYes te vs σ H Q := h
/-- what a comprehension has made behind i turns -/
def Made (R : Hp → Hp → Prop) (P : Nat → V → Hp → Prop) (H : Hp) (D : Addr) (i : Nat) (H' : Hp) : Prop :=
  ∃ ys, R H H' ∧ H' D = some (.lst ys) ∧ ys.length = i ∧ ∀ j y, ys[j]? = some y → P j y H'
theorem Made.start (W : Way R) (r0 : R H H) {D : Addr} (n : H D = none) : Made R P H D 0 (upd H D (.lst [])) :=
  ⟨[], W.chg r0 n, upd_same, rfl, fun j y h => by simp at h⟩
theorem Made.turn (W : Way R) (mono : ∀ i v, Mono (P i v)) {D : Addr} (nD : H D = none) {i : Nat} {H1 H2 : Hp} {y : V} (hi : i < 100000)
    (M : Made R P H D i H1) (r : R H1 H2) (p : P i y H2) : ∃ acc, H2 D = some (.lst acc) ∧ acc.length < sizeLine ∧ Made R P H D (i + 1) (upd H2 D (.lst (acc ++ [y]))) := by
  obtain ⟨ys, r1, hD, hl, hp⟩ := M
  have hD2 := W.lst r hD
  have up : Sd H2 (upd H2 D (.lst (ys ++ [y]))) := Sd.lst hD2
  refine ⟨ys, hD2, Nat.lt_of_lt_of_le (by omega : ys.length < 100000) (by decide), ys ++ [y], W.chg (W.trans r1 r) nD, upd_same, by rw [List.length_append, hl]; rfl, fun j z h => ?_⟩
  by_cases hj : j < ys.length
  · rw [List.getElem?_append_left hj] at h
    exact mono j z _ _ ((W.sd r).trans up) (hp j z h)
  · have e : j = i := by
      have := (List.getElem?_eq_some_iff.mp h).1
      rw [List.length_append] at this
      simp at this
      omega
    subst e
    rw [List.getElem?_append_right (by omega), hl, Nat.sub_self] at h
    cases (show some y = some z from h)
    exact mono j y _ _ up p
theorem lcR (W : Way R) (r0 : R H H) (hn : 0 ≤ n ∧ n ≤ 100000) (mono : ∀ i v, Mono (P i v))
    (step : ∀ (i : Nat) H1, (i : Int) < n → R H H1 → ∀ Qe : VK, (∀ y H3, R H1 H3 → P i y H3 → Qe y H3) → g (.int (i : Int)) (wipe σ vs) H1 fun σ2 H2 => wipe σ2 vs = wipe σ vs ∧ te σ2 H2 Qe)
    (fin : ∀ D H' ys, H D = none → R H H' → H' D = some (.lst ys) → ys.length = n.toNat → (∀ i y, ys[i]? = some y → P i y H') → Q (.ref D) H') :
    mR g te vs [.int n] σ H Q := by
  refine ⟨n, rfl, by omega, by omega, fun D hD => ?_⟩
  refine lc_range (lo := 0) (Made R P H D) (Made.start W r0 hD) (fun i H1 hi M => ?_) fun H' M => ?_
  · have e : (0 : Int) + (i : Int) = (i : Int) := Int.zero_add _
    have s := step i H1 (by omega) M.choose_spec.1 _ fun y H3 r3 p3 => Made.turn W mono hD (by omega) M r3 p3
    rw [e]
    simp only [tYes, ↓reduceIte]
    exact s
  · obtain ⟨ys, r, hy, hl, hp⟩ := M
    exact fin D H' ys hD r hy hl hp
theorem lcL (W : Way R) (r0 : R H H) (hs : SqL K H a xs) (hn : xs.length ≤ 100000) (mono : ∀ i v, Mono (P i v))
    (step : ∀ (i : Nat) x H1, xs[i]? = some x → R H H1 → ∀ Qe : VK, (∀ y H3, R H1 H3 → P i y H3 → Qe y H3) → g x (wipe σ vs) H1 fun σ2 H2 => wipe σ2 vs = wipe σ vs ∧ te σ2 H2 Qe)
    (fin : ∀ D H' ys, H D = none → R H H' → H' D = some (.lst ys) → ys.length = xs.length → (∀ i y, ys[i]? = some y → P i y H') → Q (.ref D) H') :
    mL K g te vs (.ref a) σ H Q := by
  refine ⟨a, rfl, ⟨xs, hs⟩, fun D hD => ?_⟩
  refine lc_list (xs := xs) (Made R P H D) (Made.start W r0 hD) (fun i H1 _ M => W.seq M.choose_spec.1 hs) (fun i x H1 hi M => ?_) fun H' M => ?_
  · have hlt := (List.getElem?_eq_some_iff.mp hi).1
    have s := step i x H1 hi M.choose_spec.1 _ fun y H3 r3 p3 => Made.turn W mono hD (by omega) M r3 p3
    simp only [tYes, ↓reduceIte]
    exact s
  · obtain ⟨ys, r, hy, hl, hp⟩ := M
    exact fin D H' ys hD r hy hl hp
theorem lcT (W : Way R) (r0 : R H H) (hs : SqT K H a xs) (hn : xs.length ≤ 100000) (mono : ∀ i v, Mono (P i v))
    (step : ∀ (i : Nat) x H1, xs[i]? = some x → R H H1 → ∀ Qe : VK, (∀ y H3, R H1 H3 → P i y H3 → Qe y H3) → g x (wipe σ vs) H1 fun σ2 H2 => wipe σ2 vs = wipe σ vs ∧ te σ2 H2 Qe)
    (fin : ∀ D H' ys, H D = none → R H H' → H' D = some (.lst ys) → ys.length = xs.length → (∀ i y, ys[i]? = some y → P i y H') → Q (.ref D) H') :
    mT K g te vs (.ref a) σ H Q := by
  refine ⟨a, rfl, ⟨xs, hs⟩, fun D hD => ?_⟩
  refine lc_tup (xs := xs) (Made R P H D) (Made.start W r0 hD) (fun i H1 _ M => (W.sd M.choose_spec.1).tup hs) (fun i x H1 hi M => ?_) fun H' M => ?_
  · have hlt := (List.getElem?_eq_some_iff.mp hi).1
    have s := step i x H1 hi M.choose_spec.1 _ fun y H3 r3 p3 => Made.turn W mono hD (by omega) M r3 p3
    simp only [tYes, ↓reduceIte]
    exact s
  · obtain ⟨ys, r, hy, hl, hp⟩ := M
    exact fin D H' ys hD r hy hl hp
/-- the body of a loop over a range, a list, a tuple -/
def fR (g : TG) (tb : TS) (ws : List V) (D : Ends) (σ : L2.St) (H : Hp) : Prop := tFor (iRng1 fun _ H' k => k ws H') g tb D σ H
def fL (K : Frg) (g : TG) (tb : TS) (v : V) (D : Ends) (σ : L2.St) (H : Hp) : Prop := tFor (iList K fun _ H' k => k v H') g tb D σ H
def fT (K : Frg) (g : TG) (tb : TS) (v : V) (D : Ends) (σ : L2.St) (H : Hp) : Prop := tFor (iTup K fun _ H' k => k v H') g tb D σ H
variable {tb : TS} {D : Ends}
theorem r_forR (h : t σ H fun ws H1 => fR g tb ws D σ H1) : tFor (iRng1 t) g tb D σ H := h
theorem r_forL (h : ta σ H fun v H1 => fL K g tb v D σ H1) : tFor (iList K ta) g tb D σ H := h
theorem r_forT (h : ta σ H fun v H1 => fT K g tb v D σ H1) : tFor (iTup K ta) g tb D σ H := h
theorem forR (Pv : Nat → L2.St → Hp → Prop) (hn : 0 ≤ n ∧ n ≤ 100000) (h0 : Pv 0 σ H)
    (turn : ∀ (i : Nat) σ' H', (i : Int) < n → Pv i σ' H' → g (.int (i : Int)) σ' H' fun σ2 H2 => tb { D with nx := Pv (i + 1), ct := Pv (i + 1), bk := D.nx } σ2 H2)
    (done : ∀ σ' H', Pv n.toNat σ' H' → D.nx σ' H') : fR g tb [.int n] D σ H := by
  refine ⟨n, rfl, by omega, by omega, for_range (lo := 0) Pv h0 (fun i σ' H' hi p => ?_) done⟩
  rw [Int.zero_add]
  exact turn i σ' H' (by omega) p
theorem forL (Pv : Nat → L2.St → Hp → Prop) (hs : SqL K H a xs) (h0 : Pv 0 σ H) (stays : ∀ i σ' H', i ≤ xs.length → Pv i σ' H' → SqL K H' a xs)
    (turn : ∀ (i : Nat) x σ' H', xs[i]? = some x → Pv i σ' H' → g x σ' H' fun σ2 H2 => tb { D with nx := Pv (i + 1), ct := Pv (i + 1), bk := D.nx } σ2 H2)
    (done : ∀ σ' H', Pv xs.length σ' H' → D.nx σ' H') : fL K g tb (.ref a) D σ H :=
  ⟨a, rfl, ⟨xs, hs⟩, for_list (xs := xs) Pv h0 stays turn done⟩
theorem forT (Pv : Nat → L2.St → Hp → Prop) (hs : SqT K H a xs) (h0 : Pv 0 σ H) (stays : ∀ i σ' H', i ≤ xs.length → Pv i σ' H' → SqT K H' a xs)
    (turn : ∀ (i : Nat) x σ' H', xs[i]? = some x → Pv i σ' H' → g x σ' H' fun σ2 H2 => tb { D with nx := Pv (i + 1), ct := Pv (i + 1), bk := D.nx } σ2 H2)
    (done : ∀ σ' H', Pv xs.length σ' H' → D.nx σ' H') : fT K g tb (.ref a) D σ H :=
  ⟨a, rfl, ⟨xs, hs⟩, for_tup (xs := xs) Pv h0 stays turn done⟩
end
/-! ### lists of texts, of numbers; a list's methods -/
section
variable {K : Frg} {H : Hp} {Q : VK} {p l : Addr} {x : Str} {ls : List Str} {xs : List V} {y : V} {to : TE} {tr : TA} {σ : L2.St}
theorem eqV_str (a b : Str) : eqV (.str a) (.str b) = decide (a = b) := by
  unfold eqV
  first | rfl | simp
theorem inV_str : inV (.str x) (ls.map V.str) = decide (x ∈ ls) := by
  unfold inV
  induction ls with
  | nil => simp
  | cons z r ih =>
    rw [List.map_cons, List.any_cons, ih, eqV_str]
    by_cases h : z = x
    · subst h; simp
    · simp [h, Ne.symm h, show ¬ x = z from fun e => h e.symm]
theorem flat_strs : (ls.map V.str).all flatV = true := by
  induction ls with
  | nil => rfl
  | cons z r ih => rw [List.map_cons, List.all_cons, ih]; rfl
theorem r_in (s : SqL K H p (ls.map V.str) ∨ SqT K H p (ls.map V.str)) (h : Q (.bl (decide (x ∈ ls))) H) : rIn K false (.str x) (.ref p) H Q :=
  ⟨p, _, rfl, s, rfl, flat_strs, by show Q (.bl (inV _ _)) H; rw [inV_str]; exact h⟩
theorem r_notIn (s : SqL K H p (ls.map V.str) ∨ SqT K H p (ls.map V.str)) (h : Q (.bl (!decide (x ∈ ls))) H) : rIn K true (.str x) (.ref p) H Q :=
  ⟨p, _, rfl, s, rfl, flat_strs, by show Q (.bl (!inV _ _)) H; rw [inV_str]; exact h⟩
theorem r_bm {T : String} {r : V → List V → Hp → VK → Prop} (h : to σ H fun x H1 => tyV K T x H1 ∧ tr σ H1 fun xs H2 => r x xs H2 Q) : tBM K T r to tr σ H Q := h
theorem r_tyL {A : Prop} (hl : H l = some (.lst xs)) (h : A) : tyV K "list" (.ref l) H ∧ A := ⟨.inl ⟨rfl, _, SqL.of hl⟩, h⟩
theorem r_append (hl : H l = some (.lst xs)) (n : xs.length < 100000) (h : Q .non (upd H l (.lst (xs ++ [y])))) : rAppend (.ref l) [y] H Q :=
  ⟨l, xs, y, rfl, rfl, hl, Nat.lt_of_lt_of_le n (by decide), h⟩
end
end Gd

/-! ## Dat -/
set_option maxHeartbeats 4000000
/-! Data of tuples: it stands while what is still stands. -/
namespace Gd
open PySem PySem.Spec PyProof.Rows L2
mutual
/-- no list in it -/
def flatD : PyData → Bool
  | .none | .bool _ | .int _ | .str _ => true
  | .tuple xs => flatDs xs
  | .list _ | .dict _ => false
def flatDs : List PyData → Bool
  | [] => true
  | x :: xs => flatD x && flatDs xs
end
section
variable {K : Frg} {H H' : Hp}
mutual
theorem Dp.sd (e : Sd H H') : ∀ (d : PyData) (v : V), flatD d = true → Dp K H v d → Dp K H' v d
  | .none, _, _, h => by cases h; exact .non
  | .bool b, _, _, h => by cases h; exact .bl b
  | .int i, _, _, h => by cases h; exact .int i
  | .str x, _, _, h => by cases h; exact .str x
  | .list _, _, f, _ => by simp [flatD] at f
  | .dict _, _, f, _ => by simp [flatD] at f
  | .tuple ds, _, f, h => by
    cases h with
    | tup h1 h2 => exact .tup (e.tup h1) (DpAll.sd e ds _ (by simpa only [flatD] using f) h2)
theorem DpAll.sd (e : Sd H H') : ∀ (ds : List PyData) (vs : List V), flatDs ds = true → DpAll K H vs ds → DpAll K H' vs ds
  | [], _, _, h => by cases h; exact .nil
  | d :: ds, _, f, h => by
    cases h with
    | cons h1 h2 =>
      simp only [flatDs, Bool.and_eq_true] at f
      exact .cons (Dp.sd e d _ f.1 h1) (DpAll.sd e ds _ f.2 h2)
end
theorem DpAll.len : ∀ {vs : List V} {ds : List PyData}, DpAll K H vs ds → vs.length = ds.length
  | _, _, .nil => rfl
  | _, _, .cons _ h => by rw [List.length_cons, List.length_cons, DpAll.len h]
theorem DpAll.at_ : ∀ {vs : List V} {ds : List PyData} {i : Nat} {v : V}, DpAll K H vs ds → vs[i]? = some v → ∃ d, ds[i]? = some d ∧ Dp K H v d
  | _, _, _, _, .nil, h => by simp at h
  | _, _, 0, _, .cons h _, e => by
    cases (show some _ = some _ from e)
    exact ⟨_, rfl, h⟩
  | _, _, i + 1, _, .cons _ h, e => DpAll.at_ (i := i) h e
theorem DpAll.of_at : ∀ {vs : List V} {ds : List PyData}, vs.length = ds.length → (∀ (i : Nat) v d, vs[i]? = some v → ds[i]? = some d → Dp K H v d) → DpAll K H vs ds
  | [], [], _, _ => .nil
  | [], _ :: _, h, _ => by simp at h
  | _ :: _, [], h, _ => by simp at h
  | v :: vs, d :: ds, h, f => .cons (f 0 v d rfl rfl) (DpAll.of_at (by simpa using h) fun i x y a b => f (i + 1) x y a b)
theorem DpAll.flat : ∀ {ts : List Int}, DpAll K H (ts.map V.int) (ts.map PyData.int)
  | [] => .nil
  | t :: ts => .cons (.int t) DpAll.flat
theorem DpAll.ints : ∀ {vs : List V} {ts : List Int}, DpAll K H vs (ts.map PyData.int) → vs = ts.map V.int
  | _, [], .nil => rfl
  | _, t :: ts, .cons h1 h2 => by
    cases h1
    rw [DpAll.ints h2]
    rfl
theorem DpAll.strs : ∀ {ls : List Str}, DpAll K H (ls.map V.str) (ls.map PyData.str)
  | [] => .nil
  | t :: ts => .cons (.str t) DpAll.strs
theorem flat_ints (ts : List Int) : flatDs (ts.map PyData.int) = true := by
  induction ts with
  | nil => simp [flatDs]
  | cons t r ih => simp [flatDs, flatD, ih]
end
/-! ### a row of numbers -/
def intsD (ts : List Int) : PyData := .tuple (ts.map PyData.int)
section
variable {K : Frg} {H H' : Hp} {v : V} {ts us : List Int}
theorem flat_intsD : flatD (intsD ts) = true := by simp [intsD, flatD, flat_ints]
theorem ints_at (h : Dp K H v (intsD ts)) : ∃ a, v = .ref a ∧ SqT K H a (ts.map V.int) := by
  unfold intsD at h
  cases h with
  | tup h1 h2 =>
    rw [DpAll.ints h2] at h1
    exact ⟨_, rfl, h1⟩
theorem ints_of {a : Addr} (h : SqT K H a (ts.map V.int)) : Dp K H (.ref a) (intsD ts) := .tup h DpAll.flat
theorem eqv_ints : ∀ (ts us : List Int), PyData.eqvAll (ts.map PyData.int) (us.map PyData.int) = decide (ts = us)
  | [], [] => by simp [PyData.eqvAll]
  | [], _ :: _ => by simp [PyData.eqvAll]
  | _ :: _, [] => by simp [PyData.eqvAll]
  | t :: ts, u :: us => by
    simp only [List.map_cons, PyData.eqvAll, PyData.eqv, eqv_ints ts us]
    by_cases h : t = u
    · subst h; simp
    · simp [h]
theorem eqv_intsD : PyData.eqv (intsD ts) (intsD us) = decide (ts = us) := by
  simp only [intsD, PyData.eqv, eqv_ints]
theorem lay_ints : ∀ ts : List Int, PyData.canLayAll0 (ts.map PyData.int) = true
  | [] => by simp [PyData.canLayAll0]
  | t :: ts => by simp [PyData.canLayAll0, PyData.canLay0, lay_ints ts]
theorem depth_ints : ∀ ts : List Int, PyData.depthAll (ts.map PyData.int) = 0
  | [] => by simp [PyData.depthAll]
  | t :: ts => by simp [PyData.depthAll, PyData.depth, depth_ints ts]
theorem shaped_ints : SeqAt.shaped (intsD ts) = true := by
  simp [SeqAt.shaped, intsD, PyData.canLay0, lay_ints, PyData.depth, depth_ints]
/-- numbers read off values -/
theorem ints_read {m : Int} : ∀ {ys : List V}, (∀ (i : Nat) y, ys[i]? = some y → ∃ r, y = V.int r ∧ 0 ≤ r ∧ r < m) → ∃ ts : List Int, ys = ts.map V.int ∧ ∀ t ∈ ts, 0 ≤ t ∧ t < m
  | [], _ => ⟨[], rfl, by simp⟩
  | y :: ys, h => by
    obtain ⟨r, rfl, hr⟩ := h 0 y rfl
    obtain ⟨ts, rfl, ht⟩ := ints_read (ys := ys) fun i z e => h (i + 1) z (by simpa using e)
    refine ⟨r :: ts, rfl, fun t m => ?_⟩
    rcases List.mem_cons.mp m with rfl | m
    · exact hr
    · exact ht t m
end
section
variable {K : Frg} {H : Hp} {Q : VK} {x y : V} {d e : PyData} {l p : Addr} {xs : List V} {k i : Int}
theorem r_eqD (hx : Dp K H x d) (hy : Dp K H y e) (sx : SeqAt.shaped d = true) (sy : SeqAt.shaped e = true) (h : Q (.bl (PyData.eqv d e)) H) : rEqD K x y H Q := ⟨d, e, hx, hy, sx, sy, h⟩
theorem r_neD (hx : Dp K H x d) (hy : Dp K H y e) (sx : SeqAt.shaped d = true) (sy : SeqAt.shaped e = true) (h : Q (.bl (!PyData.eqv d e)) H) : rNeD K x y H Q := ⟨d, e, hx, hy, sx, sy, h⟩
theorem r_rep (hl : H l = some (.lst xs)) (k0 : 0 ≤ k) (k1 : k ≤ 100000) (n : xs.length ≤ 100) (h : ∀ p, H p = none → Q (.ref p) (upd H p (.lst (List.replicate k.toNat xs).flatten))) : rRep (.ref l) (.int k) H Q :=
  ⟨l, k, xs, rfl, rfl, hl, by omega, by omega, by
    have : xs.length * k.toNat ≤ 100 * 100000 := Nat.mul_le_mul n (by omega)
    exact Nat.le_trans this (by decide), h⟩
theorem r_tupleL (hl : SqL K H p xs) (h : ∀ q, H q = none → Q (.ref q) (upd H q (.tup xs))) :
    ∃ p' ys, [V.ref p] = [.ref p'] ∧ ((SqL K H p' ys ∧ ∀ q, H q = none → Q (.ref q) (upd H q (.tup ys))) ∨ (SqT K H p' ys ∧ Q (.ref p') H)) := ⟨p, xs, rfl, .inl ⟨hl, h⟩⟩
theorem r_lenL (hl : SqL K H p xs) (h : Q (.int xs.length) H) : ∃ p' ys, [V.ref p] = [.ref p'] ∧ (SqL K H p' ys ∨ SqT K H p' ys) ∧ Q (.int ys.length) H := ⟨p, xs, rfl, .inl hl, h⟩
theorem r_lenT (hl : SqT K H p xs) (h : Q (.int xs.length) H) : ∃ p' ys, [V.ref p] = [.ref p'] ∧ (SqL K H p' ys ∨ SqT K H p' ys) ∧ Q (.int ys.length) H := ⟨p, xs, rfl, .inr hl, h⟩
theorem r_gSub {to ti : TE} {t : TSet} {v : V} {σ : L2.St} {R : L2.St → Hp → Prop} (h : to σ H fun o H1 => ti σ H1 fun i H2 => t o i v H2 fun H3 => R σ H3) : gSub to ti t v σ H R := h
theorem ixN_nat {n j : Nat} (h : j < n) : ixN n (j : Int) = some j := by
  unfold ixN
  rw [if_pos (by omega), if_pos (by omega)]
  simp
theorem r_setL {v : V} {j : Nat} {R : Hp → Prop} (hl : H l = some (.lst xs)) (hj : j < xs.length) (h : R (upd H l (.lst (xs.set j v)))) : rSetL (.ref l) (.int (j : Int)) v H R :=
  ⟨l, xs, j, j, rfl, rfl, hl, ixN_nat hj, h⟩
end
end Gd

/-! ## Way2 -/
set_option maxHeartbeats 4000000
/-! Comprehensions over a text; slices of lists. -/
namespace Gd
open PySem PySem.Spec PyProof.Rows L2
section
variable {K : Frg} {R : Hp → Hp → Prop} {H : Hp} {σ : L2.St} {vs : List Nat} {g : TG} {te ta : TE} {Q : VK} {P : Nat → V → Hp → Prop} {x : Str}
def mS (g : TG) (te : TE) (vs : List Nat) (v : V) (σ : L2.St) (H : Hp) (Q : VK) : Prop := tLc (iStr fun _ H' k => k v H') g tYes te vs σ H Q
theorem r_lcS (h : ta σ H fun v H1 => mS g te vs v σ H1 Q) : tLc (iStr ta) g tYes te vs σ H Q := h
theorem lcS (W : Way R) (r0 : R H H) (hn : x.length ≤ 100000) (mono : ∀ i v, Mono (P i v))
    (step : ∀ (i : Nat) c H1, x.cps.toList[i]? = some c → R H H1 → ∀ Qe : VK, (∀ y H3, R H1 H3 → P i y H3 → Qe y H3) → g (.str ⟨#[c]⟩) (wipe σ vs) H1 fun σ2 H2 => wipe σ2 vs = wipe σ vs ∧ te σ2 H2 Qe)
    (fin : ∀ D H' ys, H D = none → R H H' → H' D = some (.lst ys) → ys.length = x.cps.toList.length → (∀ i y, ys[i]? = some y → P i y H') → Q (.ref D) H') :
    mS g te vs (.str x) σ H Q := by
  have hlen : x.cps.size = x.cps.toList.length := rfl
  have hn : x.cps.size ≤ 100000 := hn
  refine ⟨x, rfl, fun D hD => ?_⟩
  refine ⟨fun i m H' => m = x.cps.size - i ∧ i ≤ x.cps.size ∧ Made R P H D i H', ⟨x.cps.size, by simp, Nat.zero_le _, Made.start W r0 hD⟩, ?_⟩
  rintro i m H1 ⟨rfl, hi, M⟩
  by_cases hlt : i < x.cps.size
  · refine .inr ⟨hlt, Made R P H D (i + 1), fun H' p' => ⟨x.cps.size - (i + 1), by omega, rfl, hlt, p'⟩, fun v H' y => ?_⟩
    obtain ⟨e, c, hc, rfl⟩ := y
    subst e
    have s := step i c H' (by rw [Array.getElem?_toList]; exact hc) M.choose_spec.1 _ fun y H3 r3 p3 => Made.turn W mono hD (by omega) M r3 p3
    simp only [tYes, ↓reduceIte]
    exact s
  · have e : i = x.cps.size := by omega
    subst e
    obtain ⟨ys, r, hy, hl, hp⟩ := M
    exact .inl ⟨Nat.le_refl _, fin D H1 ys hD r hy hl hp⟩
end
section
variable {K : Frg} {H : Hp} {Q : VK} {a : Addr} {xs : List V} {lo hi : Option Int} {r : V → Option Int → Option Int → Hp → VK → Prop} {te : TE} {tl th : TO} {σ : L2.St} {R : Option Int → Hp → Prop} {i : Int}
theorem r_slL (hx : SqL K H a xs) (h : ∀ p, H p = none → Q (.ref p) (upd H p (.lst (cutV xs lo hi)))) : rSlL K (.ref a) lo hi H Q := ⟨a, xs, rfl, hx, h⟩
theorem r_partE (h : te σ H fun x H1 => ∃ i, x = .int i ∧ R (some i) H1) : tPart te σ H R := h
end
end Gd

/-! ## Way3 -/
set_option maxHeartbeats 4000000
/-! Loops over enumerate; data of tuples along anything that keeps tuples. -/
namespace Gd
open PySem PySem.Spec PyProof.Rows L2
section
variable {K : Frg} {σ : L2.St} {H : Hp} {g : TG} {tb : TS} {D : Ends} {t : TA} {a : Addr} {xs : List V}
def fE (K : Frg) (g : TG) (tb : TS) (ws : List V) (D : Ends) (σ : L2.St) (H : Hp) : Prop := tFor (iEnum K fun _ H' k => k ws H') g tb D σ H
theorem r_forE (h : t σ H fun ws H1 => fE K g tb ws D σ H1) : tFor (iEnum K t) g tb D σ H := h
theorem forE (Pv : Nat → L2.St → Hp → Prop) (hs : SqL K H a xs) (h0 : Pv 0 σ H) (stays : ∀ i σ' H', i ≤ xs.length → Pv i σ' H' → SqL K H' a xs)
    (turn : ∀ (i : Nat) x σ' H' T, xs[i]? = some x → Pv i σ' H' → H' T = none → g (.ref T) σ' (upd H' T (.tup [.int (i : Int), x])) fun σ2 H2 => tb { D with nx := Pv (i + 1), ct := Pv (i + 1), bk := D.nx } σ2 H2)
    (done : ∀ σ' H', Pv xs.length σ' H' → D.nx σ' H') : fE K g tb [.ref a] D σ H := by
  refine ⟨a, xs, rfl, hs, ?_⟩
  refine ⟨fun i m σ H => m = xs.length - i ∧ i ≤ xs.length ∧ Pv i σ H, ⟨xs.length, by simp, Nat.zero_le _, h0⟩, ?_⟩
  rintro i m σ H ⟨rfl, hi, p⟩
  have q := stays i σ H hi p
  by_cases hlt : i < xs.length
  · refine .inr ⟨⟨xs, xs[i], q, by simp [hlt]⟩, Pv (i + 1), fun σ' H' p' => ⟨xs.length - (i + 1), by omega, rfl, hlt, p'⟩, fun x H' y => ?_⟩
    obtain ⟨T, x, rfl, hT, rfl, y⟩ := y
    exact turn i x σ H T (y xs q) p hT
  · have e : i = xs.length := by omega
    subst e
    exact .inl ⟨⟨xs, q, Nat.le_refl _⟩, done σ H p⟩
end
section
variable {K : Frg} {H H' : Hp}
mutual
theorem Dp.ts (e : ∀ a xs, SqT K H a xs → SqT K H' a xs) : ∀ (d : PyData) (v : V), flatD d = true → Dp K H v d → Dp K H' v d
  | .none, _, _, h => by cases h; exact .non
  | .bool b, _, _, h => by cases h; exact .bl b
  | .int i, _, _, h => by cases h; exact .int i
  | .str x, _, _, h => by cases h; exact .str x
  | .list _, _, f, _ => by simp [flatD] at f
  | .dict _, _, f, _ => by simp [flatD] at f
  | .tuple ds, _, f, h => by
    cases h with
    | tup h1 h2 => exact .tup (e _ _ h1) (DpAll.ts e ds _ (by simpa only [flatD] using f) h2)
theorem DpAll.ts (e : ∀ a xs, SqT K H a xs → SqT K H' a xs) : ∀ (ds : List PyData) (vs : List V), flatDs ds = true → DpAll K H vs ds → DpAll K H' vs ds
  | [], _, _, h => by cases h; exact .nil
  | d :: ds, _, f, h => by
    cases h with
    | cons h1 h2 =>
      simp only [flatDs, Bool.and_eq_true] at f
      exact .cons (Dp.ts e d _ f.1 h1) (DpAll.ts e ds _ f.2 h2)
end
end
section
variable {K : Frg} {σ : L2.St} {H : Hp} {Q : VK} {t tk : TA} {ta : TE} {C : Addr} {n m : Nat} {sp : Sp} {gV : List V → List V → List V} {E : XK} {dvs : List V} {f : Str}
theorem r_makeK (h : t σ H fun vs H1 => tk σ H1 fun zs H2 => vs.length = n ∧ zs.length = m ∧ ∀ x dx, H2 x = none → H2 dx = none → dx ≠ x →
  sp (gV (.ref x :: vs) zs) (upd (upd H2 dx (.own x)) x (.ins C dx [])) (fun v H3 => v = .non ∧ Q (.ref x) H3) E) : tMakeK C n m sp gV E t tk σ H Q := h
theorem r_make (h : t σ H fun vs H1 => ∀ x dx, H1 x = none → H1 dx = none → dx ≠ x →
  sp (.ref x :: (vs ++ dvs)) (upd (upd H1 dx (.own x)) x (.ins C dx [])) (fun v H2 => v = .non ∧ Q (.ref x) H2) E) : tMake C sp dvs E t σ H Q := h
theorem r_fld (h : ta σ H fun x H1 => ∃ a C dx fs v, x = .ref a ∧ H1 a = some (.ins C dx fs) ∧ Cls K C ∧ NoAttr K C f ∧ fs.lookup f = some v ∧ Q v H1) : tFld K ta f σ H Q := h
theorem r_prop (h : ta σ H fun x H1 => ∃ a dx fs, x = .ref a ∧ H1 a = some (.ins C dx fs) ∧ sp (.ref a :: dvs) H1 Q E) : L2.tProp C sp dvs E ta σ H Q := h
theorem r_meth {mm : Str} (h : ta σ H fun x H1 => ∃ a dx fs, x = .ref a ∧ H1 a = some (.ins C dx fs) ∧ fs.lookup mm = none ∧ t σ H1 fun vs H2 => sp (x :: (vs ++ dvs)) H2 Q E) : tMeth C mm sp dvs E ta t σ H Q := h
end
end Gd

/-! ## Own -/
set_option maxHeartbeats 4000000
/-! for x in o, o's own __iter__ giving iter(t), t a tuple. -/
namespace Gd
open PySem PySem.Spec PyProof.Rows L2
/-- the object that walks over the tuple at t -/
abbrev walkT (t : Addr) : Obj := { cls := .type "tuple_iterator", data := .fields #[.ref t, .int 0 0] }
def ItT (t it : Addr) : HO := .ext fun h => h.get? it = some (walkT t)
section
variable {prog : Program} {w : World} {A : Around} {E : Value → Shared → Prop} {s : Shared} {t : Addr} {items : Array Value}
open Builtin in
theorem iter_tuple {Q : Value → Shared → Prop} (ht : s.heap.IsTuple t items) (h : Q (.ref s.heap.objs.size) { s with heap := s.heap.push (walkT t) }) :
    wpAny (model prog w) A (call (.builtin "iter") [.ref t]) Q E s := by
  refine Calls.call_function_entry (by decide +kernel) (by decide +kernel) PySem.W.kdk_entry_iter (PySem.W.kdk_args_iter _) ?_
  unfold Builtin.«iter»
  refine wpAny_bind (m := someArgs "iter" 1 2 _) (wpAny_of_eq (a := [Value.ref t]) (by first | rfl | kernel_rfl!) ?_)
  show wpAny _ _ (pyIter (.ref t) >>= _) _ _ _
  exact wpAny_bind (wpAny_pyIter_tuple ht (wpAny_pure ⟨_, rfl, h⟩))
end
theorem itT_ok {P : Program} {w : World} {H : Hp} {h : Heap} {t it : Addr} (e : h.get? it = some (walkT t)) : ObjOk P w H h it (ItT t it) := ⟨e, ⟨_, e⟩, fun h1 h2 q k => k _ q⟩
/-- iter(t): a new walk -/
def rIterT (K : Frg) (n : Nat) : List V → Hp → VK → Prop := fun xs H Q => ∃ (t : Addr) (zs : List V), xs = [.ref t] ∧ SqT K H t zs ∧ ∀ it, H it = none → n ≤ it → Q (.ref it) (upd H it (ItT t it))
theorem call_iterT {X : Cx} : CallR X (.builtin "iter") (rIterT X.K X.s_0.heap.objs.size) := by
  intro pins s σ H xs us Q I r h
  obtain ⟨t, zs, rfl, ht, q⟩ := h
  obtain ⟨u, rfl, ru⟩ := vals1 r
  cases ru
  obtain ⟨its, rv, pl, hz⟩ := I.tuple ht
  refine iter_tuple pl ?_
  exact ⟨.ref s.heap.objs.size, _, I.laid (t' := s.toks) (fun b u e => Heap.get?_push_of_some _ e) (Nat.le_refl _) (itT_ok (Heap.get?_push_size _ rfl)), rfl, q _ (I.hok.fresh (Nat.le_refl _)) I.sz⟩
/-! ### defs whose promise knows how great the heap is at the call -/
section
variable {P : Program} {w : World} {K : Frg} {mg : Str → Option Value} {base : Heap}
structure FnS (P : Program) (w : World) (K : Frg) (mg : Str → Option Value) (base : Heap) (k : Nat) (f : Addr) (fd : FuncData) (ps : List Str) (sp : Nat → Sp) : Prop where
  many : ∀ n vs H Q E, sp n vs H Q E → vs.length = ps.length
  goes : ∀ (A : Around) (outer : List Env) (s : Shared) (H : Hp) (args : Args) (us : List Value) (vs : List V) (Q : VK),
    Room k A → Env0 P w K mg base A outer s H → BindsTo s fd args (ps.zip us) → Vals vs us → sp s.heap.objs.size vs H Q E0 →
    codeAny (model P w) A (.call (.ref f) args) (CR CX0 outer P w H s Q E0) s
theorem fnS_of {k : Nat} {f : Addr} {x qual : Str} {params : Arguments} {body : List Stmt} {scope : Scope} {dvs : List V} {kws : List (Str × V)} {fd : FuncData} {N ps : List Str} {sp : Nat → Sp}
    (F : FunD K x qual params body scope dvs kws f fd) (S : FnScope N ps scope) (many : ∀ n vs H Q E, sp n vs H Q E → vs.length = ps.length)
    (hbody : ∀ (cdv : Value) (A : Around) (outer : List Env) (s : Shared) (H : Hp) (vs : List V) (Q : VK),
      Room k (A.deeper (envOfC qual scope s.heap.objs.size f cdv)) → sp s.heap.objs.size vs H Q E0 →
      ∃ t, PSs (cxOf CX0 P w K mg base N qual scope f cdv A outer s H E0).nox body t ∧ t { nx := fun _ H' => Q .non H', rt := Q } (start N vs) H) :
    FnS P w K mg base (k + 1) f fd ps sp := by
  refine ⟨many, fun A outer s H args us vs Q hr e0 hb r hsp => ?_⟩
  obtain ⟨oc, od, dV, kV, doc, pm, an, cdv, ct, osl, rfl, lk, hcd, _, _⟩ := F.ex
  have many' := many _ _ _ _ _ hsp
  have stays : ∀ b o, base.get? b = some o → s.heap.get? b = some o := fun b o e => (e0.bs b o e).1
  have inK := e0.mod.kin.keeps stays
  have free := e0.mod.nolimit.keeps stays
  have kinds : ∀ q ∈ ps.zip us, scope.names.lookup q.1 = some .local ∨
      (scope.names.lookup q.1 = some .cell ∧ ((cellsFrom (s.heap.objs.size + 1) scope.names []).lookup q.1).isSome = true) := by
    rintro ⟨n, v⟩ hq
    cases S.par n (List.of_mem_zip hq).1 with
    | inl l => exact Or.inl l
    | inr c => exact Or.inr ⟨c, PySem.W.cellsFrom_some _ _ _ (Or.inl c)⟩
  refine codeAny_call_function hr.depth (inK _ _ lk) rfl S.co S.gen rfl
    (PySem.W.codeRec_of inK hcd) (hb _ _ _ _ ?_)
  refine wpAny_newFunctionEnv_cells S.kind kinds fun env made s1 entered => ?_
  subst made
  refine ⟨free.keeps entered.toInCall.keep, codeAny_func ?_⟩
  obtain ⟨t, runs, reads⟩ := hbody cdv A outer s H vs Q (hr.deeper _) hsp
  have I : Inv (cxOf CX0 P w K mg base N qual scope f cdv A outer s H E0) [] (start N vs) H s1 :=
    inv_start S hr.hd e0 many' r entered
  refine wpAny_mono (runs.nox.run [] s1 (start N vs) H _ I reads) (fun fl s' ends => ?_)
    fun _ _ z => z
  cases fl with
  | ret u =>
    obtain ⟨v, _, H', J, rv, q⟩ := ends
    exact ⟨v, H', J.os, J.bare, J.base, J.hok, rv, q⟩
  | next =>
    obtain ⟨_, H', J, q⟩ := ends
    exact ⟨V.non, H', J.os, J.bare, J.base, J.hok, rfl, q⟩
  | brk => obtain ⟨_, _, _, z⟩ := ends; exact z.elim
  | cont => obtain ⟨_, _, _, z⟩ := ends; exact z.elim
/-- an own __iter__ that gives a walk over a tuple -/
def spOwnIt (D : Addr → Addr → Hp → Prop) (n : Nat) : Sp := fun vs H Q _ => ∃ c t, vs = [.ref c] ∧ D c t H ∧ ∀ it, H it = none → n ≤ it → Q (.ref it) (upd H it (ItT t it))
def OkS (P : Program) (w : World) (K : Frg) (mg : Str → Option Value) (base : Heap) (k : Nat) (f : Addr) (ps : List Str) (sp : Nat → Sp) : Prop := ∃ fd, FnS P w K mg base k f fd ps sp ∧ Binds K fd ps []
end
def iOwn (K : Frg) (C : Addr) (D : Addr → Addr → Hp → Prop) (te : TE) : TI := fun σ H R => te σ H fun v H1 => ∃ (c dx : Addr) (fs : List (Str × V)) (t : Addr), v = .ref c ∧ H1 c = some (.ins C dx fs) ∧ D c t H1 ∧ R (Itt K t) H1
theorem pi_own {X : Cx} {tg e : Expr} {te : TE} {C f : Addr} {k m : Nat} {ps : List Str} {D : Addr → Addr → Hp → Prop} (he : PE X e te) (hm : Meth X.K C "__iter__" f)
    (F : OkS X.prog X.w X.K X.mg X.base k f ps (spOwnIt D)) (hr : Room m X.A) (hk : k ≤ m := by decide) : PI X tg e (iOwn X.K C D te) := by
  obtain ⟨fd, F, b⟩ := F
  refine ⟨fun pins s σ H R I h => ?_⟩
  refine thn (he.run pins s σ H _ I h) fun u s1 ⟨v, H1, I1, r1, c, dx, fs, t, ev, hc, hD, q⟩ => ?_
  subst ev
  cases r1
  obtain ⟨mA, J, _⟩ := ins_get I1.hok hc
  obtain ⟨od, J, _⟩ := J.look
  obtain ⟨m0, hF⟩ := I1.fr
  refine PySem.W.owit_iter hF I1.ok.mod.kin J hm.at_ hm.fn ?_
  have hsp : spOwnIt D s1.heap.objs.size [.ref c] H1 (fun v H2 => ∃ it, v = .ref it ∧ H1 it = none ∧ s1.heap.objs.size ≤ it ∧ H2 = upd H1 it (ItT t it)) E0 :=
    ⟨c, t, rfl, hD, fun it h1 h2 => ⟨it, rfl, h1, h2, rfl⟩⟩
  have hl := F.many _ _ _ _ _ hsp
  have r2 : Vals [V.ref c] [Value.ref c] := .cons rfl .nil
  refine wpAny_call (codeAny_mono (F.goes X.A X.stack s1 H1 ⟨[.ref c], []⟩ [.ref c] [.ref c] _ (hr.mono hk) I1.env0 (by
    have := b s1 [.ref c] I1.kIn (by simpa using hl)
    simpa using this) r2 hsp) fun r s' hq' => ?_)
  match r, hq' with
  | .error er, hq => exact False.elim hq
  | .ok (.ret u), hq =>
    obtain ⟨v, H', I2, rv, it, ev, hn, hle, eH⟩ := I1.after hq
    subst ev eH
    cases rv
    have eo : s'.heap.get? it = some (walkT t) := (I2.hok it _ upd_same).1
    have hT : s'.TypeIs (.ref it) "tuple_iterator" := ⟨_, eo, rfl⟩
    unfold PySem.W.OwitIt
    refine wpAny_specialOf (name := Str.ofString "__next__") hT PySem.F.slot_tuple_iterator_next.lookup ?_
    have st : s'.heap.IsTupleIter it t 0 := ⟨_, eo, rfl, rfl⟩
    have I3 := ItX.inv_drop I2 (φ := fun h => h.get? it = some (walkT t)) upd_same
    have e1 : ItX.dropH (upd H1 it (ItT t it)) it = H1 := ItX.dropH_upd hn
    have fp := ItX.inv_fp I2 (upd_same : upd H1 it (ItT t it) it = _) (Nat.le_trans I1.sz hle)
    rw [e1] at fp
    refine ⟨it, [it], _, _, H1, rfl, e1 ▸ I3, turn_tuple t it, st, fun b hb => ?_, q⟩
    have e : b = it := by simpa using hb
    rw [e]
    exact fp
section
variable {K : Frg} {C : Addr} {D : Addr → Addr → Hp → Prop} {k : Nat} {g : TG} {tb : TS} {te : TE} {E : Ends} {vs : List Nat} {σ : L2.St} {H : Hp} {Q : VK} {c dx t : Addr} {fs : List (Str × V)}
theorem r_forO (e : σ[k]? = some (some (.ref c))) (hc : H c = some (.ins C dx fs)) (hD : D c t H) (h : fT K g tb (.ref t) E σ H) : tFor (iOwn K C D (tVar k)) g tb E σ H := by
  obtain ⟨a, e2, _, q⟩ := h
  cases e2
  exact ⟨_, e, c, dx, fs, t, rfl, hc, hD, q⟩
theorem r_lcO (e : σ[k]? = some (some (.ref c))) (hc : H c = some (.ins C dx fs)) (hD : D c t H) (h : mT K g te vs (.ref t) σ H Q) : tLc (iOwn K C D (tVar k)) g tYes te vs σ H Q := by
  obtain ⟨a, e2, _, q⟩ := h
  cases e2
  exact ⟨_, e, c, dx, fs, t, rfl, hc, hD, q⟩
end
section
variable {t : TE} {ts : List TE} {acc : Str} {σ : L2.St} {H : Hp} {Q : Str → Hp → Prop} {te : TE} {QV : VK}
theorem r_js (h : t σ H fun x H1 => ∃ y : Str, x = .str y ∧ (acc ++ y).length ≤ sizeLine ∧ tJs ts (acc ++ y) σ H1 Q) : tJs (t :: ts) acc σ H Q := h
theorem r_jn (h : Q acc H) : tJs [] acc σ H Q := h
theorem r_fmt (h : te σ H fun x H1 => (∃ y : Str, x = .str y ∧ y.length ≤ sizeLine ∧ QV (.str y) H1) ∨ ∃ i : Int, x = .int i ∧ i.natAbs.log2 < 1920 ∧ QV (.str (toString i)) H1) : tFmt te σ H QV := h
end
end Gd

/-! ## Err -/
set_option maxHeartbeats 4000000
/-! Error classes of a program whose making says super().__init__(a text) and then keeps one thing. -/
namespace Gd
open PySem PySem.Spec PySem.Calls PyProof.Rows L2 NdefX
/-- an error class: its name, what it keeps, its making -/
structure DefE where
  cls : Str
  fld : Str
  stm : Stmt
def DefE.C (d : DefE) (K : Frg) : Addr := He.ga K d.cls
def DefE.I (d : DefE) (K : Frg) : Addr := He.ma K (He.ga K d.cls) "__init__"
def DefE.qual (d : DefE) : Str := d.cls ++ ".__init__"
/-- what the written part says of it -/
structure ErrC (P : Program) (K : Frg) (d : DefE) : Prop where
  oex : OexC K (d.C K)
  iC : PySem.W.findIn K (.ref (d.C K)) "__init__" = some (some (.ref (d.I K)))
  tI : PySem.W.typeIn K (.ref (d.I K)) = some (.type "function")
  fn : ∃ (oc : Value) (od : Option Addr) (doc pm : Value) (an : Option Addr) (cda : Addr) (ct : Value) (cc : Addr) (osl : Array (Option Value)),
    K.lookup (d.I K) = some ⟨oc, od, .func (PySem.W.ksFn "__init__" d.qual (defArgs d.stm) (defBody d.stm) (defScope d.stm) .none .none doc pm an (.ref cda) ct cc), osl⟩ ∧ PySem.W.codeIn K (.ref cda) d.qual = true ∧
    (∃ (c1 : Value) (c2 : Option Addr) (vs : Array Value) (cs : Array (Option Value)) (file : Str) (tf : Tok), K.lookup cda = some ⟨c1, c2, .fields vs, cs⟩ ∧ vs[2]? = some (.str file tf) ∧ ((P.main.file : Str) == file) = true) ∧
    (∃ (c1 : Value) (c2 : Option Addr) (cs : Array (Option Value)), K.lookup cc = some ⟨c1, c2, .cell (some (.ref (d.C K))), cs⟩)
  noF : PySem.W.findIn K (.ref (d.C K)) d.fld = some none
  sub : PySem.W.mroIn K (d.C K) (.ref (d.C K)) = some true
  ve : PySem.W.subIn K (.ref (d.C K)) (.type "ValueError") = some true
  sup : PySem.W.ks_superIn K (d.C K) (d.C K) "__init__" = some (some (.builtin "ValueError.__init__"))
  nsup : PySem.W.nsIn K mainGlobals "super" = some none
  tp : PySem.W.nsIn K cStatics "thirdparty.any" = some none
  xf : XfC K (d.C K)
/-- what its making does -/
def spE (C : Addr) (f : Str) (te : TE) : Sp := fun vs H Q _ => ∃ a v, vs = [.ref a, v] ∧ H a = some (exo a C none) ∧
  te [some (.ref a), some v, none] H fun _ H1 => H1 a = some (exo a C none) ∧ ∀ dx, H1 dx = none → dx ≠ a → Q .non (upd (upd H1 dx (exd dx [(f, v)])) a (exo a C (some dx)))
section
variable {P : Program} {w : World} {K : Frg} {mg : Str → Option Value} {base : Heap} {d : DefE}
/-- super().__init__(e) within the making's own body -/
theorem super_init {X : Cx} {a C cda cc : Addr} {body : List Stmt} {e : Expr} {te : TE} {p0 p1 p2 p3 p4 : Pos} {σ : L2.St} {H : Hp} {s : Shared} {oc1 : Value} {od1 : Option Addr} {os1 : Array (Option Value)} {fd : FuncData} {ar : Arg} {f : Addr} {m : Str → Option Value}
    {c1 c3 : Value} {c2 c4 : Option Addr} {vs : Array Value} {cs cs2 : Array (Option Value)} {file : Str} {tf : Tok} {R : Flow → Shared → Prop}
    (I : Inv X [] σ H s) (T : OexC X.K C) (ea : H a = some (exo a C none))
    (hks : X.env.kindOf "super" = some .globalImplicit) (hkc : X.env.kindOf "__class__" = some .free) (hka : X.env.kindOf ar.arg = some .local) (hfu : X.env.func = some f) (hco : X.env.code = .ref cda) (hcl : X.env.cells.lookup ("__class__" : Str) = some cc)
    (hf : X.K.lookup f = some ⟨oc1, od1, .func fd, os1⟩) (hp : (fd.params.posonlyargs ++ fd.params.args).head? = some ar) (hns : s.heap.Ns X.env.locals m) (hv : m ar.arg = some (.ref a))
    (hcode : X.K.lookup cda = some ⟨c1, c2, .fields vs, cs⟩) (hvs : vs[2]? = some (.str file tf)) (hfile : ((X.prog.main.file : Str) == file) = true) (hcell : X.K.lookup cc = some ⟨c3, c4, .cell (some (.ref C)), cs2⟩)
    (sub : PySem.W.mroIn X.K C (.ref C) = some true) (ve : PySem.W.subIn X.K (.ref C) (.type "ValueError") = some true) (sup : PySem.W.ks_superIn X.K C C "__init__" = some (some (.builtin "ValueError.__init__")))
    (nsup : PySem.W.nsIn X.K mainGlobals "super" = some none) (tp : PySem.W.nsIn X.K cStatics "thirdparty.any" = some none) (htop : (X.prog.main.scope.names.lookup ("super" : Str)).isSome = false)
    (he : PE X e te) {QM : VK} (h : te σ H QM) (hE : ∀ v H1, QM v H1 → H1 a = some (exo a C none)) (hQ : ∀ v H1 s', QM v H1 → Inv X [] σ H1 s' → R .next s')
    (hs1 : starEach [e] X.env = (false, eval e X.env) :: starEach [] X.env := by rfl) {pl : Sem Bool}
    (ht : eval (.Call (.Attribute (.Call (.Name "super" p0) [] [] p1) "__init__" p2) [e] [] p3) X.env = (do
      let ov ← attributeBase (.Call (.Name "super" p0) [] [] p1) "__init__" X.env (eval (.Call (.Name "super" p0) [] [] p1) X.env)
      standAt p2.atName
      let (f, first) ← holding [ov] (getMethod ov "__init__" pl)
      callWith p3 f first (backTo p3 (starEach [e] X.env)) []) := by rfl)
    (hi : interactive X.env = false := by rfl) (hs : swapsWith (.Call (.Attribute (.Call (.Name "super" p0) [] [] p1) "__init__" p2) [e] [] p3) none p4.line X.env = pure false := by rfl) :
    _root_.PySem.wpAt (model X.prog X.w) X.A (.func body X.env) (exec (.Expr (.Call (.Attribute (.Call (.Name "super" p0) [] [] p1) "__init__" p2) [e] [] p3) p4) X.env) R X.xe s := by
  have KX : X.K.In s.heap := I.kIn
  have hk := I.ok.kind
  obtain ⟨nm, q, N, bs, bm, sn, sub', ab, col, dd, k0, k1, k2, k3, k5, hC, hbm⟩ := T.cls
  have hcls : PySem.W.clsIn X.K C = some { name := nm, bases := bs, mro := .ref C :: bm, ns := N, qualname := q, hasDict := true, slotNames := sn, subclasses := sub', abstract := ab, collection := col, hasDel := false } := by
    unfold PySem.W.clsIn; rw [hC] <;> rfl
  obtain ⟨t1, hx⟩ := exo_at I.hok ea
  obtain ⟨mb, hmb, hbb⟩ := I.ok.mod.blt
  have hCs : s.heap.get? C = _ := KX _ _ hC
  refine PySem.ks_wpAt_Expr_any (PySem.ks_wpAt_MethodCall (PySem.ks_wpAt_super_base hks hkc (by decide) hfu (KX _ _ hf) rfl hp hco (KX _ _ hcode) rfl hvs hfile htop ?_) ht) hi hs
  refine PySem.W.ks_loadName_global hk hks (loadGlobal_builtin (mg := X.mg) (mb := mb) (by rw [I.ok.glob]; exact I.ok.mod.glob.keeps I.bk) (PySem.W.mg_none_of I.ok.mod.kin I.ok.mod.glob nsup) (by rw [I.ok.blt]; exact hmb.keeps I.bk)
    ((hbb _ (by decide +kernel)).trans PyProof.Rows.Boot.«super») ⟨rfl, ?_⟩)
  refine wpAny_loadName_free hk hkc hcl ⟨_, KX _ _ hcell, rfl⟩ ?_
  refine wpAny_loadName_local hk hka hns hv ?_
  refine PySem.ks_wpAny_isType_cls hCs rfl ⟨rfl, ?_⟩
  obtain ⟨hh, g, dr, tk, os⟩ := s
  refine PySem.ks_wpAny_call_super hCs rfl hx rfl (fun c z => by cases z) (PySem.W.looks_mroIn KX sub) fun h1 e1 k1 => ?_
  have I1 : Inv X [] σ H ⟨h1, g, dr, tk, os⟩ := I.kept (t' := tk) k1
  have KX1 : X.K.In h1 := KX.keeps k1
  have ia : PySem.W.InstAt h1 a { cls := .ref C, dict := none, data := .fields #[.ref t1, .none, .none, .none, .bool false, .none] } C none := ⟨k1 _ _ hx, rfl, rfl, trivial⟩
  have sup' : PySem.W.alongIn X.K "__init__" (((Value.ref C :: bm).dropWhile (· != .ref C)).drop 1) = some (some (.builtin "ValueError.__init__")) := by
    have z := sup
    unfold PySem.W.ks_superIn at z
    rw [hcls] at z
    exact z
  refine PySem.W.kxs_getMethod PySem.W.kxs_ValueError e1 (PySem.W.looks_opaque KX1 tp) ((PySem.W.looks_clsIn KX1 hcls).andThen .now) rfl KX1 sup' (ia.type.andThen (PySem.W.looks_subIn KX1 ve)) (PySem.W.ks_ne KX1 ia hcls) (by decide) ?_
  have k2 : ∀ b o, h1.get? b = some o → (h1.push (PySem.W.kxs_mw "ValueError.__init__" a)).get? b = some o := fun b o z => Heap.get?_push_of_some _ z
  have e2 : (h1.push (PySem.W.kxs_mw "ValueError.__init__" a)).get? h1.objs.size = some (PySem.W.kxs_mw "ValueError.__init__" a) := Heap.get?_push_at rfl rfl
  have I2 : Inv X [(h1.objs.size, PySem.W.kxs_mw "ValueError.__init__" a)] σ H ⟨h1.push (PySem.W.kxs_mw "ValueError.__init__" a), g, dr, tk + 1, os⟩ :=
    (I1.kept (t' := tk + 1) k2).pins_of fun p hp => by
      obtain rfl : p = _ := by simpa using hp
      exact ⟨e2, I1.hok.fresh (Nat.le_refl _), fun z => absurd I1.lt (by rw [← z]; exact Nat.lt_irrefl _), I1.nofs (Nat.le_refl _), fun v z => by cases z⟩
  rw [hs1]
  refine PySem.W.kxs_callWith (i := "ValueError.__init__") (x := a) (by rfl) ?_
  refine evalArgs_plain ?_
  show wpAny _ _ (spliced ((false, eval e X.env) :: backTo p3 (starEach [] X.env))) _ _ (⟨h1.push (PySem.W.kxs_mw "ValueError.__init__" a), g, dr, tk + 1, os⟩ : Shared)
  refine spliced_cons (thn (he.run _ _ σ H _ I2 h) fun u s3 hh3 => ?_)
  obtain ⟨mv, H1, I3, r3, qm⟩ := hh3
  have ea3 := hE _ _ qm
  have fin := fun s' => hQ mv H1 s' qm
  refine spliced_nil ?_
  have hu := (I3.pin (h1.objs.size, PySem.W.kxs_mw "ValueError.__init__" a) (by simp)).1
  refine ⟨hu, ?_⟩
  have KX3 : X.K.In s3.heap := I3.kIn
  obtain ⟨t3, hx3⟩ := exo_at I3.hok ea3
  obtain ⟨h3, g3, dr3, tk3, os3⟩ := s3
  refine wpAny_call (codeAny_of_tree ?_)
  show wpAny _ (X.A.in1) (callAny (.ref h1.objs.size) ⟨[u], []⟩) _ _ _
  simp only [callAny]
  refine wpAny_bind (wpAny_load hu ?_)
  simp only [PySem.W.kxs_mw, (by decide : (Value.type "method-wrapper" == Value.type "method" || Value.type "method-wrapper" == Value.type "builtin_function_or_method" || Value.type "method-wrapper" == Value.type "method-wrapper") = true), if_true]
  refine PySem.W.KFB.if_so (by decide) ?_
  refine wpAny_bind (PySem.W.check_bound_init F.excBase_ValueError.toExcCallFacts (KX3 _ _ hC) hx3 rfl ?_)
  refine wpAny_bind (wpAny_pure (wpAny_pure ?_))
  refine ⟨plainId_quiet F.excBase_ValueError.init.plain _, codeAny_builtin F.excBase_ValueError.initEntry ?_⟩
  refine PySem.W.exc_init_tree (cls := .ref C) (t0 := t3) (dv := none) (c2 := .none) (c3 := .none) (b4 := .bool false) hx3 (by show 1 ≤ sizeLine; decide) fun h4 k4 hx4 ht4 => ?_
  have J : Inv X [(h1.objs.size, PySem.W.kxs_mw "ValueError.__init__" a)] σ (upd H1 a (exo a C none)) ⟨h4, g3, dr3, tk3, os3⟩ := I3.write (t' := tk3) (x := a) (e := a) (o := exo a C none) (by rw [ea3]; exact True.intro) (.inl rfl) k4 ⟨_, hx4⟩ (exo_ok hx4)
  have eu : upd H1 a (exo a C none) = H1 := by
    funext b
    by_cases hb : b = a
    · rw [hb, upd_same, ea3]
    · rw [upd_ne hb]
  rw [eu] at J
  exact fin _ (Inv.unpinned (pins := []) J)
/-- the making of such an error keeps its promise -/
theorem err_fn {k : Nat} {e : Expr} {te : TE} {x : Str} {p0 p1 p2 p3 p4 p5 p6 p7 p8 : Pos} {N : List Str} (T : ErrC P K d) (S : NScope N ["self", x] ["__class__"] (defScope d.stm)) (hN : N = (["self", x, "__class__"] : List Str))
    (hb : defBody d.stm = [.Expr (.Call (.Attribute (.Call (.Name "super" p0) [] [] p1) "__init__" p2) [e] [] p3) p4, .Assign [.Attribute (.Name "self" p5) d.fld p6] (.Name x p7) p8])
    (hks : (defScope d.stm).names.lookup ("super" : Str) = some .globalImplicit) (hkc : (defScope d.stm).names.lookup ("__class__" : Str) = some .free)
    (hka : (defScope d.stm).names.lookup ("self" : Str) = some .local) (hp : ∃ ar, ((defArgs d.stm).posonlyargs ++ (defArgs d.stm).args).head? = some ar ∧ ar.arg = "self") (htop : (P.main.scope.names.lookup ("super" : Str)).isSome = false)
    (hst : ∀ env, starEach [e] env = (false, eval e env) :: starEach [] env)
    (hcall : ∀ env, ∃ pl : Sem Bool, eval (.Call (.Attribute (.Call (.Name "super" p0) [] [] p1) "__init__" p2) [e] [] p3) env = (do
      let ov ← attributeBase (.Call (.Name "super" p0) [] [] p1) "__init__" env (eval (.Call (.Name "super" p0) [] [] p1) env)
      standAt p2.atName
      let (f, first) ← holding [ov] (getMethod ov "__init__" pl)
      callWith p3 f first (backTo p3 (starEach [e] env)) []))
    (hsw : ∀ env, swapsWith (.Call (.Attribute (.Call (.Name "super" p0) [] [] p1) "__init__" p2) [e] [] p3) none p4.line env = pure false)
    (hx1 : (x == ("__debug__" : Str)) = false := by decide) (hx2 : (x == ("__classdict__" : Str)) = false := by decide)
    (hsw2 : ∀ env, swapsWith (.Name x p7) (some (.Attribute (.Name "self" p5) d.fld p6)) p8.line env = pure false := by intro _; rfl)
    (hm : ∀ X : Cx, X.K = K → X.N = N → X.env.scope = defScope d.stm → X.env.globals = mainGlobals → PE X e te)
    (bnd : ∀ (doc pm : Value) (an : Option Addr) (cda : Addr) (ct : Value) (cc : Addr) (us : List Value), us.length = 2 →
      bindArgs (PySem.W.ksFn "__init__" d.qual (defArgs d.stm) (defBody d.stm) (defScope d.stm) .none .none doc pm an (.ref cda) ct cc) ⟨us, []⟩ = pure ((["self", x] : List Str).zip us)) :
    ∃ fd, FnOk P w K mg base CX0 (k + 1) (d.I K) fd ["self", x] (spE (d.C K) d.fld te) ∧ Binds K fd ["self", x] [] := by
  obtain ⟨oc, od, doc, pm, an, cda, ct, cc, osl, lk, hcd, ⟨c1, c2, vs, cs, file, tf, lc, hvs, hfile⟩, ⟨c3, c4, cs2, lcc⟩⟩ := T.fn
  refine ⟨_, ⟨fun vs H Q E h => ?_, fun A outer s H args us vs Q E hr e0 hb2 r hsp => ?_⟩, Binds.all fun us hl => bnd doc pm an cda ct cc us hl⟩
  · obtain ⟨a, v, rfl, _⟩ := h
    rfl
  obtain ⟨a, v, rfl, ea, hmsg⟩ := hsp
  let G : NF := ⟨"__init__", d.qual, defArgs d.stm, defBody d.stm, defScope d.stm, [("__class__", cc)], cda⟩
  have KX : K.In s.heap := e0.mod.kin.keeps fun b o e => (e0.bs b o e).1
  have lim : s.heap.NoLimit := e0.mod.nolimit.keeps fun b o e => (e0.bs b o e).1
  have hlen : ([V.ref a, v] : List V).length = (["self", x] : List Str).length := rfl
  have hcc : H cc = none := (e0.bs cc _ (e0.mod.kin _ _ lcc)).2
  have cl1 : ∀ {y : Str} {c : Addr}, ([("__class__", cc)] : List (Str × Addr)).lookup y = some c → y = "__class__" ∧ c = cc := fun {y c} z => by
    have q := PySem.mem_of_lookup z
    simp at q
    exact q
  have CA : CellsAt [("__class__", cc)] ["__class__"] [none] s.heap H := ⟨rfl, fun y c z => by
      obtain ⟨rfl, rfl⟩ := cl1 z
      exact ⟨hcc, _, _, KX _ _ lcc, rfl⟩, fun y z c h1 h2 => by
      rw [(cl1 h1).1, (cl1 h2).1], fun i y hy => by
      cases i with
      | zero =>
        cases (show some ("__class__" : Str) = some y from hy)
        exact ⟨cc, by simp [List.lookup], fun v z => by simp at z⟩
      | succ j => simp at hy⟩
  refine PySem.ks_codeAny_call_defAt (body := defBody d.stm) (binds := (["self", x] : List Str).zip us) hr.depth (KX _ _ lk) rfl lim (PySem.W.codeRec_of KX hcd) rfl hb2 S.nocell (fun ⟨y, _⟩ hy => S.par y (List.of_mem_zip hy).1) (fun h₁ hns kp => ?_) S.co S.gen S.kind
  have hus : us.length = 2 := by rw [← r.length]; rfl
  obtain ⟨ua, uv, rfl⟩ : ∃ ua uv, us = [ua, uv] := match us, hus with | [a, b], _ => ⟨a, b, rfl⟩
  obtain rfl : ua = Value.ref a := by
    cases r with
    | cons r1 _ => exact r1
  have I : Inv (ncx CX0 P w K mg base N G (d.I K) A outer s H E) [] (startF N [.ref a, v] [none]) H { s with heap := h₁, toks := s.toks + ((["self", x] : List Str).zip [Value.ref a, uv]).length } := inv_startN (F := G) S hr.hd e0 hlen r CA hns kp
  have st : startF N [.ref a, v] [none] = [some (.ref a), some v, none] := by rw [hN]; rfl
  rw [st] at I
  obtain ⟨ar, har, hself⟩ := hp
  have hslf : ((["self", x] : List Str).zip [Value.ref a, uv]).reverse.lookup ar.arg = some (.ref a) := by
    rw [hself]
    have nd : (["self", x] : List Str).Nodup := by
      have q := S.nd.sublist (List.take_sublist 3 N)
      rw [show N.take 3 = (["self", x] : List Str) ++ (["__class__"] : List Str) from S.pre] at q
      exact (List.nodup_append.mp q).1
    exact zip_look (i := 0) nd rfl rfl
  show _root_.PySem.wpAt (model P w) (A.deeper (envF G (d.I K) s.heap.objs.size)) (.func (defBody d.stm) (envF G (d.I K) s.heap.objs.size)) (execs (defBody d.stm) (envF G (d.I K) s.heap.objs.size)) _ _ _
  rw [hb]
  refine PySem.ks_wpAt_execs_cons ?_
  refine super_init (X := ncx CX0 P w K mg base N G (d.I K) A outer s H E) (ar := ar) I T.oex ea hks hkc (by rw [hself]; exact hka) rfl rfl (by rfl) lk har hns hslf lc hvs hfile lcc T.sub T.ve T.sup T.nsup T.tp htop (hm _ rfl rfl rfl rfl) hmsg (fun v H1 q => q.1) (fun v' H1 s' q J => ?_) (hs1 := hst _) (hi := I.quiet) (hs := hsw _) (ht := (hcall _).choose_spec)
  refine _root_.PySem.wpAt_of_wpAny ?_
  obtain ⟨ea1, q1⟩ := q
  have v0 : Vis (defScope d.stm) "self" := .inl hka
  have v1 : Vis (defScope d.stm) x := .inl (S.par x (by simp))
  subst hN
  have ost : PSs (ncx CX0 P w K mg base ["self", x, "__class__"] G (d.I K) A outer s H E) [.Assign [.Attribute (.Name "self" p5) d.fld p6] (.Name x p7) p8] _ := pss_one (ps_ost (pv 0 rfl v0) (pv 1 rfl v1 hx1 hx2) (hsw2 _))
  refine wpAny_mono (ost.run [] s' [some (.ref a), some v, none] H1 { nx := fun _ H' => Q .non H', rt := Q } J ?_) (fun fl s2 hs => ?_) fun e s2 hs => hs
  · refine ⟨_, rfl, _, rfl, a, d.C K, rfl, T.oex, T.noF, .inl ⟨ea1, fun dx h1 h2 => q1 dx h1 h2⟩⟩
  · cases fl with
    | ret u =>
      obtain ⟨v2, σ2, H2, J2, rv, q2⟩ := hs
      exact ⟨v2, H2, J2.os, J2.bare, J2.base, J2.hok, rv, q2⟩
    | next =>
      obtain ⟨σ2, H2, J2, q2⟩ := hs
      exact ⟨.non, H2, J2.os, J2.bare, J2.base, J2.hok, rfl, q2⟩
    | brk => obtain ⟨_, _, _, z⟩ := hs; exact z.elim
    | cont => obtain ⟨_, _, _, z⟩ := hs; exact z.elim
end
end Gd

/-! ## Err2 -/
set_option maxHeartbeats 4000000
/-! Tests for error classes; their raising; defs that may raise. -/
namespace Gd
open PySem PySem.Spec PySem.Calls PyProof.Rows L2
/-! ### tests -/
def errB (K : Frg) (C : Addr) : Bool := match K.lookup C with
  | some ⟨.type t, _, .cls cd, ⟨[_, _, _, _, some (.builtin n), _]⟩⟩ => (match cd.mro with
    | .ref D :: bm => decide (t = "type") && (decide (D = C) && (decide (n = "ValueError.__new__") && (cd.hasDict && (!cd.hasDel && PySem.HandSPX.refsVE bm))))
    | _ => false)
  | _ => false
theorem errB_ok {K : Frg} {C : Addr} (h : errB K C = true) :
    ∃ nm q N bs bm sn sub ab col dd k0 k1 k2 k3 k5, K.lookup C = some (excClassObj nm q C N bs bm true sn sub ab col dd k0 k1 k2 k3 k5 "ValueError.__new__") ∧ PySem.HandSPX.refsVE bm = true := by
  unfold errB at h
  split at h
  · rename_i t dd cd k0 k1 k2 k3 n k5 e
    split at h
    · rename_i D bm hm
      obtain ⟨h1, h⟩ := both h
      obtain ⟨h2, h⟩ := both h
      obtain ⟨h3, h⟩ := both h
      obtain ⟨h4, h⟩ := both h
      obtain ⟨h5, h6⟩ := both h
      have e1 := of_decide_eq_true h1
      have e2 := of_decide_eq_true h2
      have e3 := of_decide_eq_true h3
      subst e1 e2 e3
      obtain ⟨nm, bs, mro, ns, qn, hd, sn, sb, ab, col, del⟩ := cd
      dsimp only at hm h4 h5
      subst hm h4
      cases del with
      | true => cases h5
      | false => exact ⟨nm, qn, ns, bs, bm, sn, sb, ab, col, dd, k0, k1, k2, k3, k5, e, h6⟩
    · cases h
  · cases h
def seenE (K : Frg) (a : Addr) : He.FnW := match K.lookup a with
  | some ⟨_, _, .func fd, _⟩ => some (fd.name, fd.qualname, fd.params, fd.body, fd.scope, fd.globals, fd.closure.map fun q => (q.1, 0), fd.builtins)
  | _ => none
def DefE.due (d : DefE) : He.FnW := some ("__init__", d.qual, defArgs d.stm, .stmts (defBody d.stm), defScope d.stm, mainGlobals, [("__class__", 0)], builtinsNs)
def fileB (P : Program) (K : Frg) (c : Addr) : Bool := match K.lookup c with
  | some ⟨_, _, .fields vs, _⟩ => (match (vs[2]? : Option Value) with
    | some (Value.str file _) => (P.main.file : Str) == file
    | _ => false)
  | _ => false
def cellB (K : Frg) (c C : Addr) : Bool := match K.lookup c with
  | some ⟨_, _, .cell (some (.ref D)), _⟩ => decide (D = C)
  | _ => false
def DefE.fnB (P : Program) (K : Frg) (d : DefE) : Bool := match K.lookup (d.I K) with
  | some ⟨_, _, .func fd, _⟩ => (match fd.code, fd.closure, fd.defaults, fd.kwdefaults with
    | .ref cda, [(_, cc)], .none, .none => PySem.W.codeIn K (.ref cda) d.qual && (fileB P K cda && cellB K cc (d.C K))
    | _, _, _, _ => false)
  | _ => false
def DefE.good (P : Program) (K : Frg) (d : DefE) : Bool :=
  errB K (d.C K) && (He.eqO (PySem.W.findIn K (.ref (d.C K)) "__setattr__") (some (some (.builtin "object.__setattr__"))) && (decide (PySem.W.subIn K (.ref (d.C K)) (.type "BaseException") = some true) &&
  (decide (PySem.W.typeIn K (.ref (d.C K)) = some (.type "type")) && (PySem.W.keepIn K (.ref (d.C K)) && (He.eqO (PySem.W.findIn K (.ref (d.C K)) "__init__") (some (some (.ref (d.I K)))) &&
  (decide (PySem.W.typeIn K (.ref (d.I K)) = some (.type "function")) && (d.fnB P K && (He.eqO (PySem.W.findIn K (.ref (d.C K)) d.fld) (some none) && (decide (PySem.W.mroIn K (d.C K) (.ref (d.C K)) = some true) &&
  (decide (PySem.W.subIn K (.ref (d.C K)) (.type "ValueError") = some true) && (He.eqO (PySem.W.ks_superIn K (d.C K) (d.C K) "__init__") (some (some (.builtin "ValueError.__init__"))) &&
  (He.eqO (PySem.W.nsIn K mainGlobals "super") (some none) && (He.eqO (PySem.W.nsIn K cStatics "thirdparty.any") (some none) && xfB K (d.C K))))))))))))))
theorem DefE.ok {P : Program} {K : Frg} {d : DefE} (e : seenE K (d.I K) = d.due) (h : d.good P K = true) : ErrC P K d := by
  obtain ⟨h1, h⟩ := both h
  obtain ⟨h2, h⟩ := both h
  obtain ⟨h3, h⟩ := both h
  obtain ⟨h4, h⟩ := both h
  obtain ⟨h5, h⟩ := both h
  obtain ⟨h6, h⟩ := both h
  obtain ⟨h7, h⟩ := both h
  obtain ⟨h8, h⟩ := both h
  obtain ⟨h9, h⟩ := both h
  obtain ⟨h10, h⟩ := both h
  obtain ⟨h11, h⟩ := both h
  obtain ⟨h12, h⟩ := both h
  obtain ⟨h13, h⟩ := both h
  obtain ⟨h14, h15⟩ := both h
  refine ⟨⟨errB_ok h1, He.eqO_ok h2, of_decide_eq_true h3, of_decide_eq_true h4, h5⟩, He.eqO_ok h6, of_decide_eq_true h7, ?_, He.eqO_ok h9, of_decide_eq_true h10, of_decide_eq_true h11, He.eqO_ok h12, He.eqO_ok h13, He.eqO_ok h14, xfB_ok h15⟩
  unfold DefE.fnB at h8
  unfold seenE at e
  split at h8
  · rename_i oc od fd osl lk
    rw [lk] at e
    split at h8
    · rename_i cda y cc hcode hclo hdf hkw
      obtain ⟨g1, g⟩ := both h8
      obtain ⟨g2, g3⟩ := both g
      obtain ⟨m1, m2, m3, m4, m5, m6, m7, m8, m9, m10, m11, m12, m13, m14, m15⟩ := fd
      dsimp only at hcode hclo hdf hkw
      subst hcode hclo hdf hkw
      have e' : (some (m1, m2, m3, m4, m5, m6, [(y, 0)], m15) : He.FnW) = d.due := e
      unfold DefE.due at e'
      simp only [Option.some.injEq, Prod.mk.injEq, List.cons.injEq, and_true] at e'
      obtain ⟨rfl, rfl, rfl, rfl, rfl, rfl, rfl, rfl⟩ := e'
      refine ⟨oc, od, m10, m11, m12, cda, m14, cc, osl, lk, g1, ?_, ?_⟩
      · unfold fileB at g2
        split at g2
        · rename_i c1 c2 vs cs lc
          split at g2
          · rename_i file tf hv
            exact ⟨c1, c2, vs, cs, file, tf, lc, hv, g2⟩
          · cases g2
        · cases g2
      · unfold cellB at g3
        split at g3
        · rename_i c1 c2 D cs lc
          have e3 := of_decide_eq_true g3
          subst e3
          exact ⟨c1, c2, cs, lc⟩
        · cases g3
    · cases h8
  · cases h8
/-! ### what the top leaves, error classes too -/
abbrev ObsE : Type := Bool × List He.FnW
def obsOfE (P : Program) (ts : List (Frg → Bool)) (ds : List DefA) (es : List DefE) (K : Frg) : ObsE :=
  ((ts.all fun t => t K) && ((ds.all fun d => d.good K) && es.all fun d => d.good P K), (ds.map fun d => seenAt K (d.place K)) ++ es.map fun d => seenE K (d.I K))
def dueOfE (ds : List DefA) (es : List DefE) : ObsE := (true, ds.map DefA.due ++ es.map DefE.due)
def TellsE (P : Program) (ts : List (Frg → Bool)) (ds : List DefA) (es : List DefE) (K : Frg) : Prop := obsOfE P ts ds es K = dueOfE ds es
def obsAtE (P : Program) (n : Nat) (ts : List (Frg → Bool)) (ds : List DefA) (es : List DefE) (g : Addr → Option Obj) : ObsE := obsOfE P ts ds es (He.frG g (cStatics :: He.asD g n))
def hookE (P : Program) (n : Nat) (ts : List (Frg → Bool)) (ds : List DefA) (es : List DefE) : PySem.W.Hook where
  α := ObsE
  obs s := obsAtE P n ts ds es s.heap.get?
  val _ := dueOfE ds es
  says _ h := ∃ K : Frg, K.In h ∧ TellsE P ts ds es K
  of _ _ e := ⟨_, He.frG_in, e⟩
  keeps := by
    rintro _ h h' ⟨K, hK, c⟩ k
    exact ⟨K, PySem.W.Frag.In.keeps hK k, c⟩
theorem obsAtE_eq {P : Program} {n : Nat} {ts : List (Frg → Bool)} {ds : List DefA} {es : List DefE} {g : Addr → Option Obj} {s : Shared} (h : ∀ a, g a = s.heap.get? a) :
    obsAtE P n ts ds es g = (hookE P n ts ds es).obs s := by
  have e : g = s.heap.get? := funext h
  subst e
  rfl
section
variable {P : Program} {ts : List (Frg → Bool)} {ds : List DefA} {es : List DefE} {K : Frg}
theorem TellsE.test (c : TellsE P ts ds es K) (i : Nat) {t : Frg → Bool} (h : ts[i]? = some t := by rfl) : t K = true := by
  have c1 : ((ts.all fun t => t K) && ((ds.all fun d => d.good K) && es.all fun d => d.good P K)) = true := congrArg Prod.fst c
  exact List.all_eq_true.mp (both c1).1 t (List.mem_of_getElem? h)
theorem TellsE.fun (c : TellsE P ts ds es K) (i : Nat) {d : DefA} (h : ds[i]? = some d := by rfl) :
    ∃ fd, FunD K d.name d.qual (defArgs d.stm) (defBody d.stm) (defScope d.stm) (d.dvs K) (d.kws K) (d.place K) fd := by
  have c1 : ((ts.all fun t => t K) && ((ds.all fun d => d.good K) && es.all fun d => d.good P K)) = true := congrArg Prod.fst c
  have e : (ds.map fun d => seenAt K (d.place K)) ++ (es.map fun d => seenE K (d.I K)) = ds.map DefA.due ++ es.map DefE.due := congrArg Prod.snd c
  have e1 := List.append_inj_left e (by simp)
  have e' := congrArg (fun l => l[i]?) e1
  simp only [List.getElem?_map, h, Option.map_some] at e'
  exact DefA.fun (Option.some.inj e') (List.all_eq_true.mp (both (both c1).2).1 d (List.mem_of_getElem? h))
theorem TellsE.err (c : TellsE P ts ds es K) (i : Nat) {d : DefE} (h : es[i]? = some d := by rfl) : ErrC P K d := by
  have c1 : ((ts.all fun t => t K) && ((ds.all fun d => d.good K) && es.all fun d => d.good P K)) = true := congrArg Prod.fst c
  have e : (ds.map fun d => seenAt K (d.place K)) ++ (es.map fun d => seenE K (d.I K)) = ds.map DefA.due ++ es.map DefE.due := congrArg Prod.snd c
  have e1 := List.append_inj_right e (by simp)
  have e' := congrArg (fun l => l[i]?) e1
  simp only [List.getElem?_map, h, Option.map_some] at e'
  exact DefE.ok (Option.some.inj e') (List.all_eq_true.mp (both (both c1).2).2 d (List.mem_of_getElem? h))
end
end Gd

/-! ## Try -/
set_option maxHeartbeats 4000000
/-! try with any number of except clauses, each with or without a name. -/
namespace Gd
open PySem PySem.Spec PySem.Calls PyProof.Rows L2
/-- a clause: what it names, the slot of its name, its suite -/
structure Clause where
  nam : Value
  slot : Option Nat
  run : Addr → Value → Option Addr → TS
/-- the ends of a suite whose name goes -/
def Ends.drop (D : Ends) (i : Nat) : Ends := ⟨fun t G => D.nx (t.set i none) G, D.rt, fun t G => D.bk (t.set i none) G, fun t G => D.ct (t.set i none) G⟩
def Clause.goes (q : Clause) (a : Addr) (cls : Value) (d : Option Addr) (D : Ends) (σ : L2.St) (H : Hp) : Prop := match q.slot with
  | none => q.run a cls d D σ H
  | some i => q.run a cls d (Ends.drop D i) (σ.set i (some (.ref a))) H
def wN (K : Frg) (W0 : WX) (D : Ends) : List Clause → WX
  | [] => W0
  | q :: r => fun cls d σ H => ∃ b, PySem.W.exmOne K cls q.nam = some b ∧ (b = true → ∀ a, H a = none → q.goes a cls d D σ H) ∧ (b = false → wN K W0 D r cls d σ H)
inductive Cls' (X : Cx) : List ExceptHandler → List Clause → Prop
  | nil : Cls' X [] []
  | anon {x : Str} {c : Value} {t : Addr → Value → Option Addr → TS} {st : Stmt} {sts : List Stmt} {p1 p2 : Pos} {hs : List ExceptHandler} {l : List Clause} (nm : Names X x c)
      (su : ∀ (a : Addr) (o : Obj) (k : Value) (d : Option Addr) (pn : List (Addr × Obj)), Zc k d o → (∃ vs, o.data = .fields vs) → PSs (X.suite a ((a, o) :: pn)) (st :: sts) (t a k d)) (r : Cls' X hs l) :
      Cls' X (.ExceptHandler (some (.Name x p1)) none (st :: sts) p2 :: hs) (⟨c, none, t⟩ :: l)
  | named {x n : Str} {i : Nat} {c : Value} {t : Addr → Value → Option Addr → TS} {st : Stmt} {sts : List Stmt} {p1 p2 : Pos} {hs : List ExceptHandler} {l : List Clause} (nm : Names X x c) (hi : X.N[i]? = some n) (hl : X.env.kindOf n = some .local)
      (su : ∀ (a : Addr) (o : Obj) (k : Value) (d : Option Addr) (pn : List (Addr × Obj)), Zc k d o → (∃ vs, o.data = .fields vs) → PSs (X.suite a ((a, o) :: pn)) (st :: sts) (t a k d)) (r : Cls' X hs l) :
      Cls' X (.ExceptHandler (some (.Name x p1)) (some n) (st :: sts) p2 :: hs) (⟨c, some i, t⟩ :: l)
section
variable {X : Cx} {body : List Stmt} {h0 : ExceptHandler} {hds : List ExceptHandler} {l : List Clause} {p9 : Pos} {tb : WX → TS} {W0 : WX}
theorem ps_tryN (e1 : X.stack = X.env :: X.outer) (e2 : X.env.frame = some X.env.locals) (nd : X.N.Nodup) (tk : Takes X W0)
    (hb : ∀ (W : WX) (pn : List (Addr × Obj)) (xe : Value → Shared → Prop), Takes (X.tr pn xe) W → PassesOwn (model X.prog X.w) X.A X.env xe → PSs (X.tr pn xe) body (tb W))
    (hh : Cls' X (h0 :: hds) l) : PS X (.Try body (h0 :: hds) [] [] p9) (fun D σ H => tb (wN X.K W0 D l) D σ H) := by
  constructor
  intro pins s σ H D I h
  have ok := I.ok
  have frm : X.A.frames = some (X.env :: X.outer) := by rw [ok.frames, e1]
  refine wpAny_Try_except (wpAny_mono ((hb (wN X.K W0 D l) (X.pn ++ pins) (fun e s₁ => wpAny (model X.prog X.w) X.A (noteFrame e X.env) (fun _ s₂ => wpAny (model X.prog X.w) X.A (setFlight e none)
    (fun _ s₃ => wpAny (model X.prog X.w) X.A (handleBy e X.env (h0 :: hds)) (SP X pins D) X.xe s₃) X.xe s₂) X.xe s₁) (fun u s1 got => ?_) PassesOwn.looking).run [] s σ H D (I.toTry _) h) (fun fl s1 q => ?_) (fun _ _ z => z))
  · obtain ⟨a, B, sI, pi2, σ1, H1, k, d, rfl, J0, nb, up, sky, na, hos, ag, w⟩ := got
    have J := J0.ofTry ok
    have sky2 : Sky B (X.env :: X.outer) a (Zc k d) X.env.locals s1.heap := by rw [← e1]; exact sky
    show wpAny (model X.prog X.w) X.A (noteFrame (.ref a) X.env) _ _ _
    refine Sky.land Zc.steady frm e2 sky2 fun h3 fl3 up3 => ?_
    have J3 : L2.Inv X pins σ1 H1 { s1 with heap := h3 } := J.landed nb fl3.1 (up.trans up3) hos ag
    obtain ⟨o3, vs3, g3, z3, dd3⟩ := fl3.there
    have off : a ∉ frs (X.env :: X.outer) := fun hm => by
      obtain ⟨_, o', e', hn'⟩ := fl3.2.2.1.mem hm
      rw [g3] at e'
      cases e'
      exact hn' _ dd3
    have nL : a ≠ X.env.locals := fun z => off (List.mem_filterMap.mpr ⟨X.env, List.mem_cons_self, by rw [e2, z]⟩)
    have nF : a ∉ X.fs := fun hm => by
      obtain ⟨e, he, q⟩ := List.mem_filterMap.mp hm
      exact off (List.mem_filterMap.mpr ⟨e, List.mem_cons_of_mem _ he, q⟩)
    have S3 := J3.suite g3 dd3 na nL nF
    have tells : ∀ {x : Str} {c : Value} {p1 : Pos} {Q : Value → Shared → Prop} {E : Value → Shared → Prop}, Names X x c → Q c { s1 with heap := h3 } → wpAny (model X.prog X.w) (X.A.mark (some (.ref a))) (eval (.Name x p1) X.env) Q E { s1 with heap := h3 } := fun {x c p1 Q E} nm q => by
      obtain ⟨hg, hdb, hm | ⟨hm, hv, hn'⟩⟩ := nm
      · exact ld_glob (X := X.suite a ((a, o3) :: (X.pn ++ pins))) S3 hg hm q hdb
      · exact ld_blt (X := X.suite a ((a, o3) :: (X.pn ++ pins))) S3 hg hm hv q hn' hdb
    have looks : ∀ {c : Value} {b : Bool}, PySem.W.exmOne X.K k c = some b → PySem.W.Looks (model X.prog X.w) h3 (excMatches (.ref a) c) b := fun {c b} hb1 =>
      PySem.W.exm_one (M := model X.prog X.w) J3.kIn (fun A Q E s kp q => wpAny_typeOf_ref (kp _ _ g3) (by rw [z3.1]; exact q)) hb1
    have suites : ∀ {st : Stmt} {sts : List Stmt} {t : Addr → Value → Option Addr → TS}, (∀ (a : Addr) (o : Obj) (k : Value) (d : Option Addr) (pn : List (Addr × Obj)), Zc k d o → (∃ vs, o.data = .fields vs) → PSs (X.suite a ((a, o) :: pn)) (st :: sts) (t a k d)) →
        ∀ {h4 : Heap} {o4 : Obj} {σ2 : L2.St} {D2 : Ends} {s5 : Shared}, Zc k d o4 → (∃ vs, o4.data = .fields vs) → L2.Inv (X.suite a ((a, o4) :: (X.pn ++ pins))) [] σ2 H1 s5 → t a k d D2 σ2 H1 →
        wpAny (model X.prog X.w) (X.A.mark (some (.ref a))) (execs (st :: sts) X.env) (SP (X.suite a ((a, o4) :: (X.pn ++ pins))) [] D2) (fun _ _ => False) s5 :=
      fun {st sts t} su {h4 o4 σ2 D2 s5} hz hd S z => (su a o4 k d (X.pn ++ pins) hz hd).run [] s5 σ2 H1 D2 S z
    have go : ∀ {hs : List ExceptHandler} {l2 : List Clause}, Cls' X hs l2 → wN X.K W0 D l2 k d σ1 H1 → wpAny (model X.prog X.w) X.A (handleBy (.ref a) X.env hs) (SP X pins D) X.xe { s1 with heap := h3 } := by
      intro hs l2 hk
      induction hk with
      | nil =>
        intro w
        refine wpAny_handleBy_nil ?_
        obtain ⟨_, _, _, oe, ves, T, oT, tk', ge, gz, gd, g1, _⟩ := id fl3
        have last : wpAny (model X.prog X.w) X.A (setFlight (.ref a) X.env.frame) (fun _ s4 => wpAny (model X.prog X.w) X.A (throw (.ref a) : Sem Flow) (SP X pins D) X.xe s4) X.xe { s1 with heap := h3 } := by
          rw [e2]
          refine HandSPX.setFlight_upZ fl3 fun h4 held up4 => wpAny_throw (tk _ _ ⟨a, B, sI, pins, σ1, H1, k, d, rfl, J, nb, (up.trans up3).trans up4, .inr (.inr (by rw [e1]; exact held)), na, hos, ag, w⟩)
        unfold PySem.passOn
        refine wpAny_bind (wpAny_field ge gd g1 ?_)
        rw [if_neg (by simp)]
        first | exact wpAny_bind (wpAny_pure (wpAny_bind last)) | exact wpAny_bind last
      | anon nm su r ih =>
        intro w
        obtain ⟨b, hb1, yes, no⟩ := w
        refine wpAny_handleBy_cons (codeAny_handlers_test (tells nm ((looks hb1).here ?_))) (fun z => by cases z)
        cases b with
        | false => exact ih (no rfl)
        | true =>
          refine codeAny_handlers_suite (HandSPX.lands_againZ fl3 fun h4 fl4 up4 => ?_)
          have J4 : L2.Inv X pins σ1 H1 { s1 with heap := h4 } := J.landed nb fl4.1 ((up.trans up3).trans up4) hos ag
          obtain ⟨o4, vs4, g4, z4, dd4⟩ := fl4.there
          refine wpAny_mono (suites su (h4 := h4) z4 ⟨_, dd4⟩ (J4.suite g4 dd4 na nL nF) (yes rfl a na)) (fun f s6 q => ?_) (fun _ _ z => z.elim)
          cases f with
          | next => obtain ⟨σ6, H6, S6, q6⟩ := q; exact ⟨_, _, S6.unsuite ok, q6⟩
          | brk => obtain ⟨σ6, H6, S6, q6⟩ := q; exact ⟨_, _, S6.unsuite ok, q6⟩
          | cont => obtain ⟨σ6, H6, S6, q6⟩ := q; exact ⟨_, _, S6.unsuite ok, q6⟩
          | ret u => obtain ⟨v6, σ6, H6, S6, r6, q6⟩ := q; exact ⟨_, _, _, S6.unsuite ok, r6, q6⟩
      | named nm hi hl su r ih =>
        intro w
        obtain ⟨b, hb1, yes, no⟩ := w
        refine wpAny_handleBy_cons (codeAny_handlers_test (tells nm ((looks hb1).here ?_))) (fun z => by cases z)
        cases b with
        | false => exact ih (no rfl)
        | true =>
          refine codeAny_handlers_suite_as (HandSPX.lands_againZ fl3 fun h4 fl4 up4 => ?_)
          have J4 : L2.Inv X pins σ1 H1 { s1 with heap := h4 } := J.landed nb fl4.1 ((up.trans up3).trans up4) hos ag
          obtain ⟨o4, vs4, g4, z4, dd4⟩ := fl4.there
          refine store_ok (X := X.suite a ((a, o4) :: (X.pn ++ pins))) (v := .ref a) (J4.suite g4 dd4 na nL nF) nd hi (.inl hl) rfl (fun s5 S5 => ?_) (.inr hl)
          refine wpAny_mono (suites su (h4 := h4) z4 ⟨_, dd4⟩ S5 (yes rfl a na)) (fun f s6 q => ?_) (fun _ _ z => z.elim)
          cases f with
          | next => obtain ⟨σ6, H6, S6, q6⟩ := q; exact gone_ok (S6.unsuite ok) nd hi hl fun s7 J7 => ⟨_, _, J7, q6⟩
          | brk => obtain ⟨σ6, H6, S6, q6⟩ := q; exact gone_ok (S6.unsuite ok) nd hi hl fun s7 J7 => ⟨_, _, J7, q6⟩
          | cont => obtain ⟨σ6, H6, S6, q6⟩ := q; exact gone_ok (S6.unsuite ok) nd hi hl fun s7 J7 => ⟨_, _, J7, q6⟩
          | ret u => obtain ⟨v6, σ6, H6, S6, r6, q6⟩ := q; exact gone_ok (S6.unsuite ok) nd hi hl fun s7 J7 => ⟨_, _, _, J7, r6, q6⟩
    exact go hh w
  · cases fl with
    | next => obtain ⟨σ1, H1, J, z⟩ := q; exact wpAny_execs_nil ⟨σ1, H1, J.ofTry ok, z⟩
    | brk => obtain ⟨σ1, H1, J, z⟩ := q; exact ⟨σ1, H1, J.ofTry ok, z⟩
    | cont => obtain ⟨σ1, H1, J, z⟩ := q; exact ⟨σ1, H1, J.ofTry ok, z⟩
    | ret u => obtain ⟨v, σ1, H1, J, rv, z⟩ := q; exact ⟨v, σ1, H1, J.ofTry ok, rv, z⟩
end
end Gd

/-! ## Ops -/
set_option maxHeartbeats 4000000
/-! Own special methods: len, in, items, +, == that decides. -/
namespace Gd
open PySem PySem.Spec PySem.Calls PyProof.Rows L2
section
variable {X : Cx} {CX : CXT} {k : Nat} {f C : Addr} {fd : FuncData} {ps : List Str} {sp : Sp} {E : L2.St → XK} {pins : List (Addr × Obj)} {σ : L2.St} {H : Hp} {s : Shared} {Q : VK} {us : List Value} {vs : List V}
/-- an own def called by the interpreter itself, perhaps one deeper -/
theorem run_own {A' : Around} (hA : A' = X.A ∨ A' = X.A.in1) (F : FnOk X.prog X.w X.K X.mg X.base CX k f fd ps sp) (hr : Room (k + 1) X.A) (hb : Binds X.K fd ps []) (hx : PassesAt CX X σ (E σ)) (I : L2.Inv X pins σ H s) (r : Vals vs us)
    (h : sp vs H Q (E σ)) : wpAny (model X.prog X.w) A' (call (.ref f) us) (EP X pins σ Q) X.xe s := by
  have e0 : Env0 X.prog X.w X.K X.mg X.base A' X.stack s H := by
    rcases hA with rfl | rfl
    · exact I.env0
    · exact I.env0.in1
  have ro : Room k A' := by
    rcases hA with rfl | rfl
    · exact hr.mono (Nat.le_succ k)
    · exact hr.in1
  have n : us.length = ps.length := (r.length).symm.trans (F.len _ _ _ _ h)
  have bd : BindsTo s fd ⟨us, []⟩ (ps.zip us) := by
    have q := hb s us I.kIn (by rw [List.append_nil]; exact n)
    rwa [List.append_nil] at q
  refine wpAny_call (codeAny_mono (F.run A' X.stack s H ⟨us, []⟩ us vs Q (E σ) ro e0 bd r h) fun res s' got => ?_)
  match res, got with
  | .error er, got => exact hx pins H s er s' I got
  | .ok (.ret u), got => exact I.after got
theorem passes_at {E : XK} (h : Passes CX X E) : PassesAt CX X σ E := fun pins H s e s' I c => h pins σ H s e s' I c
/-- the instance at c, as the interpreter sees it -/
theorem inst_of (I : L2.Inv X pins σ H s) {c dx : Addr} {fs : List (Str × V)} (hc : H c = some (.ins C dx fs)) : ∃ ox od, PySem.W.InstAt s.heap c ox C od := by
  obtain ⟨mA, J, _⟩ := ins_get I.hok hc
  obtain ⟨od, J, _⟩ := J.look
  exact ⟨_, _, J⟩
/-! ### len(o) -/
def rLenO (C : Addr) (sp : Sp) : List V → Hp → VK → Prop := fun xs H Q => ∃ (c dx : Addr) (fs : List (Str × V)), xs = [.ref c] ∧ H c = some (.ins C dx fs) ∧ sp [.ref c] H (fun v H1 => ∃ n : Nat, v = .int n ∧ n ≤ 1000000 ∧ Q (.int n) H1) E0
theorem call_lenO (F : FnOk X.prog X.w X.K X.mg X.base CX0 k f fd ps sp) (hr : Room (k + 1) X.A) (hb : Binds X.K fd ps []) (hm : Meth X.K C "__len__" f) : CallR X (.builtin "len") (rLenO C sp) := by
  intro pins s σ H xs us Q I r h
  obtain ⟨c, dx, fs, rfl, hc, q⟩ := h
  obtain ⟨u, rfl, ru⟩ := vals1 r
  cases ru
  obtain ⟨ox, od, J⟩ := inst_of I hc
  obtain ⟨m0, hF⟩ := I.fr
  refine PySem.W.len_K hF I.ok.mod.kin J hm.at_ hm.fn (wpAny_mono (run_own (.inr rfl) F hr hb (E := fun _ => E0) (passes_at pass0) I r q) (fun v s' z => ?_) fun _ _ z => z)
  obtain ⟨x, H', I', rv, n, rfl, hn, q'⟩ := z
  obtain ⟨t, rfl⟩ := rv
  exact ⟨⟨Int.natCast_nonneg n, Int.lt_of_le_of_lt (Int.ofNat_le.mpr hn) (by decide)⟩, .int n, H', I'.tok _, ⟨_, rfl⟩, q'⟩
/-! ### x in o -/
def rInO (C : Addr) (sp : Sp) : R2 := fun x o H Q => ∃ (c dx : Addr) (fs : List (Str × V)), o = .ref c ∧ H c = some (.ins C dx fs) ∧ sp [.ref c, x] H (fun v H1 => ∃ b, v = .bl b ∧ Q (.bl b) H1) E0
theorem op_inO (F : FnOk X.prog X.w X.K X.mg X.base CX0 k f fd ps sp) (hr : Room (k + 1) X.A) (hb : Binds X.K fd ps []) (hm : Meth X.K C "__contains__" f) : OpR X (compareOp .In) (rInO C sp) := by
  intro pins s σ H x o v u Q I rx ro h
  obtain ⟨c, dx, fs, rfl, hc, q⟩ := h
  cases ro
  obtain ⟨ox, od, J⟩ := inst_of I hc
  obtain ⟨m0, hF⟩ := I.fr
  refine PySem.W.in_K hF I.ok.mod.kin J hm.at_ hm.fn (wpAny_mono (run_own (vs := [.ref c, x]) (us := [.ref c, v]) (.inl rfl) F hr hb (E := fun _ => E0) (passes_at pass0) I (.cons rfl (.cons rx .nil)) q) (fun w s' z => ?_) fun _ _ z => z)
  obtain ⟨y, H', I', rv, b, rfl, q'⟩ := z
  cases (show w = Value.bool b from rv)
  exact wpAny_truthy_bool ⟨.bl b, H', I', rfl, q'⟩
def rNotInO (C : Addr) (sp : Sp) : R2 := fun x o H Q => ∃ (c dx : Addr) (fs : List (Str × V)), o = .ref c ∧ H c = some (.ins C dx fs) ∧ sp [.ref c, x] H (fun v H1 => ∃ b, v = .bl b ∧ Q (.bl (!b)) H1) E0
theorem op_notInO (F : FnOk X.prog X.w X.K X.mg X.base CX0 k f fd ps sp) (hr : Room (k + 1) X.A) (hb : Binds X.K fd ps []) (hm : Meth X.K C "__contains__" f) : OpR X (compareOp .NotIn) (rNotInO C sp) := by
  intro pins s σ H x o v u Q I rx ro h
  obtain ⟨c, dx, fs, rfl, hc, q⟩ := h
  cases ro
  obtain ⟨ox, od, J⟩ := inst_of I hc
  obtain ⟨m0, hF⟩ := I.fr
  refine PySem.W.notIn_K hF I.ok.mod.kin J hm.at_ hm.fn (wpAny_mono (run_own (vs := [.ref c, x]) (us := [.ref c, v]) (.inl rfl) F hr hb (E := fun _ => E0) (passes_at pass0) I (.cons rfl (.cons rx .nil)) q) (fun w s' z => ?_) fun _ _ z => z)
  obtain ⟨y, H', I', rv, b, rfl, q'⟩ := z
  cases (show w = Value.bool b from rv)
  exact wpAny_truthy_bool ⟨.bl (!b), H', I', rfl, q'⟩
end
end Gd
namespace Gd
open PySem PySem.Spec PySem.Calls PyProof.Rows L2
/-- a class over object alone that has no such operator, neither from the left nor from the right -/
def noOpB (K : Frg) (nm : String) (D : Addr) : Bool := match PySem.W.clsIn K D with
  | some cd => decide (cd.mro = [.ref D, .type "object"]) && (He.eqO (PySem.W.findIn K (.ref D) (dunder nm)) (some none) && He.eqO (PySem.W.findIn K (.ref D) (dunderR nm)) (some none))
  | none => false
def firstB (K : Frg) (C : Addr) : Bool := match PySem.W.clsIn K C with
  | some cd => decide (cd.mro.head? = some (.ref C))
  | none => false
section
variable {M : Model} {K : Frg} {h : Heap} {nm : String} {D C : Addr}
theorem fills_no (X : K.In h) (c : noOpB K nm D = true) (o1 : typeLookup (.type "object") (dunder nm) = pure none) (o2 : typeLookup (.type "object") (dunderR nm) = pure none) : PySem.W.Looks M h (fillsNumberSlot (.ref D) nm) false := by
  unfold noOpB at c
  split at c
  · rename_i cd hcd
    obtain ⟨c1, c⟩ := both c
    obtain ⟨c2, c3⟩ := both c
    have hm := of_decide_eq_true c1
    intro A Q E s k q
    unfold fillsNumberSlot
    refine wpAny_bind ((PySem.W.looks_clsIn X hcd).andThen (f := fun cd => pure cd.mro) .now A _ E s k ?_)
    rw [hm, List.anyM_cons]
    refine wpAny_bind ?_
    show wpAny M A (List.anyM _ [dunder nm, dunderR nm]) _ _ _
    rw [List.anyM_cons]
    refine wpAny_bind (wpAny_bind (PySem.W.looks_findIn X (He.eqO_ok c2) A _ E s k (wpAny_pure ?_)))
    simp only [Bool.false_eq_true, if_false]
    rw [List.anyM_cons]
    refine wpAny_bind (wpAny_bind (PySem.W.looks_findIn X (He.eqO_ok c3) A _ E s k (wpAny_pure ?_)))
    simp only [Bool.false_eq_true, if_false, List.anyM_nil]
    refine wpAny_pure ?_
    simp only [Bool.false_eq_true, if_false, List.anyM_cons, List.anyM_nil]
    refine wpAny_bind (wpAny_bind (wpAny_of_eq o1 (wpAny_bind (wpAny_of_eq o2 (wpAny_pure ?_)))))
    first | exact wpAny_pure q | exact q
  · cases c
theorem first_ok (c : firstB K C = true) : ∃ cd rest, PySem.W.clsIn K C = some cd ∧ cd.mro = .ref C :: rest := by
  unfold firstB at c
  split at c
  · rename_i cd hcd
    have e := of_decide_eq_true c
    cases q : cd.mro with
    | nil => rw [q] at e; cases e
    | cons a r =>
      rw [q] at e
      cases (show some a = some (Value.ref C) from e)
      exact ⟨cd, r, hcd, q⟩
  · cases c
end
section
variable {prog : Program} {w : World} {A : Around} {E : Value → Shared → Prop} {s : Shared} {K : Frg} {x C D L f : Addr} {h₀ : Heap} {m : Str → Option Value} {ox : Obj} {od : Option Obj}
theorem binop_own {op : Operator} {b : Value} {Q : Value → Shared → Prop} (X : K.In s.heap) (I : PySem.W.InstAt s.heap x ox C od) (hb : PySem.W.Looks (model prog w) s.heap (typeOf b) (.ref D)) (ne : C ≠ D) (c : firstB K C = true)
    (hD : PySem.W.Looks (model prog w) s.heap (fillsNumberSlot (.ref D) op.info.2) false) (hs : PySem.W.findIn K (.ref C) (PySem.dunder op.info.2) = some (some (.ref f))) (hf : PySem.W.isFn K (.ref f) = true)
    (h : wpAny (model prog w) A (call (.ref f) [.ref x, b]) (PySem.W.CmpBack Q) E s) : wpAny (model prog w) A (binaryOp op (.ref x) b) Q E s := by
  obtain ⟨cd, rest, hcd, hm⟩ := first_ok c
  have nd : (Value.ref C == Value.ref D) = false := by simp [ne]
  unfold binaryOp binaryOp1
  refine wpAny_holding (wpAny_bind (wpAny_bind (I.type.here (wpAny_bind (hb.here (wpAny_bind ((PySem.W.fills_K X hcd hm hs).here ?_)))))))
  rw [nd]
  simp only [Bool.false_eq_true, if_false]
  refine wpAny_bind (hD.here ?_)
  simp only [Bool.and_false, Bool.false_eq_true, if_false, Bool.false_and]
  refine wpAny_bind (wpAny_pure ?_)
  simp only [Bool.false_eq_true, if_false, if_true]
  refine wpAny_bind (m := tryMethod (.ref x) _ b) ?_
  unfold tryMethod
  refine wpAny_bind (PySem.W.special_fn X I hs (beq_iff_eq.mp hf) (wpAny_mono h (fun v s' hv => ?_) fun _ _ z => z))
  cases v <;> first | exact hv.elim | exact wpAny_pure (wpAny_pure (wpAny_pure hv))
end
end Gd
namespace Gd
open PySem PySem.Spec PySem.Calls PyProof.Rows L2
/-- the def at f, called with as many values as it has parameters; it may raise -/
def OkX (P : Program) (w : World) (K : Frg) (mg : Str → Option Value) (base : Heap) (k : Nat) (f : Addr) (ps : List Str) (sp : Sp) : Prop :=
  ∃ fd, FnOk P w K mg base (L2.CX P w) k f fd ps sp ∧ Binds K fd ps [] ∧ PySem.W.keepIn K (.ref f) = true ∧ PySem.W.fnIn K f = true
theorem okX_of {P : Program} {w : World} {K : Frg} {mg : Str → Option Value} {base : Heap} {x qual : Str} {params : Arguments} {body : List Stmt} {scope : Scope} {dvs : List V} {kws : List (Str × V)} {f : Addr} {fd : FuncData} {N ps : List Str} {k : Nat} {sp : Sp}
    (F : FunD K x qual params body scope dvs kws f fd) (b : Binds K fd ps []) (S : FnScope N ps scope) (many : ∀ vs H Q E, sp vs H Q E → vs.length = ps.length)
    (hbody : ∀ (cdv : Value) (A : Around) (outer : List Env) (s : Shared) (H : Hp) (vs : List V) (Q : VK) (E : XK), Room k (A.deeper (envOfC qual scope s.heap.objs.size f cdv)) → sp vs H Q E →
      ∃ t, PSs (cxOf (L2.CX P w) P w K mg base N qual scope f cdv A outer s H E) body t ∧ t { nx := fun _ H' => Q .non H', rt := Q } (start N vs) H) :
    OkX P w K mg base (k + 1) f ps sp := by
  refine ⟨fd, F.ok S many fun cdv A outer s H vs Q E hr h => hbody cdv A outer s H vs Q E hr h, b, F.kp, ?_⟩
  obtain ⟨oc, od, dV, kV, doc, pm, an, cdv, ct, osl, rfl, lk, _⟩ := F.ex
  unfold PySem.W.fnIn
  rw [lk]
section
variable {X : Cx} {k n : Nat} {f C D : Addr} {ps : List Str} {sp : Sp} {E : L2.St → XK} {a b : Expr} {ta tb : TE} {pos : Pos}
/-- o[y] by an own __getitem__ -/
def tIxO (C : Addr) (sp : Sp) (E : L2.St → XK) (ta tb : TE) : TE := fun σ H Q => ta σ H fun x H1 => tb σ H1 fun y H2 => ∃ (c dx : Addr) (fs : List (Str × V)), x = .ref c ∧ H2 c = some (.ins C dx fs) ∧ sp [.ref c, y] H2 Q (E σ)
theorem pe_ixO (F : OkX X.prog X.w X.K X.mg X.base k f ps sp) (hr : Room n X.A) (hm : Meth X.K C "__getitem__" f) (hx : ∀ σ, PassesAt (L2.CX X.prog X.w) X σ (E σ)) (ha : PE X a ta) (hb : PE X b tb) (hk : k + 1 ≤ n := by decide)
    (hsl : ∀ v u, subscripted b true v u = runValue (.builtin "lifetime.subscript" ⟨[v, u], []⟩) := by intro _ _; with_unfolding_all rfl) : PE X (.Subscript a b pos) (tIxO C sp E ta tb) := by
  obtain ⟨fd, F, bd, kp, fi⟩ := F
  constructor
  intro pins s σ H Q I h
  refine Subscript_ (thn (ha.run pins s σ H _ I h) fun v s1 ⟨x, H1, I1, rx, q1⟩ => ?_)
  refine thn (hb.run pins s1 σ H1 _ I1 q1) fun u s2 ⟨y, H2, I2, ry, c, dx, fs, ex, hc, q⟩ => ?_
  subst ex
  cases (show v = Value.ref c from rx)
  obtain ⟨ox, od, J⟩ := inst_of I2 hc
  obtain ⟨m0, hF⟩ := I2.fr
  exact PySem.W.sub_K hF I2.ok.mod.kin J hm.at_ fi hm.fn (run_own (vs := [.ref c, y]) (us := [.ref c, u]) (.inr rfl) F (hr.mono hk) bd (hx σ) I2 (.cons rfl (.cons ry .nil)) q) (hsl _ _)
/-- o + y by an own __add__, y of another class -/
def tAddO (C D : Addr) (sp : Sp) (E : L2.St → XK) (ta tb : TE) : TE := fun σ H Q => ta σ H fun x H1 => tb σ H1 fun y H2 => ∃ (c dx e dy : Addr) (fs gs : List (Str × V)), x = .ref c ∧ y = .ref e ∧ H2 c = some (.ins C dx fs) ∧ H2 e = some (.ins D dy gs) ∧
  sp [.ref c, y] H2 Q (E σ)
theorem obj_none_add : typeLookup (.type "object") (dunder "add") = pure none := by rw [typeLookup_type, builtinLookup_eq_fast]; kernel_rfl
theorem obj_none_radd : typeLookup (.type "object") (dunderR "add") = pure none := by rw [typeLookup_type, builtinLookup_eq_fast]; kernel_rfl
theorem pe_addO (F : OkX X.prog X.w X.K X.mg X.base k f ps sp) (hr : Room n X.A) (hm : Meth X.K C "__add__" f) (c1 : firstB X.K C = true) (c2 : noOpB X.K "add" D = true) (ne : C ≠ D) (hx : ∀ σ, PassesAt (L2.CX X.prog X.w) X σ (E σ)) (ha : PE X a ta) (hb : PE X b tb) (hk : k + 1 ≤ n := by decide) : PE X (.BinOp a .Add b pos) (tAddO C D sp E ta tb) := by
  obtain ⟨fd, F, bd, kp, fi⟩ := F
  constructor
  intro pins s σ H Q I h
  refine wpAny_BinOp (thn (ha.run pins s σ H _ I h) fun v s1 ⟨x, H1, I1, rx, q1⟩ => ?_)
  refine thn (hb.run pins s1 σ H1 _ I1 q1) fun u s2 ⟨y, H2, I2, ry, c, dx, e, dy, fs, gs, ex, ey, hc, he, q⟩ => ?_
  subst ex ey
  cases (show v = Value.ref c from rx)
  cases (show u = Value.ref e from ry)
  obtain ⟨ox, od, J⟩ := inst_of I2 hc
  obtain ⟨oy, od2, J2⟩ := inst_of I2 he
  refine binop_own (op := .Add) I2.kIn J J2.type ne c1 (fills_no I2.kIn c2 obj_none_add obj_none_radd) hm.at_ hm.fn ?_
  refine wpAny_mono (run_own (vs := [.ref c, .ref e]) (us := [.ref c, .ref e]) (.inl rfl) F (hr.mono hk) bd (hx σ) I2 (.cons rfl (.cons rfl .nil)) q) (fun r s' z => ?_) fun _ _ z => z
  obtain ⟨z, H', I', rz, qz⟩ := z
  cases r <;> first | exact ⟨z, H', I', rz, qz⟩ | skip
  cases z <;> first | (obtain ⟨_, z⟩ := rz; cases z) | cases rz
end
end Gd

/-! ## EqD -/
set_option maxHeartbeats 4000000
/-! == that decides, over own objects and tuples of them. -/
namespace Gd
open PySem PySem.Spec PySem.Calls PyProof.Rows L2
open AutoSeq1 (wpAny_loadPart')
open MeetsSeq MeetsSeq2 MeetsSeq3 SeqRoads2
section
variable {prog : Program} {w : World} {A : Around} {R : Result → Shared → Prop}
/-- two tuples that differ: j items are equal, then two that are not, or one tuple ends -/
theorem tuple_differ (l b : Addr) (xs ys : Array Value) (n1 n2 : Nat) (d1 d2 : Option Addr) (sl1 sl2 : Array (Option Value)) (J : Nat) (I : Nat → Shared → Prop) (I' : Shared → Prop) (hJ : J ≤ (xs.toList.zip ys.toList).length)
    (turn : ∀ i (h1 : i < xs.size) (h2 : i < ys.size) s, i < J → I i s → wpAny (model prog w) A.in1 (eqBool xs[i] ys[i]) (fun r s' => r = true ∧ I (i + 1) s') (fun e s' => R (.error e) s') s)
    (stop : (∀ (h1 : J < xs.size) (h2 : J < ys.size) s, I J s → wpAny (model prog w) A.in1 (eqBool xs[J] ys[J]) (fun r s' => r = false ∧ I' s') (fun e s' => R (.error e) s') s))
    (over : J = (xs.toList.zip ys.toList).length → xs.size ≠ ys.size ∧ ∀ s, I J s → I' s)
    (fin : ∀ s, I' s → R (.ok (.ret (.bool false))) s) {s : Shared} (g1 : s.heap.get? l = some { cls := .type "tuple", dict := d1, data := .seq xs n1, slots := sl1 }) (g2 : s.heap.get? b = some { cls := .type "tuple", dict := d2, data := .seq ys n2, slots := sl2 }) (h : I 0 s) :
    wpAny (model prog w) A.in1 (Builtin.«tuple.__eq__» ⟨[.ref l, .ref b], []⟩) (GQ.FinOf prog w A R) (fun e s' => R (.error e) s') s := by
  have f2 := AutoSeq1.sub_tuple_tuple
  have zl : (xs.toList.zip ys.toList).length = min xs.size ys.size := by simp
  have h0 := h
  obtain ⟨hp, g, d, tk, os⟩ := s
  wp_walk using wpAny_loadPart' g1, wpAny_loadPart' g2, wpAny_forIn_list _ (fun rest st s' => st.1 = none ∧ ∃ i, rest = (xs.toList.zip ys.toList).drop i ∧ i ≤ J ∧ I i s') _
  case turn =>
    rintro ⟨y, x⟩ rest st s' ⟨hst, i, hz, hi, hI⟩
    have lt : i < (xs.toList.zip ys.toList).length := by
      rcases Nat.lt_or_ge i (xs.toList.zip ys.toList).length with q | q
      · exact q
      · rw [List.drop_of_length_le q] at hz; cases hz
    have h1 : i < xs.size := by omega
    have h2 : i < ys.size := by omega
    rw [List.drop_eq_getElem_cons lt] at hz
    injection hz with eyx erest
    have ey : y = xs[i] := by have := congrArg Prod.fst eyx; simpa using this
    have ex : x = ys[i] := by have := congrArg Prod.snd eyx; simpa using this
    subst ey ex
    rcases Nat.lt_or_ge i J with c | c
    · refine wpAny_bind (wpAny_mono (turn i h1 h2 s' c hI) (fun r s2 q2 => ?_) fun _ _ z => z)
      obtain ⟨hr, q2⟩ := q2
      subst hr
      wp_walk
      exact ⟨rfl, i + 1, erest, c, q2⟩
    · obtain rfl : i = J := by omega
      refine wpAny_bind (wpAny_mono (stop h1 h2 s' hI) (fun r s2 q2 => ?_) fun _ _ z => z)
      obtain ⟨hr, q2⟩ := q2
      subst hr
      have hR := fin s2 q2
      wp_walk
      first | exact hR | skip
  case fin =>
    rintro ⟨b1, b2⟩ s' ⟨hst, i, hz, hi, hI⟩
    simp only at hst
    subst hst
    have ge : (xs.toList.zip ys.toList).length ≤ i := by
      rcases Nat.lt_or_ge i (xs.toList.zip ys.toList).length with q | q
      · rw [List.drop_eq_getElem_cons q] at hz; cases hz
      · exact q
    obtain rfl : i = J := by omega
    obtain ⟨ne, q⟩ := over (by omega)
    have hR := fin s' (q s' hI)
    wp_walk
    have nb : (xs.size == ys.size) = false := by simpa using ne
    simpa [Builtin.Tuple.tupleCompareSizes, nb] using hR
  case h =>
    exact ⟨rfl, 0, rfl, Nat.zero_le _, h0⟩
end
end Gd
namespace Gd
open PySem PySem.Spec PySem.Calls PyProof.Rows L2
/-- == gives False for what N says, and only makes objects -/
def EqN (X : Cx) (n : Nat) (N : Eqv) : Prop :=
  ∀ (A : Around) (pins : List (Addr × Obj)) (s : Shared) (σ : L2.St) (H : Hp) (x y : V) (u v : Value), Sub X n A → L2.Inv X pins σ H s → RelV x u → RelV y v → N x y H →
    wpAny (model X.prog X.w) A (eqBool u v) (fun r s' => r = false ∧ ∃ H', L2.Inv X pins σ H' s' ∧ Ext H H') X.xe s
def RcN (X : Cx) (n : Nat) (N : Eqv) : Prop :=
  ∀ (A : Around) (pins : List (Addr × Obj)) (s : Shared) (σ : L2.St) (H : Hp) (x y : V) (u v : Value), Sub X n A → L2.Inv X pins σ H s → RelV x u → RelV y v → N x y H →
    wpAny (model X.prog X.w) A (richCompare .Eq u v) (fun r s' => r = .bool false ∧ ∃ H', L2.Inv X pins σ H' s' ∧ Ext H H') X.xe s
section
variable {X : Cx} {n : Nat} {D N : Eqv}
theorem RcN.eqN (h : RcN X n N) (hr : ∀ x y H, N x y H → ∃ a b, x = .ref a ∧ y = .ref b ∧ a ≠ b) : EqN X n N := by
  intro A pins s σ H x y u v sb I rx ry d
  obtain ⟨a, b, rfl, rfl, ne⟩ := hr _ _ _ d
  cases rx
  cases ry
  refine GQ.eqBool_refG ne (wpAny_mono (h A pins s σ H (.ref a) (.ref b) _ _ sb I rfl rfl d) (fun r s' q => ?_) fun _ _ z => z)
  exact ⟨false, q.1, rfl, q.2⟩
/-- two tuples that are not equal -/
def DTupN (K : Frg) (D N : Eqv) : Eqv := fun x y H => ∃ (a b : Addr) (xs ys : List V) (J : Nat), x = .ref a ∧ y = .ref b ∧ SqT K H a xs ∧ SqT K H b ys ∧ J ≤ min xs.length ys.length ∧
  (∀ (i : Nat) p q, i < J → xs[i]? = some p → ys[i]? = some q → D p q H) ∧ ((∃ p q, xs[J]? = some p ∧ ys[J]? = some q ∧ N p q H) ∨ (J = min xs.length ys.length ∧ xs.length ≠ ys.length))
theorem at_pair {xs : List V} {its : List Value} (r : Vals xs its) {i : Nat} (h : i < its.toArray.size) : ∃ x, xs[i]? = some x ∧ RelV x its.toArray[i] := by
  have h' : i < its.length := by simpa using h
  have k : i < xs.length := by rw [r.length]; exact h'
  obtain ⟨u, hu, ru⟩ := r.get (List.getElem?_eq_getElem k)
  refine ⟨_, List.getElem?_eq_getElem k, ?_⟩
  have e : its[i]? = some its.toArray[i] := by rw [List.getElem?_eq_getElem h'] <;> simp
  rw [e] at hu
  rw [Option.some.inj hu]
  exact ru
theorem rcN_tup (mD : Mon D) (mN : Mon N) (hD : EqG X n D) (hN : EqN X n N) : RcN X (n + 1) (DTupN X.K D N) := by
  intro A pins s σ H x y u v sb I rx ry d
  obtain ⟨a, b, xs, ys, J, rfl, rfl, ha, hb, hJ, pre, dif⟩ := d
  cases rx
  cases ry
  obtain ⟨its, r, ⟨⟨c1, dd1, da1, sl1⟩, g1, e1, m1, f1⟩, z⟩ := I.tuple ha
  obtain ⟨its2, r2, ⟨⟨c2, dd2, da2, sl2⟩, g2, e2, m2, f2⟩, z2⟩ := I.tuple hb
  simp only at e1 f1 e2 f2
  subst e1 f1 e2 f2
  have l1 : its.length = xs.length := (r.length).symm
  have l2 : its2.length = ys.length := (r2.length).symm
  have zl : (its.toArray.toList.zip its2.toArray.toList).length = min xs.length ys.length := by simp [l1, l2]
  refine wpAny_richCompare_same_room (op := .Eq) ⟨_, g1, rfl⟩ ⟨_, g2, rfl⟩ F.slot_tuple_eq (GQ.call_here F.slot_tuple_eq ⟨_, g1, rfl⟩ F.entry_tuple_eq (F.args_tuple_eq_2 _ _) ?_) sb.room.units0
  have goes : ∀ {D' : Eqv} {bb : Bool}, Mon D' → (∀ (A : Around) (pins : List (Addr × Obj)) (s : Shared) (σ : L2.St) (H : Hp) (x y : V) (u v : Value), Sub X n A → L2.Inv X pins σ H s → RelV x u → RelV y v → D' x y H →
      wpAny (model X.prog X.w) A (eqBool u v) (fun r s' => r = bb ∧ ∃ H', L2.Inv X pins σ H' s' ∧ Ext H H') X.xe s) → ∀ i (h1 : i < its.toArray.size) (h2 : i < its2.toArray.size) s', (∀ p q, xs[i]? = some p → ys[i]? = some q → D' p q H) → LoopI X pins σ H s' →
      wpAny (model X.prog X.w) A.in1 (eqBool its.toArray[i] its2.toArray[i]) (fun r s2 => r = bb ∧ LoopI X pins σ H s2) X.xe s' := by
    intro D' bb mD' hD' i h1 h2 s' hd lp
    obtain ⟨H1, I1, e1⟩ := lp
    obtain ⟨p, hp, rp⟩ := at_pair r h1
    obtain ⟨q, hq, rq⟩ := at_pair r2 h2
    refine wpAny_mono (hD' A.in1 pins s' σ H1 p q _ _ sb.in1 I1 rp rq (mD' _ _ _ _ e1 (hd p q hp hq))) (fun rr s2 z => ?_) fun _ _ z => z
    obtain ⟨hr, H2, I2, e2⟩ := z
    exact ⟨hr, H2, I2, e1.trans e2⟩
  refine tuple_differ (R := wants (fun v s' => v ≠ .notImplemented ∧ (v = .bool false ∧ ∃ H', L2.Inv X pins σ H' s' ∧ Ext H H')) X.xe) a b its.toArray its2.toArray m1 m2 _ _ _ _ J (fun _ s' => LoopI X pins σ H s') (fun s' => LoopI X pins σ H s') (by rw [zl]; exact hJ)
    (fun i h1 h2 s' hi lp => goes mD hD i h1 h2 s' (fun p q hp hq => pre i p q hi hp hq) lp) (fun h1 h2 s' lp => ?_) (fun e => ?_) (fun s' q => ⟨(fun z => nomatch z), rfl, q⟩) g1 g2 ⟨H, I, Ext.rfl'⟩
  · rcases dif with ⟨p, q, hp, hq, hn⟩ | ⟨ej, _⟩
    · refine goes mN hN J h1 h2 s' (fun p' q' hp' hq' => ?_) lp
      rw [hp] at hp'
      rw [hq] at hq'
      cases hp'
      cases hq'
      exact hn
    · have k1 : J < its.length := by simpa using h1
      have k2 : J < its2.length := by simpa using h2
      omega
  · rcases dif with ⟨p, q, hp, hq, hn⟩ | ⟨ej, ne⟩
    · have k1 := (List.getElem?_eq_some_iff.mp hp).1
      have k2 := (List.getElem?_eq_some_iff.mp hq).1
      omega
    · exact ⟨by simpa [l1, l2] using ne, fun _ q => q⟩
/-- own ==, as the program's text promises it, both ways -/
def spEq2 (RT RF : Addr → Addr → Hp → Prop) : Sp := fun vs H Q _ => ∃ a b, vs = [.ref a, .ref b] ∧ ((RT a b H ∧ ∀ H', Ext H H' → Q (.bl true) H') ∨ (RF a b H ∧ ∀ H', Ext H H' → Q (.bl false) H'))
theorem rcN_ins {k : Nat} {C f : Addr} {fd : FuncData} {ps : List Str} {RT RF : Addr → Addr → Hp → Prop} (Fn : FnOk X.prog X.w X.K X.mg X.base CX0 n f fd ps (spEq2 RT RF)) (hm : Meth X.K C "__eq__" f) (hb : Binds X.K fd ps []) : RcN X n (DIns C RF) := by
  intro A pins s σ H x y u v sb I rx ry d
  obtain ⟨a, b, dx, dy, fs, gs, rfl, rfl, ha, hb', hr⟩ := d
  cases rx
  cases ry
  obtain ⟨ox, od, J⟩ := inst_of I ha
  obtain ⟨ox', od', J'⟩ := inst_of I hb'
  obtain ⟨m, hF⟩ := I.fr
  refine PySem.W.cmp_K (op := .Eq) (tb := .ref C) sb.room.units0 hF I.ok.mod.kin J J'.type (by simp [PySem.W.notFirst]) hm.at_ hm.fn ?_
  have hsp : spEq2 RT RF [.ref a, .ref b] H (fun v H' => v = .bl false ∧ Ext H H') E0 := ⟨a, b, rfl, .inr ⟨hr, fun H' e => ⟨rfl, e⟩⟩⟩
  have e0 : Env0 X.prog X.w X.K X.mg X.base A X.stack s H := by
    have e := I.env0
    exact ⟨by rw [sb.fr]; exact e.frames, e.mod, e.bs, e.bsz, e.funs, e.frf, e.hok, e.bare⟩
  have hl := Fn.len _ _ _ _ hsp
  refine wpAny_call (codeAny_mono (Fn.run A X.stack s H ⟨[.ref a, .ref b], []⟩ [.ref a, .ref b] [.ref a, .ref b] _ E0 sb.room e0 (by
    have q := hb s [.ref a, .ref b] I.kIn (by simpa using hl)
    simpa using q) (.cons rfl (.cons rfl .nil)) hsp) fun r s' hq => ?_)
  match r, hq with
  | .error e, hq => exact hq.elim
  | .ok (.ret w), hq =>
    obtain ⟨z, H', I', rz, ez, ex⟩ := I.after hq
    subst ez
    cases rz
    exact ⟨rfl, H', I', ex⟩
theorem rcT_ins {C f : Addr} {fd : FuncData} {ps : List Str} {RT RF : Addr → Addr → Hp → Prop} (Fn : FnOk X.prog X.w X.K X.mg X.base CX0 n f fd ps (spEq2 RT RF)) (hm : Meth X.K C "__eq__" f) (hb : Binds X.K fd ps []) : RcG X n (DIns C RT) :=
  rcG_ins (Fn.imp fun vs H Q E h => by
    obtain ⟨a, b, e, r, q⟩ := h
    exact ⟨a, b, e, .inl ⟨r, q⟩⟩) hm.at_ hm.fn hb pass0
/-- tuples compared, both ways -/
def rEqT (K : Frg) (D N : Eqv) : R2 := fun x y H Q => (DTup K D x y H ∧ ∀ H', Ext H H' → Q (.bl true) H') ∨ (DTupN K D N x y H ∧ ∀ H', Ext H H' → Q (.bl false) H')
theorem op_eqT {m : Nat} (mD : Mon D) (mN : Mon N) (hD : EqG X n D) (hN : EqN X n N) (hr : Room m X.A) (hk : n + 1 ≤ m := by decide) : OpR X (compareOp .Eq) (rEqT X.K D N) := by
  intro pins s σ H x y v u Q I rx ry hq
  show wpAny (model X.prog X.w) X.A (richCompare .Eq v u) (EP X pins σ Q) X.xe s
  rcases hq with ⟨d, q⟩ | ⟨d, q⟩
  · refine wpAny_mono (rcG_tup mD hD X.A pins s σ H x y v u ⟨hr.mono hk, rfl⟩ I rx ry d) (fun r s' z => ?_) fun _ _ z => z
    obtain ⟨rfl, H', I', e⟩ := z
    exact ⟨.bl true, H', I', rfl, q H' e⟩
  · refine wpAny_mono (rcN_tup mD mN hD hN X.A pins s σ H x y v u ⟨hr.mono hk, rfl⟩ I rx ry d) (fun r s' z => ?_) fun _ _ z => z
    obtain ⟨rfl, H', I', e⟩ := z
    exact ⟨.bl false, H', I', rfl, q H' e⟩
/-- an own object compared by its own == with one of its class, or with a text -/
def rEqO (C : Addr) (sp : Sp) : R2 := fun x y H Q => ∃ (c dx : Addr) (fs : List (Str × V)), x = .ref c ∧ H c = some (.ins C dx fs) ∧ ((∃ (e dy : Addr) (gs : List (Str × V)), y = .ref e ∧ H e = some (.ins C dy gs)) ∨ ∃ t : Str, y = .str t) ∧
  sp [x, y] H (fun v H1 => ∃ b, v = .bl b ∧ Q (.bl b) H1) E0
theorem op_eqO {k : Nat} {C f : Addr} {fd : FuncData} {ps : List Str} {sp : Sp} (Fn : FnOk X.prog X.w X.K X.mg X.base CX0 k f fd ps sp) (hr : Room (k + 1) X.A) (hb : Binds X.K fd ps []) (hm : Meth X.K C "__eq__" f)
    (hs : PySem.W.subIn X.K (.type "str") (.ref C) = some false) : OpR X (compareOp .Eq) (rEqO C sp) := by
  intro pins s σ H x y v u Q I rx ry hq
  obtain ⟨c, dx, fs, rfl, hc, hy, q⟩ := hq
  cases (show v = Value.ref c from rx)
  obtain ⟨ox, od, J⟩ := inst_of I hc
  obtain ⟨m, hF⟩ := I.fr
  have fin : wpAny (model X.prog X.w) X.A (call (.ref f) [.ref c, u]) (PySem.W.CmpBack (EP X pins σ Q)) X.xe s := by
    refine wpAny_mono (run_own (vs := [.ref c, y]) (us := [.ref c, u]) (.inl rfl) Fn hr hb (E := fun _ => E0) (passes_at pass0) I (.cons rfl (.cons ry .nil)) q) (fun w s' z => ?_) fun _ _ z => z
    obtain ⟨z, H', I', rz, b, rfl, q'⟩ := z
    cases (show w = Value.bool b from rz)
    exact ⟨.bl b, H', I', rfl, q'⟩
  show wpAny (model X.prog X.w) X.A (richCompare .Eq (.ref c) u) (EP X pins σ Q) X.xe s
  rcases hy with ⟨e, dy, gs, rfl, he⟩ | ⟨t, rfl⟩
  · cases (show u = Value.ref e from ry)
    obtain ⟨ox', od', J'⟩ := inst_of I he
    exact PySem.W.cmp_K (op := .Eq) (tb := .ref C) (hr.mono (Nat.le_succ k)).units0 hF I.ok.mod.kin J J'.type (by simp [PySem.W.notFirst]) hm.at_ hm.fn fin
  · obtain ⟨tk, rfl⟩ := ry
    exact PySem.W.cmp_K (op := .Eq) (tb := .type "str") (hr.mono (Nat.le_succ k)).units0 hF I.ok.mod.kin J (PySem.W.Looks.of_pure (by first | rfl | kernel_rfl)) (by simp [PySem.W.notFirst, hs]) hm.at_ hm.fn fin
end
end Gd

/-! ## Err3 -/
set_option maxHeartbeats 4000000
/-! Errors made and raised; defs called where they may raise; reading lemmas. -/
namespace Gd
open PySem PySem.Spec PySem.Calls PyProof.Rows L2
/-- what the making of an error does, the text of it aside -/
def spM (C : Addr) (f : Str) (msg : V → Prop) : Sp := fun vs H Q _ => ∃ a v, vs = [.ref a, v] ∧ msg v ∧ H a = some (exo a C none) ∧ ∀ dx, H dx = none → dx ≠ a → Q .non (upd (upd H dx (exd dx [(f, v)])) a (exo a C (some dx)))
def OkE (P : Program) (w : World) (K : Frg) (mg : Str → Option Value) (base : Heap) (k : Nat) (d : DefE) (msg : V → Prop) : Prop :=
  ErrC P K d ∧ ∃ (x : Str) (fd : FuncData), FnOk P w K mg base CX0 k (d.I K) fd ["self", x] (spM (d.C K) d.fld msg) ∧ Binds K fd ["self", x] []
theorem okE_of {P : Program} {w : World} {K : Frg} {mg : Str → Option Value} {base : Heap} {k : Nat} {d : DefE} {msg : V → Prop} {x : Str} {te : TE} (T : ErrC P K d) (h : ∃ fd, FnOk P w K mg base CX0 k (d.I K) fd ["self", x] (spE (d.C K) d.fld te) ∧ Binds K fd ["self", x] [])
    (hm : ∀ v a H (Qm : VK), msg v → (∀ m, Qm m H) → te [some (.ref a), some v, none] H Qm) : OkE P w K mg base k d msg := by
  obtain ⟨fd, F, b⟩ := h
  refine ⟨T, x, fd, F.imp fun vs H Q E hs => ?_, b⟩
  obtain ⟨a, v, rfl, m, ea, q⟩ := hs
  exact ⟨a, v, rfl, ea, hm v a H _ m fun _ => ⟨ea, q⟩⟩
/-- an error of the class at C is being made of vs -/
def atErr (C : Addr) (f : Str) (msg : V → Prop) (vs : List V) (H1 : Hp) (Q : XK) : Prop := vs.length ≤ 1000 ∧ ∀ a, H1 a = none → spM C f msg (.ref a :: (vs ++ [])) (upd H1 a (exo a C none))
  (fun v H2 => v = .non ∧ ∃ (d : Addr) (fs : List (Str × V)), H2 a = some (exo a C (some d)) ∧ H2 d = some (exd d fs) ∧ H1 d = none ∧ Q (.ref C) (some d) (upd (del H2 a) d (.xd fs))) (fun _ _ _ => False)
def tErr (C : Addr) (f : Str) (msg : V → Prop) (ta : TA) : L2.St → Hp → XK → Prop := fun σ H Q => ta σ H fun vs H1 => atErr C f msg vs H1 Q
theorem r_err {C : Addr} {f : Str} {msg : V → Prop} {v : V} {H : Hp} {Q : XK} (m : msg v) (h : ∀ d, H d = none → Q (.ref C) (some d) (upd H d (.xd [(f, v)]))) : atErr C f msg [v] H Q := by
  refine ⟨(by decide : 1 ≤ 1000), fun a ha => ⟨a, v, rfl, m, upd_same, fun dx h1 ne => ⟨rfl, dx, [(f, v)], upd_same, by rw [upd_ne ne, upd_same], ?_, ?_⟩⟩⟩
  · rw [upd_ne ne] at h1
    exact h1
  · rw [upd_ne ne] at h1
    have e : upd (del (upd (upd (upd H a (exo a C none)) dx (exd dx [(f, v)])) a (exo a C (some dx))) a) dx (.xd [(f, v)]) = upd H dx (.xd [(f, v)]) := by
      funext b
      by_cases hb : b = dx
      · rw [hb, upd_same, upd_same]
      · rw [upd_ne hb, upd_ne hb]
        by_cases hba : b = a
        · rw [hba, del_same, ha]
        · rw [del_ne hba, upd_ne hba, upd_ne hb, upd_ne hba]
    rw [e]
    exact h dx h1
/-- raise C(..) -/
def sErr (C : Addr) (f : Str) (msg : V → Prop) (W : WX) (ta : TA) : TS := fun _ σ H => tErr C f msg ta σ H fun cls d H' => W cls d σ H'
section
variable {X : Cx} {k m : Nat} {d : DefE} {msg : V → Prop} {x : Str} {e : Expr} {ta : TA} {p pos pos2 : Pos} {W : WX}
theorem pmk_err (T : OkE X.prog X.w X.K X.mg X.base k d msg) (hr : Room m X.A) (hg : Gl X x) (hm : X.mg x = some (.ref (d.C X.K))) (ha : PA X [e] ta) (hk : k + 1 ≤ m := by decide)
    (hdb : (x == ("__debug__" : Str)) = false := by decide) (he : starEach [e] X.env = (false, eval e X.env) :: starEach [] X.env := by rfl) (hpl : (backTo pos (starEach [] X.env)).any (·.1) = false := by rfl) :
    PMk X (.Call (.Name x p) [e] [] pos) (tErr (d.C X.K) d.fld msg ta) := by
  obtain ⟨T, y, fd, F, b⟩ := T
  exact pmk_oex T.oex T.iC T.tI F (hr.mono hk) b .nil (fun _ _ _ _ _ _ _ z => z.elim) hg hm ha hdb he hpl
theorem ps_err (hc : X.calm = true) (tk : Takes X W) (T : OkE X.prog X.w X.K X.mg X.base k d msg) (hr : Room m X.A) (hg : Gl X x) (hm : X.mg x = some (.ref (d.C X.K))) (ha : PA X [e] ta) (hk : k + 1 ≤ m := by decide)
    (hdb : (x == ("__debug__" : Str)) = false := by decide) (he : starEach [e] X.env = (false, eval e X.env) :: starEach [] X.env := by rfl) (hpl : (backTo pos (starEach [] X.env)).any (·.1) = false := by rfl) :
    PS X (.Raise (some (.Call (.Name x p) [e] [] pos)) none pos2) (sErr (d.C X.K) d.fld msg W ta) := ps_raise hc tk (pmk_err T hr hg hm ha hk hdb he hpl)
end
section
variable {X : Cx} {n k : Nat} {f C : Addr} {ps : List Str} {sp : Sp} {x m : Str} {p pos apos : Pos} {e o : Expr} {es : List Expr} {t : TA} {ta : TE} {E : L2.St → XK}
/-- a def that may raise, called -/
theorem pkX (F : OkX X.prog X.w X.K X.mg X.base k f ps sp) (hr : Room n X.A) (hg : Gl X x) (hm : X.mg x = some (.ref f)) (hx : ∀ σ, PassesAt (L2.CX X.prog X.w) X σ (E σ)) (ha : PA X (e :: es) t) (hk : k ≤ n := by decide)
    (hdb : (x == ("__debug__" : Str)) = false := by decide)
    (he : starEach (e :: es) X.env = (false, eval e X.env) :: starEach es X.env := by rfl) (hpl : (backTo pos (starEach es X.env)).any (·.1) = false := by rfl) :
    PE X (.Call (.Name x p) (e :: es) [] pos) (tCallS sp E t) := by
  obtain ⟨fd, F, b, kp, _⟩ := F
  exact pe_callS F (hr.mono hk) hg hm kp b hx ha hdb he hpl
/-- an object made where its __init__ may raise -/
def tMakeX (C : Addr) (sp : Sp) (E : L2.St → XK) (t : TA) : TE := fun σ H Q => tMake C sp [] (E σ) t σ H Q
theorem pmkX (M : Mk X.K C f) (F : OkX X.prog X.w X.K X.mg X.base k f ps sp) (hr : Room n X.A) (hg : Gl X x) (hm : X.mg x = some (.ref C)) (hx : ∀ σ, PassesAt (L2.CX X.prog X.w) X σ (E σ)) (ha : PA X (e :: es) t) (hk : k + 1 ≤ n := by decide)
    (hdb : (x == ("__debug__" : Str)) = false := by decide)
    (he : starEach (e :: es) X.env = (false, eval e X.env) :: starEach es X.env := by rfl) (hpl : (backTo pos (starEach es X.env)).any (·.1) = false := by rfl) :
    PE X (.Call (.Name x p) (e :: es) [] pos) (tMakeX C sp E t) := by
  obtain ⟨fd, F, b, _⟩ := F
  constructor
  intro pins s σ H Q I h
  refine wpAny_Call_Name_kw (ld_glob I hg hm ?_ hdb)
  refine PySem.W.callWith_K (h₀ := X.base) I.ok.mod.kin M.kp (thn (ha.run pos pins s σ H _ I h) fun us s1 ⟨vs, H1, I1, r, q⟩ => ⟨I1.kIn, ?_⟩) he hpl
  have q1 := q (s1.heap.objs.size + 1) s1.heap.objs.size (I1.hok.fresh (Nat.le_succ _)) (I1.hok.fresh (Nat.le_refl _)) (Nat.ne_of_lt (Nat.lt_succ_self _))
  rw [List.append_nil] at q1
  have I2 := L2.Inv.made (C := C) I1
  have r2 : Vals (V.ref (s1.heap.objs.size + 1) :: vs) (Value.ref (s1.heap.objs.size + 1) :: us) := .cons rfl r
  have len : (Value.ref (s1.heap.objs.size + 1) :: us).length = ps.length := (r2.length).symm.trans (F.len _ _ _ _ q1)
  have bd := b _ (Value.ref (s1.heap.objs.size + 1) :: us) I2.kIn (by rw [List.append_nil]; exact len)
  rw [List.append_nil] at bd
  refine wpAny_call (make_map (f := f) I1.kIn M.makes M.init (beq_iff_eq.mp M.fn) (codeAny_mono (F.run _ X.stack _ _ _ _ _ _ (E σ) ((hr.mono hk).make C us []) (I2.env0.make C us []) bd r2 q1) fun res s' got => ?_))
  match res, got with
  | .error er, got => exact hx σ pins _ _ er s' I2 got
  | .ok (.ret u), got =>
    obtain ⟨v, H', I3, rv, rfl, q3⟩ := I2.after got
    exact ⟨rv, ⟨V.ref (s1.heap.objs.size + 1), H', I3, rfl, q3⟩⟩
end
/-! ### the clauses of a try, one by one -/
section
variable {K : Frg} {W0 : WX} {D : Ends} {q : Clause} {r : List Clause} {cls : Value} {d : Option Addr} {σ : L2.St} {H : Hp}
theorem wN_hit (e : PySem.W.exmOne K cls q.nam = some true) (h : ∀ a, H a = none → q.goes a cls d D σ H) : wN K W0 D (q :: r) cls d σ H := ⟨true, e, ⟨fun _ => h, fun z => Bool.noConfusion z⟩⟩
theorem wN_miss (e : PySem.W.exmOne K cls q.nam = some false) (h : wN K W0 D r cls d σ H) : wN K W0 D (q :: r) cls d σ H := ⟨false, e, ⟨fun z => Bool.noConfusion z, fun _ => h⟩⟩
theorem wN_out (h : W0 cls d σ H) : wN K W0 D [] cls d σ H := h
end
/-! ### isinstance of a caught exception that has a dict -/
/-- what isinstance asks of an error class -/
structure IsE (K : Frg) (D : Addr) : Prop where
  xf : XfC K D
  cl : PySem.W.findIn K (.ref D) "__class__" = some (some (.builtin "object.__class__"))
  gt : PySem.W.specialIn K (.builtin "object.__class__") "__get__" = some (some (.builtin "getset_descriptor.__get__"))
  tk : PySem.W.takesIn K (.builtin "object.__class__") = some true
  ob : PySem.W.mroIn K D (.type "object") = some true
def tIsE (c : Str) : Frg → Bool := fun K => xfB K (He.ga K c) && (He.eqO (PySem.W.findIn K (.ref (He.ga K c)) "__class__") (some (some (.builtin "object.__class__"))) &&
  (He.eqO (PySem.W.specialIn K (.builtin "object.__class__") "__get__") (some (some (.builtin "getset_descriptor.__get__"))) && (decide (PySem.W.takesIn K (.builtin "object.__class__") = some true) && decide (PySem.W.mroIn K (He.ga K c) (.type "object") = some true))))
theorem isE_of {K : Frg} {c : Str} (h : tIsE c K = true) : IsE K (He.ga K c) := by
  obtain ⟨h1, h⟩ := both h
  obtain ⟨h2, h⟩ := both h
  obtain ⟨h3, h⟩ := both h
  obtain ⟨h4, h5⟩ := both h
  exact ⟨xfB_ok h1, He.eqO_ok h2, He.eqO_ok h3, of_decide_eq_true h4, of_decide_eq_true h5⟩
open PySem.W in
theorem class_of_exc {prog : Program} {w : World} {A : Around} {E : Value → Shared → Prop} {s : Shared} {K : Frg} {x D : Addr} {ox : Obj} {od : Option Obj} {Q : Option Value → Shared → Prop} (T : IsE K D) (X : K.In s.heap) (I : InstAt s.heap x ox D od)
    (fin : Q (some (.ref D)) { s with toks := s.toks + 1 }) : wpAny (model prog w) A (getAttr? (.ref x) "__class__") Q E s := by
  have fo : findObj K D od "__class__" = some (.bind (.builtin "getset_descriptor.__get__") (.builtin "object.__class__")) := by
    obtain ⟨cd, hc, _⟩ := any_some T.xf.hdC
    unfold findObj
    rw [hc, Option.bind_some, T.cl, Option.bind_some]
    simp [T.gt, T.tk]
  obtain ⟨hh, gg, dd, tt, oo⟩ := s
  have l0 := I.type (M := model prog w)
  have l1 := looks_findIn (M := model prog w) X T.xf.ga
  have l2 := looks_findIn (M := model prog w) X T.xf.gg
  have l3 := looks_find (M := model prog w) X I fo
  have below : Looks (model prog w) hh (isInstance (.ref x) (.type "BaseException")) true := l0.andThen (looks_subIn X T.xf.exC)
  have no : (Value.builtin "BaseException.__getattribute__" == Value.builtin "object.__getattribute__") = false := by decide +kernel
  have no1 : (onTheHeap (Value.ref D) && Value.builtin "BaseException.__getattribute__" == Value.builtin "object.__getattribute__") = false := by rw [no, Bool.and_false]
  unfold getAttr? getAttrBy? getAttrBy
  refine wpAny_bind (wpAny_mkText (wpAny_bind (wpAny_attempt (wpAny_holding (wpAny_bind (l0.at (wpAny_bind (l1.at ?_))))))))
  show wpAny _ _ (if (onTheHeap (Value.ref D) && (Value.builtin "BaseException.__getattribute__" == Value.builtin "object.__getattribute__")) = true then _ else _) _ _ _
  rw [if_neg (by rw [no1]; exact Bool.false_ne_true)]
  unfold getAttrByItsOwn hookBefore
  refine wpAny_bind ?_
  rw [if_pos (show (onTheHeap (Value.ref D)) = true from rfl)]
  refine l2.at (wpAny_bind (wpAny_attempt (wpAny_holding ?_)))
  unfold callGetattribute
  rw [if_neg (show ¬ ((false && onTheHeap (Value.builtin "BaseException.__getattribute__")) = true) from Bool.false_ne_true)]
  unfold boundAndCalled
  rw [PySem.F.excAttr_ValueError.ga.bind (.ref x)]
  refine wpAny_bind (wpAny_pure ?_)
  show wpAny _ _ (call (.builtin "BaseException.__getattribute__") [.ref x, .str "__class__" tt]) _ _ _
  refine wpAny_call (codeAny_call_builtin PySem.F.excAttr_ValueError.ga.plain PySem.F.entry_bexc_ga (@check_slot (model prog w) _ _ ⟨hh, gg, dd, tt + 1, oo⟩ "BaseException.__getattribute__" "BaseException" "__getattribute__" (.ref x) [.str "__class__" tt] [] _
    (by decide +kernel) (by decide +kernel) below (PySem.F.args_bexc_ga (.ref x) (.str "__class__" tt)) ?_))
  unfold Builtin.«object.__getattribute__»
  refine wpAny_bind (wpAny_of_eq (a := ((Value.ref x : Value), [Value.str "__class__" tt])) (by first | rfl | (simp only [slotArgs]; rfl)) (wpAny_bind (wpAny_pure (wpAny_bind (l0.at (wpAny_bind (l3.at ?_)))))))
  show wpAny _ _ (holding [Value.builtin "object.__class__"] (call (.builtin "getset_descriptor.__get__") [.builtin "object.__class__", .ref x, .ref D]) >>= ret) _ _ _
  refine wpAny_bind (wpAny_holding (wpAny_call (class_get (s := ⟨hh, gg, dd, tt + 1, oo⟩) (ox := ox) (od := od) X I T.ob (wpAny_pure ?_))))
  show wpAny _ _ (handedOut (Value.ref D)) _ _ _
  rw [handedOut_of (v := Value.ref D) rfl]
  first | exact wpAny_pure fin | exact wpAny_pure (wpAny_pure fin) | exact wpAny_pure (wpAny_bind (wpAny_pure (wpAny_pure fin)))
open PySem.W in
theorem kitx_exc {K : Frg} {x D : Addr} {ox : Obj} {od : Option Obj} (T : IsE K D) : KitX K (.ref x) (.ref D) (fun h => InstAt h x ox D od) where
  ty := fun _ _ _ I => I.type
  it := fun _ _ X _ => by
    obtain ⟨cd, hc, _⟩ := any_some T.xf.hdC
    unfold clsIn at hc
    split at hc
    · rename_i c1 d1 cd1 sl1 lk
      intro A1 Q1 E1 s1 kp q
      unfold isType loadHead
      exact wpAny_bind (wpAny_loadPart (kp _ _ (X _ _ lk)) (wpAny_pure q))
    · cases hc
  ne := fun h tp dd its n sl X g => by
    obtain ⟨cd, hc, _⟩ := any_some T.xf.hdC
    refine Bool.eq_false_iff.mpr fun q => ?_
    obtain rfl : D = tp := Value.ref.inj (beq_iff_eq.mp q)
    unfold clsIn at hc
    split at hc
    · rename_i c1 d1 cd1 sl1 lk
      have z := X _ _ lk
      rw [g] at z
      cases z
    · cases hc
  ca := fun X I fin => class_of_exc T X I fin
/-- isinstance(e, c) of the exception that the suite holds -/
def rIsX (K : Frg) (a : Addr) (cls : Value) (d : Option Addr) : List V → Hp → VK → Prop := fun xs H Q => ∃ (D dd : Addr) (fs : List (Str × V)) (c : V) (cv : Value) (b : Bool), cls = .ref D ∧ d = some dd ∧ IsE K D ∧ xs = [.ref a, c] ∧ (∀ u, RelV c u → u = cv) ∧ PySem.W.kitOne K (.ref D) cv = some b ∧ H dd = some (.xd fs) ∧ Q (.bl b) H
theorem call_isX {X : Cx} {a : Addr} {oe : Obj} {cls : Value} {d : Option Addr} {pn : List (Addr × Obj)} (hz : Zc cls d oe) (hf : ∃ vs, oe.data = .fields vs) :
    CallR (X.suite a ((a, oe) :: pn)) (.builtin "isinstance") (rIsX X.K a cls d) := by
  intro pins s σ H xs us Q I r h
  obtain ⟨D, dd, fs, c, cv, b, rfl, rfl, T, rfl, hcv, e, hdd, q⟩ := h
  match r with
  | .cons rx (.cons rt .nil) =>
    cases rx
    have ec := hcv _ rt
    subst ec
    obtain ⟨hg, _⟩ := I.pin (a, oe) (List.mem_append.mpr (.inl List.mem_cons_self))
    obtain ⟨vs, hv⟩ := hf
    have hx : ObjOk X.prog X.w H s.heap dd (.xd fs) := I.hok dd _ hdd
    obtain ⟨mA, ⟨o, _, _, ho, _⟩, _⟩ := hx
    have J : PySem.W.InstAt s.heap a oe D (some o) := ⟨hg, hz.1, by unfold PySem.W.notCls; rw [hv] <;> rfl, by rw [hz.2]; exact ho⟩
    exact PySem.W.kia_one (kitx_exc T) I.kIn J e (fun z => nomatch z) fun tk => ⟨.bl b, H, I.kept (t' := tk) fun _ _ z => z, rfl, q⟩
end Gd

/-! ### defaults that fill up; an empty tuple that was there -/
namespace Gd
open PySem PySem.Spec PySem.Calls PyProof.Rows L2
def emB (K : Frg) (a : Addr) : Bool := match K.lookup a with
  | some ⟨.type c, _, .seq its _, _⟩ => decide (c = "tuple") && decide (its.size = 0)
  | _ => false
theorem emB_ok {K : Frg} {a : Addr} (h : emB K a = true) (H : Hp) : SqT K H a [] := by
  unfold emB at h
  cases q : K.lookup a with
  | none =>
    rw [q] at h
    cases h
  | some o =>
    obtain ⟨oc, od, dt, osl⟩ := o
    rw [q] at h
    cases oc with
    | type c =>
      cases dt with
      | seq its n =>
        have h : (decide (c = "tuple") && decide (its.size = 0)) = true := h
        rw [Bool.and_eq_true] at h
        have h2 : its.size = 0 := of_decide_eq_true h.2
        have e : its.toList = [] := by
          cases its with
          | mk l => cases l with
            | nil => rfl
            | cons _ _ => cases h2
        refine .inr ⟨_, its, n, q, congrArg Value.type (of_decide_eq_true h.1), rfl, by rw [h2]; exact Nat.zero_le _, ?_⟩
        rw [e]
        exact .nil
      | _ => cases h
    | _ => cases dt <;> cases h
theorem okX_fn {P : Program} {w : World} {K : Frg} {mg : Str → Option Value} {base : Heap} {x qual : Str} {params : Arguments} {body : List Stmt} {scope : Scope} {dvs : List V} {kws : List (Str × V)} {f : Addr} {fd : FuncData} {ps : List Str} {k : Nat} {sp : Sp}
    (F : FunD K x qual params body scope dvs kws f fd) (h : FnOk P w K mg base (L2.CX P w) k f fd ps sp) (b : Binds K fd ps []) : OkX P w K mg base k f ps sp := by
  refine ⟨fd, h, b, F.kp, ?_⟩
  obtain ⟨oc, od, dV, kV, doc, pm, an, cdv, ct, osl, rfl, lk, _⟩ := F.ex
  unfold PySem.W.fnIn
  rw [lk]
section
variable {X : Cx} {k n : Nat} {f C : Addr} {x : Str} {ps : List Str} {sp : Sp} {E : L2.St → XK} {e : Expr} {es : List Expr} {p pos : Pos} {t : TA} {fd : FuncData} {ds : List Value} {dvs : List V}
def tMakeXD (C : Addr) (sp : Sp) (dvs : List V) (E : L2.St → XK) (t : TA) : TE := fun σ H Q => tMake C sp dvs (E σ) t σ H Q
theorem pmkXD (M : Mk X.K C f) (F : FnOk X.prog X.w X.K X.mg X.base (L2.CX X.prog X.w) k f fd ps sp) (b : Binds X.K fd ps ds) (hv : Vals dvs ds) (hr : Room n X.A) (hg : Gl X x) (hm : X.mg x = some (.ref C)) (hx : ∀ σ, PassesAt (L2.CX X.prog X.w) X σ (E σ)) (ha : PA X (e :: es) t) (hk : k + 1 ≤ n := by decide)
    (hdb : (x == ("__debug__" : Str)) = false := by decide)
    (he : starEach (e :: es) X.env = (false, eval e X.env) :: starEach es X.env := by rfl) (hpl : (backTo pos (starEach es X.env)).any (·.1) = false := by rfl) :
    PE X (.Call (.Name x p) (e :: es) [] pos) (tMakeXD C sp dvs E t) := by
  constructor
  intro pins s σ H Q I h
  refine wpAny_Call_Name_kw (ld_glob I hg hm ?_ hdb)
  refine PySem.W.callWith_K (h₀ := X.base) I.ok.mod.kin M.kp (thn (ha.run pos pins s σ H _ I h) fun us s1 ⟨vs, H1, I1, r, q⟩ => ⟨I1.kIn, ?_⟩) he hpl
  have q1 := q (s1.heap.objs.size + 1) s1.heap.objs.size (I1.hok.fresh (Nat.le_succ _)) (I1.hok.fresh (Nat.le_refl _)) (Nat.ne_of_lt (Nat.lt_succ_self _))
  have I2 := L2.Inv.made (C := C) I1
  have r2 : Vals (V.ref (s1.heap.objs.size + 1) :: (vs ++ dvs)) ((Value.ref (s1.heap.objs.size + 1) :: us) ++ ds) := .cons rfl (r.append hv)
  have len : ((Value.ref (s1.heap.objs.size + 1) :: us) ++ ds).length = ps.length := (r2.length).symm.trans (F.len _ _ _ _ q1)
  have bd := b _ (Value.ref (s1.heap.objs.size + 1) :: us) I2.kIn len
  refine wpAny_call (make_map (f := f) I1.kIn M.makes M.init (beq_iff_eq.mp M.fn) (codeAny_mono (F.run _ X.stack _ _ _ _ _ _ (E σ) ((hr.mono hk).make C us []) (I2.env0.make C us []) bd r2 q1) fun res s' got => ?_))
  match res, got with
  | .error er, got => exact hx σ pins _ _ er s' I2 got
  | .ok (.ret u), got =>
    obtain ⟨v, H', I3, rv, rfl, q3⟩ := I2.after got
    exact ⟨rv, ⟨V.ref (s1.heap.objs.size + 1), H', I3, rfl, q3⟩⟩
end
end Gd

/-! ## Way4 -/
set_option maxHeartbeats 4000000
/-! A comprehension over a list that keeps what a test lets through. -/
namespace Gd
open PySem PySem.Spec PyProof.Rows L2
section
variable {K : Frg} {H : Hp} {σ : L2.St} {vs : List Nat} {g : TG} {tt : TT} {te ta : TE} {Q : VK} {a : Addr} {xs : List V}
def mF (K : Frg) (g : TG) (tt : TT) (te : TE) (vs : List Nat) (v : V) (σ : L2.St) (H : Hp) (Q : VK) : Prop := tLc (iList K fun _ H' k => k v H') g tt te vs σ H Q
theorem r_lcF (h : ta σ H fun v H1 => mF K g tt te vs v σ H1 Q) : tLc (iList K ta) g tt te vs σ H Q := h
theorem lcF (p : V → Bool) (hs : SqL K H a xs) (hn : xs.length ≤ 100000)
    (step : ∀ (i : Nat) x H1, xs[i]? = some x → Same H H1 → ∀ (Qe : VK) (Qn : Hp → Prop), (p x = true → Qe x H1) → (p x = false → Qn H1) →
      g x (wipe σ vs) H1 fun σ2 H2 => wipe σ2 vs = wipe σ vs ∧ tt σ2 H2 fun b H3 => if b = true then te σ2 H3 Qe else Qn H3)
    (fin : ∀ D H', H D = none → Same H H' → H' D = some (.lst (xs.filter p)) → Q (.ref D) H') : mF K g tt te vs (.ref a) σ H Q := by
  refine ⟨a, rfl, ⟨xs, hs⟩, fun D hD => ?_⟩
  refine lc_list (xs := xs) (fun i H' => Same H H' ∧ H' D = some (.lst ((xs.take i).filter p))) ⟨way_same.chg (Same.refl _) hD, by rw [upd_same]; rfl⟩ (fun i H1 _ M => Same.seq M.1 hs) (fun i x H1 hi M => ?_) fun H' M => ?_
  · obtain ⟨s1, hD1⟩ := M
    have hl : ((xs.take i).filter p).length ≤ xs.length := Nat.le_trans (List.length_filter_le _ _) (by rw [List.length_take]; exact Nat.min_le_right _ _)
    refine step i x H1 hi s1 _ _ (fun hp => ?_) (fun hp => ?_)
    · refine ⟨_, hD1, Nat.lt_of_le_of_lt (Nat.le_trans hl hn) (by decide), way_same.chg s1 hD, ?_⟩
      rw [upd_same, List.take_succ, hi, List.filter_append]
      simp [hp]
    · refine ⟨s1, ?_⟩
      rw [hD1, List.take_succ, hi, List.filter_append]
      simp [hp]
  · obtain ⟨s1, hD1⟩ := M
    rw [List.take_length] at hD1
    exact fin D H' hD s1 hD1
end
end Gd

/-! ## Tx -/
set_option maxHeartbeats 4000000
/-! The text by places; what the top leaves. -/
namespace Tx
open PySem PySem.Spec PyProof.Rows L2 Gd
def top (i : Nat) : Stmt := PySem.Challenge.pw_tinkerhall_k06_catalogues.main.body.getD i (.Pass ⟨0, 0, 0, 0⟩)
abbrev s_is_number : Stmt := top 11
def d_is_number : DefA := ⟨fun K => He.ga K "is_number", "is_number", "is_number", s_is_number, [], []⟩
abbrev s_is_list : Stmt := top 12
def d_is_list : DefA := ⟨fun K => He.ga K "is_list", "is_list", "is_list", s_is_list, [], []⟩
abbrev s_are_signs : Stmt := top 13
def d_are_signs : DefA := ⟨fun K => He.ga K "are_signs", "are_signs", "are_signs", s_are_signs, [], []⟩
abbrev s_are_different : Stmt := top 14
def d_are_different : DefA := ⟨fun K => He.ga K "are_different", "are_different", "are_different", s_are_different, [], []⟩
abbrev s_is_name : Stmt := top 17
def d_is_name : DefA := ⟨fun K => He.ga K "is_name", "is_name", "is_name", s_is_name, [], []⟩
abbrev s_Kind_init : Stmt := inClass (top 22) 0
def d_Kind_init : DefA := ⟨fun K => He.ma K (He.ga K "Kind") "__init__", "__init__", "Kind.__init__", s_Kind_init, [], [("start", .non), ("price", .int 0)]⟩
abbrev s_Kind_keeps : Stmt := inClass (top 22) 1
def d_Kind_keeps : DefA := ⟨getA "Kind" "keeps", "keeps", "Kind.keeps", s_Kind_keeps, [], []⟩
abbrev s_Kind_len : Stmt := inClass (top 22) 2
def d_Kind_len : DefA := ⟨fun K => He.ma K (He.ga K "Kind") "__len__", "__len__", "Kind.__len__", s_Kind_len, [], []⟩
abbrev s_Kind_eq : Stmt := inClass (top 22) 3
def d_Kind_eq : DefA := ⟨fun K => He.ma K (He.ga K "Kind") "__eq__", "__eq__", "Kind.__eq__", s_Kind_eq, [], []⟩
abbrev s_Kind_flees : Stmt := inClass (top 22) 6
def d_Kind_flees : DefA := ⟨fun K => He.ma K (He.ga K "Kind") "flees", "flees", "Kind.flees", s_Kind_flees, [], []⟩
abbrev s_Catalogue_init : Stmt := inClass (top 23) 0
def d_Catalogue_init : DefA := ⟨fun K => He.ma K (He.ga K "Catalogue") "__init__", "__init__", "Catalogue.__init__", s_Catalogue_init, [.adr (He.dflAt ("Catalogue", some "__init__") 0)], []⟩
abbrev s_Catalogue_getitem : Stmt := inClass (top 23) 1
def d_Catalogue_getitem : DefA := ⟨fun K => He.ma K (He.ga K "Catalogue") "__getitem__", "__getitem__", "Catalogue.__getitem__", s_Catalogue_getitem, [], []⟩
abbrev s_Catalogue_contains : Stmt := inClass (top 23) 2
def d_Catalogue_contains : DefA := ⟨fun K => He.ma K (He.ga K "Catalogue") "__contains__", "__contains__", "Catalogue.__contains__", s_Catalogue_contains, [], []⟩
abbrev s_Catalogue_len : Stmt := inClass (top 23) 3
def d_Catalogue_len : DefA := ⟨fun K => He.ma K (He.ga K "Catalogue") "__len__", "__len__", "Catalogue.__len__", s_Catalogue_len, [], []⟩
abbrev s_Catalogue_iter : Stmt := inClass (top 23) 4
def d_Catalogue_iter : DefA := ⟨fun K => He.ma K (He.ga K "Catalogue") "__iter__", "__iter__", "Catalogue.__iter__", s_Catalogue_iter, [], []⟩
abbrev s_Catalogue_eq : Stmt := inClass (top 23) 5
def d_Catalogue_eq : DefA := ⟨fun K => He.ma K (He.ga K "Catalogue") "__eq__", "__eq__", "Catalogue.__eq__", s_Catalogue_eq, [], []⟩
abbrev s_Catalogue_add : Stmt := inClass (top 23) 6
def d_Catalogue_add : DefA := ⟨fun K => He.ma K (He.ga K "Catalogue") "__add__", "__add__", "Catalogue.__add__", s_Catalogue_add, [], []⟩
abbrev s_is_table : Stmt := top 24
def d_is_table : DefA := ⟨fun K => He.ga K "_is_table", "_is_table", "_is_table", s_is_table, [], []⟩
abbrev s_are_ways : Stmt := top 25
def d_are_ways : DefA := ⟨fun K => He.ga K "_are_ways", "_are_ways", "_are_ways", s_are_ways, [], []⟩
abbrev s_is_way : Stmt := top 26
def d_is_way : DefA := ⟨fun K => He.ga K "_is_way", "_is_way", "_is_way", s_is_way, [], []⟩
abbrev s_law_bag_of : Stmt := top 28
def d_law_bag_of : DefA := ⟨fun K => He.ga K "_law_bag_of", "_law_bag_of", "_law_bag_of", s_law_bag_of, [], []⟩
abbrev s_law_pick : Stmt := top 29
def d_law_pick : DefA := ⟨fun K => He.ga K "_law_pick", "_law_pick", "_law_pick", s_law_pick, [], []⟩
abbrev s_law_choice : Stmt := top 30
def d_law_choice : DefA := ⟨fun K => He.ga K "_law_choice", "_law_choice", "_law_choice", s_law_choice, [], []⟩
abbrev s_law_one_in : Stmt := top 31
def d_law_one_in : DefA := ⟨fun K => He.ga K "_law_one_in", "_law_one_in", "_law_one_in", s_law_one_in, [], []⟩
abbrev s_law_shuffled : Stmt := top 32
def d_law_shuffled : DefA := ⟨fun K => He.ga K "_law_shuffled", "_law_shuffled", "_law_shuffled", s_law_shuffled, [], []⟩
abbrev s_law_integer : Stmt := top 33
def d_law_integer : DefA := ⟨fun K => He.ga K "_law_integer", "_law_integer", "_law_integer", s_law_integer, [], []⟩
abbrev s_law_letters : Stmt := top 34
def d_law_letters : DefA := ⟨fun K => He.ga K "_law_letters", "_law_letters", "_law_letters", s_law_letters, [], []⟩
abbrev s_law_reserved : Stmt := top 35
def d_law_reserved : DefA := ⟨fun K => He.ga K "_law_reserved", "_law_reserved", "_law_reserved", s_law_reserved, [], []⟩
abbrev s_law_names_of : Stmt := top 36
def d_law_names_of : DefA := ⟨fun K => He.ga K "_law_names_of", "_law_names_of", "_law_names_of", s_law_names_of, [], []⟩
abbrev s_law_table_of : Stmt := top 37
def d_law_table_of : DefA := ⟨fun K => He.ga K "_law_table_of", "_law_table_of", "_law_table_of", s_law_table_of, [], []⟩
abbrev s_law_way_table : Stmt := top 38
def d_law_way_table : DefA := ⟨fun K => He.ga K "_law_way_table", "_law_way_table", "_law_way_table", s_law_way_table, [], []⟩
abbrev s_law_kind_of : Stmt := top 39
def d_law_kind_of : DefA := ⟨fun K => He.ga K "_law_kind_of", "_law_kind_of", "_law_kind_of", s_law_kind_of, [], []⟩
abbrev s_law_same : Stmt := top 40
def d_law_same : DefA := ⟨fun K => He.ga K "_law_same", "_law_same", "_law_same", s_law_same, [], []⟩
abbrev s_law_object : Stmt := top 41
def d_law_object : DefA := ⟨fun K => He.ga K "_law_object", "_law_object", "_law_object", s_law_object, [], []⟩
abbrev s_law_parts_of : Stmt := top 42
def d_law_parts_of : DefA := ⟨fun K => He.ga K "_law_parts_of", "_law_parts_of", "_law_parts_of", s_law_parts_of, [], []⟩
abbrev s_law_item : Stmt := top 43
def d_law_item : DefA := ⟨fun K => He.ga K "_law_item", "_law_item", "_law_item", s_law_item, [], []⟩
abbrev s_law_told_of : Stmt := top 44
def d_law_told_of : DefA := ⟨fun K => He.ga K "_law_told_of", "_law_told_of", "_law_told_of", s_law_told_of, [], []⟩
abbrev s_law_added : Stmt := top 45
def d_law_added : DefA := ⟨fun K => He.ga K "_law_added", "_law_added", "_law_added", s_law_added, [], []⟩
abbrev s_law_at_once : Stmt := top 46
def d_law_at_once : DefA := ⟨fun K => He.ga K "_law_at_once", "_law_at_once", "_law_at_once", s_law_at_once, [], []⟩
abbrev s_law_due_of : Stmt := top 47
def d_law_due_of : DefA := ⟨fun K => He.ga K "_law_due_of", "_law_due_of", "_law_due_of", s_law_due_of, [], []⟩
abbrev s_law_new : Stmt := top 48
def d_law_new : DefA := ⟨fun K => He.ga K "_law_new", "_law_new", "_law_new", s_law_new, [], []⟩
abbrev s_law_side_of : Stmt := top 49
def d_law_side_of : DefA := ⟨fun K => He.ga K "_law_side_of", "_law_side_of", "_law_side_of", s_law_side_of, [], []⟩
abbrev s_law_turn_of : Stmt := top 50
def d_law_turn_of : DefA := ⟨fun K => He.ga K "_law_turn_of", "_law_turn_of", "_law_turn_of", s_law_turn_of, [], []⟩
abbrev s_law_row_of : Stmt := top 51
def d_law_row_of : DefA := ⟨fun K => He.ga K "_law_row_of", "_law_row_of", "_law_row_of", s_law_row_of, [], []⟩
abbrev s_law_rows_told : Stmt := top 52
def d_law_rows_told : DefA := ⟨fun K => He.ga K "_law_rows_told", "_law_rows_told", "_law_rows_told", s_law_rows_told, [], []⟩
abbrev s_law_equal_told : Stmt := top 53
def d_law_equal_told : DefA := ⟨fun K => He.ga K "_law_equal_told", "_law_equal_told", "_law_equal_told", s_law_equal_told, [], []⟩
abbrev s_law : Stmt := top 54
def d_law : DefA := ⟨fun K => He.ga K "law", "law", "law", s_law, [], []⟩
def v_WORDS : List He.Dv := [.str "signs", .str "kind", .str "keeps", .str "table", .str "stands", .str "flees", .str "entry", .str "place", .str "from", .str "exit", .str "plan", .str "most", .str "come", .str "day", .str "build", .str "swap", .str "move", .str "back", .str "shelve", .str "scrap", .str "give", .str "take", .str "seen", .str "row", .str "sights", .str "told", .str "strike", .str "again", .str "test", .str "chapter", .str "look", .str "say", .str "if", .str "else", .str "end", .str "repeat", .str "leave", .str "call", .str "done", .str "quit", .str "any", .str "house", .str "customer"]
abbrev s_BadSigns_init : Stmt := inClass (top 3) 0
def e_BadSigns : DefE := ⟨"BadSigns", "signs", s_BadSigns_init⟩
abbrev s_BadName_init : Stmt := inClass (top 4) 0
def e_BadName : DefE := ⟨"BadName", "name", s_BadName_init⟩
abbrev s_BadKind_init : Stmt := inClass (top 5) 0
def e_BadKind : DefE := ⟨"BadKind", "name", s_BadKind_init⟩
abbrev s_TooMany_init : Stmt := inClass (top 6) 0
def e_TooMany : DefE := ⟨"TooMany", "word", s_TooMany_init⟩
abbrev s_Twice_init : Stmt := inClass (top 7) 0
def e_Twice : DefE := ⟨"Twice", "name", s_Twice_init⟩
abbrev s_Unknown_init : Stmt := inClass (top 8) 0
def e_Unknown : DefE := ⟨"Unknown", "name", s_Unknown_init⟩
abbrev s_Unlike_init : Stmt := inClass (top 9) 0
def e_Unlike : DefE := ⟨"Unlike", "word", s_Unlike_init⟩
def es : List DefE := [e_BadSigns, e_BadName, e_BadKind, e_TooMany, e_Twice, e_Unknown, e_Unlike]
def ds0 : List DefA := [d_is_number, d_is_list, d_are_signs, d_are_different, d_is_name, d_Kind_init, d_Kind_keeps, d_Kind_len, d_Kind_eq, d_Kind_flees, d_Catalogue_init, d_Catalogue_getitem, d_Catalogue_contains, d_Catalogue_len, d_Catalogue_iter, d_Catalogue_eq, d_Catalogue_add, d_is_table, d_are_ways, d_is_way, d_law_bag_of, d_law_pick, d_law_choice, d_law_one_in, d_law_shuffled]
def ds1 : List DefA := [d_law_integer, d_law_letters, d_law_reserved, d_law_names_of, d_law_table_of, d_law_way_table, d_law_kind_of, d_law_same, d_law_object, d_law_parts_of, d_law_item, d_law_told_of, d_law_added, d_law_at_once, d_law_due_of, d_law_new, d_law_side_of, d_law_turn_of, d_law_row_of, d_law_rows_told, d_law_equal_told, d_law]
def ds : List DefA := ds0 ++ (ds1)
def ts0 : List (Frg → Bool) := [tF (.glo "is_number"), tF (.glo "is_list"), tF (.glo "are_signs"), tF (.glo "are_different"), tF (.glo "is_name"), tProp "Kind" "keeps", tF (.meth "Kind" "__len__"), tF (.meth "Kind" "__eq__"), tF (.meth "Kind" "flees"), tF (.meth "Catalogue" "__getitem__"), tF (.meth "Catalogue" "__contains__"), tF (.meth "Catalogue" "__len__"), tF (.meth "Catalogue" "__iter__"), tF (.meth "Catalogue" "__eq__"), tF (.meth "Catalogue" "__add__"), tF (.glo "_is_table"), tF (.glo "_are_ways"), tF (.glo "_is_way"), tF (.glo "_law_bag_of"), tF (.glo "_law_pick"), tF (.glo "_law_choice"), tF (.glo "_law_one_in"), tF (.glo "_law_shuffled"), tF (.glo "_law_integer"), tF (.glo "_law_letters")]
def ts1 : List (Frg → Bool) := [tF (.glo "_law_reserved"), tF (.glo "_law_names_of"), tF (.glo "_law_table_of"), tF (.glo "_law_way_table"), tF (.glo "_law_kind_of"), tF (.glo "_law_same"), tF (.glo "_law_object"), tF (.glo "_law_parts_of"), tF (.glo "_law_item"), tF (.glo "_law_told_of"), tF (.glo "_law_added"), tF (.glo "_law_at_once"), tF (.glo "_law_due_of"), tF (.glo "_law_new"), tF (.glo "_law_side_of"), tF (.glo "_law_turn_of"), tF (.glo "_law_row_of"), tF (.glo "_law_rows_told"), tF (.glo "_law_equal_told"), tF (.glo "law"), tF (.glo "Kind"), tF (.cls "Kind"), tF (.mkr "Kind"), tF (.noat "Kind" "signs"), tF (.noat "Kind" "name")]
def ts2 : List (Frg → Bool) := [tF (.noat "Kind" "inputs"), tF (.noat "Kind" "table"), tF (.noat "Kind" "start"), tF (.noat "Kind" "ways"), tF (.noat "Kind" "price"), tF (.glo "Catalogue"), tF (.cls "Catalogue"), tF (.mkr "Catalogue"), tF (.noat "Catalogue" "signs"), tF (.noat "Catalogue" "kinds"), tF (.noat "Catalogue" "_names"), tF (.free "isinstance"), tF (.free "int"), tF (.free "bool"), tF (.free "str"), tF (.free "list"), tF (.free "tuple"), tF (.free "len"), tF (.free "all"), tF (.free "range"), tF (.free "enumerate"), tF (.free "repr"), tF (.free "iter"), tF (.free "ValueError"), tF (.glo "WORDS")]
def ts3 : List (Frg → Bool) := [(fun K => He.tupB K "WORDS" v_WORDS), tF (.int "MOST_KINDS" 8), tF (.int "MOST_PRICE" 600), tF (.int "MOST_WAYS" 6), tIsi "Kind", tIsi "Catalogue", tF (.glo "BadSigns"), tF (.glo "BadName"), tF (.glo "BadKind"), tF (.glo "TooMany"), tF (.glo "Twice"), tF (.glo "Unknown"), tF (.glo "Unlike"), tF (.glo "TinkerError"), tF (.exm "BadSigns" "BadSigns" true), tF (.exm "BadSigns" "TinkerError" true), tF (.exm "BadSigns" "TooMany" false), tF (.exm "BadSigns" "Twice" false), tF (.exm "BadSigns" "Unknown" false), tF (.exm "BadSigns" "Unlike" false), tF (.exm "BadName" "BadSigns" false), tF (.exm "BadName" "TinkerError" true), tF (.exm "BadName" "TooMany" false), tF (.exm "BadName" "Twice" false), tF (.exm "BadName" "Unknown" false)]
def ts4 : List (Frg → Bool) := [tF (.exm "BadName" "Unlike" false), tF (.exm "BadKind" "BadSigns" false), tF (.exm "BadKind" "TinkerError" true), tF (.exm "BadKind" "TooMany" false), tF (.exm "BadKind" "Twice" false), tF (.exm "BadKind" "Unknown" false), tF (.exm "BadKind" "Unlike" false), tF (.exm "TooMany" "BadSigns" false), tF (.exm "TooMany" "TinkerError" true), tF (.exm "TooMany" "TooMany" true), tF (.exm "TooMany" "Twice" false), tF (.exm "TooMany" "Unknown" false), tF (.exm "TooMany" "Unlike" false), tF (.exm "Twice" "BadSigns" false), tF (.exm "Twice" "TinkerError" true), tF (.exm "Twice" "TooMany" false), tF (.exm "Twice" "Twice" true), tF (.exm "Twice" "Unknown" false), tF (.exm "Twice" "Unlike" false), tF (.exm "Unknown" "BadSigns" false), tF (.exm "Unknown" "TinkerError" true), tF (.exm "Unknown" "TooMany" false), tF (.exm "Unknown" "Twice" false), tF (.exm "Unknown" "Unknown" true), tF (.exm "Unknown" "Unlike" false)]
def ts5 : List (Frg → Bool) := [tF (.exm "Unlike" "BadSigns" false), tF (.exm "Unlike" "TinkerError" true), tF (.exm "Unlike" "TooMany" false), tF (.exm "Unlike" "Twice" false), tF (.exm "Unlike" "Unknown" false), tF (.exm "Unlike" "Unlike" true), fun K => firstB K (He.ga K "Catalogue"), fun K => noOpB K "add" (He.ga K "Kind"), fun K => decide (He.ga K "Catalogue" ≠ He.ga K "Kind"), fun K => decide (PySem.W.subIn K (.type "str") (.ref (He.ga K "Catalogue")) = some false), tIsE "Unknown", fun K => decide (PySem.W.kitOne K (.type "str") (.ref (He.ga K "Catalogue")) = some false), fun K => decide (PySem.W.kitOne K (.ref (He.ga K "Unknown")) (.type "ValueError") = some true), fun K => decide (PySem.W.kitOne K (.ref (He.ga K "Unknown")) (.ref (He.ga K "Twice")) = some false), fun K => emB K (He.dflAt ("Catalogue", some "__init__") 0 K)]
def ts : List (Frg → Bool) := ts0 ++ (ts1 ++ (ts2 ++ (ts3 ++ (ts4 ++ (ts5)))))
/-- what stands behind the top -/
structure Txt (P : Program) (K : Frg) (mg : Str → Option Value) : Prop where
  c : TellsE P ts ds es K
  top : (P.main.scope.names.lookup ("super" : Str)).isSome = false
  heap : ∃ h : Heap, K.In h ∧ h.Ns mainGlobals mg
section
variable {P : Program} {K : Frg} {mg : Str → Option Value}
theorem Txt.g_is_number (T : Txt P K mg) : mg "is_number" = some (.ref (He.ga K "is_number")) := let ⟨_, a, b⟩ := T.heap; He.glo_ok a b (T.c.test 0)
theorem Txt.g_is_list (T : Txt P K mg) : mg "is_list" = some (.ref (He.ga K "is_list")) := let ⟨_, a, b⟩ := T.heap; He.glo_ok a b (T.c.test 1)
theorem Txt.g_are_signs (T : Txt P K mg) : mg "are_signs" = some (.ref (He.ga K "are_signs")) := let ⟨_, a, b⟩ := T.heap; He.glo_ok a b (T.c.test 2)
theorem Txt.g_are_different (T : Txt P K mg) : mg "are_different" = some (.ref (He.ga K "are_different")) := let ⟨_, a, b⟩ := T.heap; He.glo_ok a b (T.c.test 3)
theorem Txt.g_is_name (T : Txt P K mg) : mg "is_name" = some (.ref (He.ga K "is_name")) := let ⟨_, a, b⟩ := T.heap; He.glo_ok a b (T.c.test 4)
theorem Txt.p_Kind_keeps (T : Txt P K mg) : PropOf K (He.ga K "Kind") "keeps" (He.ma K (He.ga K "Kind") "keeps") (getA "Kind" "keeps" K) := prop_of (T.c.test 5)
theorem Txt.m_Kind_len (T : Txt P K mg) : Meth K (He.ga K "Kind") "__len__" (He.ma K (He.ga K "Kind") "__len__") := He.meth_ok (T.c.test 6)
theorem Txt.m_Kind_eq (T : Txt P K mg) : Meth K (He.ga K "Kind") "__eq__" (He.ma K (He.ga K "Kind") "__eq__") := He.meth_ok (T.c.test 7)
theorem Txt.m_Kind_flees (T : Txt P K mg) : Meth K (He.ga K "Kind") "flees" (He.ma K (He.ga K "Kind") "flees") := He.meth_ok (T.c.test 8)
theorem Txt.m_Catalogue_getitem (T : Txt P K mg) : Meth K (He.ga K "Catalogue") "__getitem__" (He.ma K (He.ga K "Catalogue") "__getitem__") := He.meth_ok (T.c.test 9)
theorem Txt.m_Catalogue_contains (T : Txt P K mg) : Meth K (He.ga K "Catalogue") "__contains__" (He.ma K (He.ga K "Catalogue") "__contains__") := He.meth_ok (T.c.test 10)
theorem Txt.m_Catalogue_len (T : Txt P K mg) : Meth K (He.ga K "Catalogue") "__len__" (He.ma K (He.ga K "Catalogue") "__len__") := He.meth_ok (T.c.test 11)
theorem Txt.m_Catalogue_iter (T : Txt P K mg) : Meth K (He.ga K "Catalogue") "__iter__" (He.ma K (He.ga K "Catalogue") "__iter__") := He.meth_ok (T.c.test 12)
theorem Txt.m_Catalogue_eq (T : Txt P K mg) : Meth K (He.ga K "Catalogue") "__eq__" (He.ma K (He.ga K "Catalogue") "__eq__") := He.meth_ok (T.c.test 13)
theorem Txt.m_Catalogue_add (T : Txt P K mg) : Meth K (He.ga K "Catalogue") "__add__" (He.ma K (He.ga K "Catalogue") "__add__") := He.meth_ok (T.c.test 14)
theorem Txt.g_is_table (T : Txt P K mg) : mg "_is_table" = some (.ref (He.ga K "_is_table")) := let ⟨_, a, b⟩ := T.heap; He.glo_ok a b (T.c.test 15)
theorem Txt.g_are_ways (T : Txt P K mg) : mg "_are_ways" = some (.ref (He.ga K "_are_ways")) := let ⟨_, a, b⟩ := T.heap; He.glo_ok a b (T.c.test 16)
theorem Txt.g_is_way (T : Txt P K mg) : mg "_is_way" = some (.ref (He.ga K "_is_way")) := let ⟨_, a, b⟩ := T.heap; He.glo_ok a b (T.c.test 17)
theorem Txt.g_law_bag_of (T : Txt P K mg) : mg "_law_bag_of" = some (.ref (He.ga K "_law_bag_of")) := let ⟨_, a, b⟩ := T.heap; He.glo_ok a b (T.c.test 18)
theorem Txt.g_law_pick (T : Txt P K mg) : mg "_law_pick" = some (.ref (He.ga K "_law_pick")) := let ⟨_, a, b⟩ := T.heap; He.glo_ok a b (T.c.test 19)
theorem Txt.g_law_choice (T : Txt P K mg) : mg "_law_choice" = some (.ref (He.ga K "_law_choice")) := let ⟨_, a, b⟩ := T.heap; He.glo_ok a b (T.c.test 20)
theorem Txt.g_law_one_in (T : Txt P K mg) : mg "_law_one_in" = some (.ref (He.ga K "_law_one_in")) := let ⟨_, a, b⟩ := T.heap; He.glo_ok a b (T.c.test 21)
theorem Txt.g_law_shuffled (T : Txt P K mg) : mg "_law_shuffled" = some (.ref (He.ga K "_law_shuffled")) := let ⟨_, a, b⟩ := T.heap; He.glo_ok a b (T.c.test 22)
theorem Txt.g_law_integer (T : Txt P K mg) : mg "_law_integer" = some (.ref (He.ga K "_law_integer")) := let ⟨_, a, b⟩ := T.heap; He.glo_ok a b (T.c.test 23)
theorem Txt.g_law_letters (T : Txt P K mg) : mg "_law_letters" = some (.ref (He.ga K "_law_letters")) := let ⟨_, a, b⟩ := T.heap; He.glo_ok a b (T.c.test 24)
theorem Txt.g_law_reserved (T : Txt P K mg) : mg "_law_reserved" = some (.ref (He.ga K "_law_reserved")) := let ⟨_, a, b⟩ := T.heap; He.glo_ok a b (T.c.test 25)
theorem Txt.g_law_names_of (T : Txt P K mg) : mg "_law_names_of" = some (.ref (He.ga K "_law_names_of")) := let ⟨_, a, b⟩ := T.heap; He.glo_ok a b (T.c.test 26)
theorem Txt.g_law_table_of (T : Txt P K mg) : mg "_law_table_of" = some (.ref (He.ga K "_law_table_of")) := let ⟨_, a, b⟩ := T.heap; He.glo_ok a b (T.c.test 27)
theorem Txt.g_law_way_table (T : Txt P K mg) : mg "_law_way_table" = some (.ref (He.ga K "_law_way_table")) := let ⟨_, a, b⟩ := T.heap; He.glo_ok a b (T.c.test 28)
theorem Txt.g_law_kind_of (T : Txt P K mg) : mg "_law_kind_of" = some (.ref (He.ga K "_law_kind_of")) := let ⟨_, a, b⟩ := T.heap; He.glo_ok a b (T.c.test 29)
theorem Txt.g_law_same (T : Txt P K mg) : mg "_law_same" = some (.ref (He.ga K "_law_same")) := let ⟨_, a, b⟩ := T.heap; He.glo_ok a b (T.c.test 30)
theorem Txt.g_law_object (T : Txt P K mg) : mg "_law_object" = some (.ref (He.ga K "_law_object")) := let ⟨_, a, b⟩ := T.heap; He.glo_ok a b (T.c.test 31)
theorem Txt.g_law_parts_of (T : Txt P K mg) : mg "_law_parts_of" = some (.ref (He.ga K "_law_parts_of")) := let ⟨_, a, b⟩ := T.heap; He.glo_ok a b (T.c.test 32)
theorem Txt.g_law_item (T : Txt P K mg) : mg "_law_item" = some (.ref (He.ga K "_law_item")) := let ⟨_, a, b⟩ := T.heap; He.glo_ok a b (T.c.test 33)
theorem Txt.g_law_told_of (T : Txt P K mg) : mg "_law_told_of" = some (.ref (He.ga K "_law_told_of")) := let ⟨_, a, b⟩ := T.heap; He.glo_ok a b (T.c.test 34)
theorem Txt.g_law_added (T : Txt P K mg) : mg "_law_added" = some (.ref (He.ga K "_law_added")) := let ⟨_, a, b⟩ := T.heap; He.glo_ok a b (T.c.test 35)
theorem Txt.g_law_at_once (T : Txt P K mg) : mg "_law_at_once" = some (.ref (He.ga K "_law_at_once")) := let ⟨_, a, b⟩ := T.heap; He.glo_ok a b (T.c.test 36)
theorem Txt.g_law_due_of (T : Txt P K mg) : mg "_law_due_of" = some (.ref (He.ga K "_law_due_of")) := let ⟨_, a, b⟩ := T.heap; He.glo_ok a b (T.c.test 37)
theorem Txt.g_law_new (T : Txt P K mg) : mg "_law_new" = some (.ref (He.ga K "_law_new")) := let ⟨_, a, b⟩ := T.heap; He.glo_ok a b (T.c.test 38)
theorem Txt.g_law_side_of (T : Txt P K mg) : mg "_law_side_of" = some (.ref (He.ga K "_law_side_of")) := let ⟨_, a, b⟩ := T.heap; He.glo_ok a b (T.c.test 39)
theorem Txt.g_law_turn_of (T : Txt P K mg) : mg "_law_turn_of" = some (.ref (He.ga K "_law_turn_of")) := let ⟨_, a, b⟩ := T.heap; He.glo_ok a b (T.c.test 40)
theorem Txt.g_law_row_of (T : Txt P K mg) : mg "_law_row_of" = some (.ref (He.ga K "_law_row_of")) := let ⟨_, a, b⟩ := T.heap; He.glo_ok a b (T.c.test 41)
theorem Txt.g_law_rows_told (T : Txt P K mg) : mg "_law_rows_told" = some (.ref (He.ga K "_law_rows_told")) := let ⟨_, a, b⟩ := T.heap; He.glo_ok a b (T.c.test 42)
theorem Txt.g_law_equal_told (T : Txt P K mg) : mg "_law_equal_told" = some (.ref (He.ga K "_law_equal_told")) := let ⟨_, a, b⟩ := T.heap; He.glo_ok a b (T.c.test 43)
theorem Txt.g_law (T : Txt P K mg) : mg "law" = some (.ref (He.ga K "law")) := let ⟨_, a, b⟩ := T.heap; He.glo_ok a b (T.c.test 44)
theorem Txt.g_Kind (T : Txt P K mg) : mg "Kind" = some (.ref (He.ga K "Kind")) := let ⟨_, a, b⟩ := T.heap; He.glo_ok a b (T.c.test 45)
theorem Txt.c_Kind (T : Txt P K mg) : Cls K (He.ga K "Kind") := He.cls_ok (T.c.test 46)
theorem Txt.k_Kind (T : Txt P K mg) : Mk K (He.ga K "Kind") (He.ma K (He.ga K "Kind") "__init__") := He.mkr_ok (T.c.test 47)
theorem Txt.n_Kind_signs (T : Txt P K mg) : NoAttr K (He.ga K "Kind") "signs" := He.noat_ok (T.c.test 48)
theorem Txt.n_Kind_name (T : Txt P K mg) : NoAttr K (He.ga K "Kind") "name" := He.noat_ok (T.c.test 49)
theorem Txt.n_Kind_inputs (T : Txt P K mg) : NoAttr K (He.ga K "Kind") "inputs" := He.noat_ok (T.c.test 50)
theorem Txt.n_Kind_table (T : Txt P K mg) : NoAttr K (He.ga K "Kind") "table" := He.noat_ok (T.c.test 51)
theorem Txt.n_Kind_start (T : Txt P K mg) : NoAttr K (He.ga K "Kind") "start" := He.noat_ok (T.c.test 52)
theorem Txt.n_Kind_ways (T : Txt P K mg) : NoAttr K (He.ga K "Kind") "ways" := He.noat_ok (T.c.test 53)
theorem Txt.n_Kind_price (T : Txt P K mg) : NoAttr K (He.ga K "Kind") "price" := He.noat_ok (T.c.test 54)
theorem Txt.g_Catalogue (T : Txt P K mg) : mg "Catalogue" = some (.ref (He.ga K "Catalogue")) := let ⟨_, a, b⟩ := T.heap; He.glo_ok a b (T.c.test 55)
theorem Txt.c_Catalogue (T : Txt P K mg) : Cls K (He.ga K "Catalogue") := He.cls_ok (T.c.test 56)
theorem Txt.k_Catalogue (T : Txt P K mg) : Mk K (He.ga K "Catalogue") (He.ma K (He.ga K "Catalogue") "__init__") := He.mkr_ok (T.c.test 57)
theorem Txt.n_Catalogue_signs (T : Txt P K mg) : NoAttr K (He.ga K "Catalogue") "signs" := He.noat_ok (T.c.test 58)
theorem Txt.n_Catalogue_kinds (T : Txt P K mg) : NoAttr K (He.ga K "Catalogue") "kinds" := He.noat_ok (T.c.test 59)
theorem Txt.n_Catalogue_names (T : Txt P K mg) : NoAttr K (He.ga K "Catalogue") "_names" := He.noat_ok (T.c.test 60)
theorem Txt.f_isinstance (T : Txt P K mg) : mg "isinstance" = none := let ⟨_, a, b⟩ := T.heap; He.free_ok a b (T.c.test 61)
theorem Txt.f_int (T : Txt P K mg) : mg "int" = none := let ⟨_, a, b⟩ := T.heap; He.free_ok a b (T.c.test 62)
theorem Txt.f_bool (T : Txt P K mg) : mg "bool" = none := let ⟨_, a, b⟩ := T.heap; He.free_ok a b (T.c.test 63)
theorem Txt.f_str (T : Txt P K mg) : mg "str" = none := let ⟨_, a, b⟩ := T.heap; He.free_ok a b (T.c.test 64)
theorem Txt.f_list (T : Txt P K mg) : mg "list" = none := let ⟨_, a, b⟩ := T.heap; He.free_ok a b (T.c.test 65)
theorem Txt.f_tuple (T : Txt P K mg) : mg "tuple" = none := let ⟨_, a, b⟩ := T.heap; He.free_ok a b (T.c.test 66)
theorem Txt.f_len (T : Txt P K mg) : mg "len" = none := let ⟨_, a, b⟩ := T.heap; He.free_ok a b (T.c.test 67)
theorem Txt.f_all (T : Txt P K mg) : mg "all" = none := let ⟨_, a, b⟩ := T.heap; He.free_ok a b (T.c.test 68)
theorem Txt.f_range (T : Txt P K mg) : mg "range" = none := let ⟨_, a, b⟩ := T.heap; He.free_ok a b (T.c.test 69)
theorem Txt.f_enumerate (T : Txt P K mg) : mg "enumerate" = none := let ⟨_, a, b⟩ := T.heap; He.free_ok a b (T.c.test 70)
theorem Txt.f_repr (T : Txt P K mg) : mg "repr" = none := let ⟨_, a, b⟩ := T.heap; He.free_ok a b (T.c.test 71)
theorem Txt.f_iter (T : Txt P K mg) : mg "iter" = none := let ⟨_, a, b⟩ := T.heap; He.free_ok a b (T.c.test 72)
theorem Txt.f_ValueError (T : Txt P K mg) : mg "ValueError" = none := let ⟨_, a, b⟩ := T.heap; He.free_ok a b (T.c.test 73)
theorem Txt.g_WORDS (T : Txt P K mg) : mg "WORDS" = some (.ref (He.ga K "WORDS")) := let ⟨_, a, b⟩ := T.heap; He.glo_ok a b (T.c.test 74)
theorem Txt.t_WORDS (T : Txt P K mg) (H : Hp) : SqT K H (He.ga K "WORDS") (v_WORDS.map (He.Dv.v K)) := He.tupB_ok (T.c.test 75) H
theorem Txt.i_MOST_KINDS (T : Txt P K mg) : ∃ t, mg "MOST_KINDS" = some (.int 8 t) := let ⟨_, a, b⟩ := T.heap; He.int_ok a b (T.c.test 76)
theorem Txt.i_MOST_PRICE (T : Txt P K mg) : ∃ t, mg "MOST_PRICE" = some (.int 600 t) := let ⟨_, a, b⟩ := T.heap; He.int_ok a b (T.c.test 77)
theorem Txt.i_MOST_WAYS (T : Txt P K mg) : ∃ t, mg "MOST_WAYS" = some (.int 6 t) := let ⟨_, a, b⟩ := T.heap; He.int_ok a b (T.c.test 78)
theorem Txt.s_Kind (T : Txt P K mg) : Isi K (He.ga K "Kind") := isi_of (T.c.test 79)
theorem Txt.s_Catalogue (T : Txt P K mg) : Isi K (He.ga K "Catalogue") := isi_of (T.c.test 80)
theorem Txt.g_BadSigns (T : Txt P K mg) : mg "BadSigns" = some (.ref (He.ga K "BadSigns")) := let ⟨_, a, b⟩ := T.heap; He.glo_ok a b (T.c.test 81)
theorem Txt.g_BadName (T : Txt P K mg) : mg "BadName" = some (.ref (He.ga K "BadName")) := let ⟨_, a, b⟩ := T.heap; He.glo_ok a b (T.c.test 82)
theorem Txt.g_BadKind (T : Txt P K mg) : mg "BadKind" = some (.ref (He.ga K "BadKind")) := let ⟨_, a, b⟩ := T.heap; He.glo_ok a b (T.c.test 83)
theorem Txt.g_TooMany (T : Txt P K mg) : mg "TooMany" = some (.ref (He.ga K "TooMany")) := let ⟨_, a, b⟩ := T.heap; He.glo_ok a b (T.c.test 84)
theorem Txt.g_Twice (T : Txt P K mg) : mg "Twice" = some (.ref (He.ga K "Twice")) := let ⟨_, a, b⟩ := T.heap; He.glo_ok a b (T.c.test 85)
theorem Txt.g_Unknown (T : Txt P K mg) : mg "Unknown" = some (.ref (He.ga K "Unknown")) := let ⟨_, a, b⟩ := T.heap; He.glo_ok a b (T.c.test 86)
theorem Txt.g_Unlike (T : Txt P K mg) : mg "Unlike" = some (.ref (He.ga K "Unlike")) := let ⟨_, a, b⟩ := T.heap; He.glo_ok a b (T.c.test 87)
theorem Txt.g_TinkerError (T : Txt P K mg) : mg "TinkerError" = some (.ref (He.ga K "TinkerError")) := let ⟨_, a, b⟩ := T.heap; He.glo_ok a b (T.c.test 88)
theorem Txt.x_BadSigns_BadSigns (T : Txt P K mg) : PySem.W.exmOne K (.ref (e_BadSigns.C K)) (.ref (He.ga K "BadSigns")) = some true := He.exm_ok (T.c.test 89)
theorem Txt.x_BadSigns_TinkerError (T : Txt P K mg) : PySem.W.exmOne K (.ref (e_BadSigns.C K)) (.ref (He.ga K "TinkerError")) = some true := He.exm_ok (T.c.test 90)
theorem Txt.x_BadSigns_TooMany (T : Txt P K mg) : PySem.W.exmOne K (.ref (e_BadSigns.C K)) (.ref (He.ga K "TooMany")) = some false := He.exm_ok (T.c.test 91)
theorem Txt.x_BadSigns_Twice (T : Txt P K mg) : PySem.W.exmOne K (.ref (e_BadSigns.C K)) (.ref (He.ga K "Twice")) = some false := He.exm_ok (T.c.test 92)
theorem Txt.x_BadSigns_Unknown (T : Txt P K mg) : PySem.W.exmOne K (.ref (e_BadSigns.C K)) (.ref (He.ga K "Unknown")) = some false := He.exm_ok (T.c.test 93)
theorem Txt.x_BadSigns_Unlike (T : Txt P K mg) : PySem.W.exmOne K (.ref (e_BadSigns.C K)) (.ref (He.ga K "Unlike")) = some false := He.exm_ok (T.c.test 94)
theorem Txt.x_BadName_BadSigns (T : Txt P K mg) : PySem.W.exmOne K (.ref (e_BadName.C K)) (.ref (He.ga K "BadSigns")) = some false := He.exm_ok (T.c.test 95)
theorem Txt.x_BadName_TinkerError (T : Txt P K mg) : PySem.W.exmOne K (.ref (e_BadName.C K)) (.ref (He.ga K "TinkerError")) = some true := He.exm_ok (T.c.test 96)
theorem Txt.x_BadName_TooMany (T : Txt P K mg) : PySem.W.exmOne K (.ref (e_BadName.C K)) (.ref (He.ga K "TooMany")) = some false := He.exm_ok (T.c.test 97)
theorem Txt.x_BadName_Twice (T : Txt P K mg) : PySem.W.exmOne K (.ref (e_BadName.C K)) (.ref (He.ga K "Twice")) = some false := He.exm_ok (T.c.test 98)
theorem Txt.x_BadName_Unknown (T : Txt P K mg) : PySem.W.exmOne K (.ref (e_BadName.C K)) (.ref (He.ga K "Unknown")) = some false := He.exm_ok (T.c.test 99)
theorem Txt.x_BadName_Unlike (T : Txt P K mg) : PySem.W.exmOne K (.ref (e_BadName.C K)) (.ref (He.ga K "Unlike")) = some false := He.exm_ok (T.c.test 100)
theorem Txt.x_BadKind_BadSigns (T : Txt P K mg) : PySem.W.exmOne K (.ref (e_BadKind.C K)) (.ref (He.ga K "BadSigns")) = some false := He.exm_ok (T.c.test 101)
theorem Txt.x_BadKind_TinkerError (T : Txt P K mg) : PySem.W.exmOne K (.ref (e_BadKind.C K)) (.ref (He.ga K "TinkerError")) = some true := He.exm_ok (T.c.test 102)
theorem Txt.x_BadKind_TooMany (T : Txt P K mg) : PySem.W.exmOne K (.ref (e_BadKind.C K)) (.ref (He.ga K "TooMany")) = some false := He.exm_ok (T.c.test 103)
theorem Txt.x_BadKind_Twice (T : Txt P K mg) : PySem.W.exmOne K (.ref (e_BadKind.C K)) (.ref (He.ga K "Twice")) = some false := He.exm_ok (T.c.test 104)
theorem Txt.x_BadKind_Unknown (T : Txt P K mg) : PySem.W.exmOne K (.ref (e_BadKind.C K)) (.ref (He.ga K "Unknown")) = some false := He.exm_ok (T.c.test 105)
theorem Txt.x_BadKind_Unlike (T : Txt P K mg) : PySem.W.exmOne K (.ref (e_BadKind.C K)) (.ref (He.ga K "Unlike")) = some false := He.exm_ok (T.c.test 106)
theorem Txt.x_TooMany_BadSigns (T : Txt P K mg) : PySem.W.exmOne K (.ref (e_TooMany.C K)) (.ref (He.ga K "BadSigns")) = some false := He.exm_ok (T.c.test 107)
theorem Txt.x_TooMany_TinkerError (T : Txt P K mg) : PySem.W.exmOne K (.ref (e_TooMany.C K)) (.ref (He.ga K "TinkerError")) = some true := He.exm_ok (T.c.test 108)
theorem Txt.x_TooMany_TooMany (T : Txt P K mg) : PySem.W.exmOne K (.ref (e_TooMany.C K)) (.ref (He.ga K "TooMany")) = some true := He.exm_ok (T.c.test 109)
theorem Txt.x_TooMany_Twice (T : Txt P K mg) : PySem.W.exmOne K (.ref (e_TooMany.C K)) (.ref (He.ga K "Twice")) = some false := He.exm_ok (T.c.test 110)
theorem Txt.x_TooMany_Unknown (T : Txt P K mg) : PySem.W.exmOne K (.ref (e_TooMany.C K)) (.ref (He.ga K "Unknown")) = some false := He.exm_ok (T.c.test 111)
theorem Txt.x_TooMany_Unlike (T : Txt P K mg) : PySem.W.exmOne K (.ref (e_TooMany.C K)) (.ref (He.ga K "Unlike")) = some false := He.exm_ok (T.c.test 112)
theorem Txt.x_Twice_BadSigns (T : Txt P K mg) : PySem.W.exmOne K (.ref (e_Twice.C K)) (.ref (He.ga K "BadSigns")) = some false := He.exm_ok (T.c.test 113)
theorem Txt.x_Twice_TinkerError (T : Txt P K mg) : PySem.W.exmOne K (.ref (e_Twice.C K)) (.ref (He.ga K "TinkerError")) = some true := He.exm_ok (T.c.test 114)
theorem Txt.x_Twice_TooMany (T : Txt P K mg) : PySem.W.exmOne K (.ref (e_Twice.C K)) (.ref (He.ga K "TooMany")) = some false := He.exm_ok (T.c.test 115)
theorem Txt.x_Twice_Twice (T : Txt P K mg) : PySem.W.exmOne K (.ref (e_Twice.C K)) (.ref (He.ga K "Twice")) = some true := He.exm_ok (T.c.test 116)
theorem Txt.x_Twice_Unknown (T : Txt P K mg) : PySem.W.exmOne K (.ref (e_Twice.C K)) (.ref (He.ga K "Unknown")) = some false := He.exm_ok (T.c.test 117)
theorem Txt.x_Twice_Unlike (T : Txt P K mg) : PySem.W.exmOne K (.ref (e_Twice.C K)) (.ref (He.ga K "Unlike")) = some false := He.exm_ok (T.c.test 118)
theorem Txt.x_Unknown_BadSigns (T : Txt P K mg) : PySem.W.exmOne K (.ref (e_Unknown.C K)) (.ref (He.ga K "BadSigns")) = some false := He.exm_ok (T.c.test 119)
theorem Txt.x_Unknown_TinkerError (T : Txt P K mg) : PySem.W.exmOne K (.ref (e_Unknown.C K)) (.ref (He.ga K "TinkerError")) = some true := He.exm_ok (T.c.test 120)
theorem Txt.x_Unknown_TooMany (T : Txt P K mg) : PySem.W.exmOne K (.ref (e_Unknown.C K)) (.ref (He.ga K "TooMany")) = some false := He.exm_ok (T.c.test 121)
theorem Txt.x_Unknown_Twice (T : Txt P K mg) : PySem.W.exmOne K (.ref (e_Unknown.C K)) (.ref (He.ga K "Twice")) = some false := He.exm_ok (T.c.test 122)
theorem Txt.x_Unknown_Unknown (T : Txt P K mg) : PySem.W.exmOne K (.ref (e_Unknown.C K)) (.ref (He.ga K "Unknown")) = some true := He.exm_ok (T.c.test 123)
theorem Txt.x_Unknown_Unlike (T : Txt P K mg) : PySem.W.exmOne K (.ref (e_Unknown.C K)) (.ref (He.ga K "Unlike")) = some false := He.exm_ok (T.c.test 124)
theorem Txt.x_Unlike_BadSigns (T : Txt P K mg) : PySem.W.exmOne K (.ref (e_Unlike.C K)) (.ref (He.ga K "BadSigns")) = some false := He.exm_ok (T.c.test 125)
theorem Txt.x_Unlike_TinkerError (T : Txt P K mg) : PySem.W.exmOne K (.ref (e_Unlike.C K)) (.ref (He.ga K "TinkerError")) = some true := He.exm_ok (T.c.test 126)
theorem Txt.x_Unlike_TooMany (T : Txt P K mg) : PySem.W.exmOne K (.ref (e_Unlike.C K)) (.ref (He.ga K "TooMany")) = some false := He.exm_ok (T.c.test 127)
theorem Txt.x_Unlike_Twice (T : Txt P K mg) : PySem.W.exmOne K (.ref (e_Unlike.C K)) (.ref (He.ga K "Twice")) = some false := He.exm_ok (T.c.test 128)
theorem Txt.x_Unlike_Unknown (T : Txt P K mg) : PySem.W.exmOne K (.ref (e_Unlike.C K)) (.ref (He.ga K "Unknown")) = some false := He.exm_ok (T.c.test 129)
theorem Txt.x_Unlike_Unlike (T : Txt P K mg) : PySem.W.exmOne K (.ref (e_Unlike.C K)) (.ref (He.ga K "Unlike")) = some true := He.exm_ok (T.c.test 130)
theorem Txt.x_first (T : Txt P K mg) : (fun K => firstB K (He.ga K "Catalogue")) K = true := T.c.test 131
theorem Txt.x_noadd (T : Txt P K mg) : (fun K => noOpB K "add" (He.ga K "Kind")) K = true := T.c.test 132
theorem Txt.x_ne (T : Txt P K mg) : (fun K => decide (He.ga K "Catalogue" ≠ He.ga K "Kind")) K = true := T.c.test 133
theorem Txt.x_str (T : Txt P K mg) : (fun K => decide (PySem.W.subIn K (.type "str") (.ref (He.ga K "Catalogue")) = some false)) K = true := T.c.test 134
theorem Txt.x_isU (T : Txt P K mg) : (tIsE "Unknown") K = true := T.c.test 135
theorem Txt.x_ks (T : Txt P K mg) : (fun K => decide (PySem.W.kitOne K (.type "str") (.ref (He.ga K "Catalogue")) = some false)) K = true := T.c.test 136
theorem Txt.x_kv (T : Txt P K mg) : (fun K => decide (PySem.W.kitOne K (.ref (He.ga K "Unknown")) (.type "ValueError") = some true)) K = true := T.c.test 137
theorem Txt.x_kt (T : Txt P K mg) : (fun K => decide (PySem.W.kitOne K (.ref (He.ga K "Unknown")) (.ref (He.ga K "Twice")) = some false)) K = true := T.c.test 138
theorem Txt.x_em (T : Txt P K mg) : (fun K => emB K (He.dflAt ("Catalogue", some "__init__") 0 K)) K = true := T.c.test 139
theorem Txt.F_is_number (T : Txt P K mg) : ∃ fd, FunD K d_is_number.name d_is_number.qual (defArgs s_is_number) (defBody s_is_number) (defScope s_is_number) (d_is_number.dvs K) (d_is_number.kws K) (d_is_number.place K) fd := T.c.fun 0
theorem Txt.F_is_list (T : Txt P K mg) : ∃ fd, FunD K d_is_list.name d_is_list.qual (defArgs s_is_list) (defBody s_is_list) (defScope s_is_list) (d_is_list.dvs K) (d_is_list.kws K) (d_is_list.place K) fd := T.c.fun 1
theorem Txt.F_are_signs (T : Txt P K mg) : ∃ fd, FunD K d_are_signs.name d_are_signs.qual (defArgs s_are_signs) (defBody s_are_signs) (defScope s_are_signs) (d_are_signs.dvs K) (d_are_signs.kws K) (d_are_signs.place K) fd := T.c.fun 2
theorem Txt.F_are_different (T : Txt P K mg) : ∃ fd, FunD K d_are_different.name d_are_different.qual (defArgs s_are_different) (defBody s_are_different) (defScope s_are_different) (d_are_different.dvs K) (d_are_different.kws K) (d_are_different.place K) fd := T.c.fun 3
theorem Txt.F_is_name (T : Txt P K mg) : ∃ fd, FunD K d_is_name.name d_is_name.qual (defArgs s_is_name) (defBody s_is_name) (defScope s_is_name) (d_is_name.dvs K) (d_is_name.kws K) (d_is_name.place K) fd := T.c.fun 4
theorem Txt.F_Kind_init (T : Txt P K mg) : ∃ fd, FunD K d_Kind_init.name d_Kind_init.qual (defArgs s_Kind_init) (defBody s_Kind_init) (defScope s_Kind_init) (d_Kind_init.dvs K) (d_Kind_init.kws K) (d_Kind_init.place K) fd := T.c.fun 5
theorem Txt.F_Kind_keeps (T : Txt P K mg) : ∃ fd, FunD K d_Kind_keeps.name d_Kind_keeps.qual (defArgs s_Kind_keeps) (defBody s_Kind_keeps) (defScope s_Kind_keeps) (d_Kind_keeps.dvs K) (d_Kind_keeps.kws K) (d_Kind_keeps.place K) fd := T.c.fun 6
theorem Txt.F_Kind_len (T : Txt P K mg) : ∃ fd, FunD K d_Kind_len.name d_Kind_len.qual (defArgs s_Kind_len) (defBody s_Kind_len) (defScope s_Kind_len) (d_Kind_len.dvs K) (d_Kind_len.kws K) (d_Kind_len.place K) fd := T.c.fun 7
theorem Txt.F_Kind_eq (T : Txt P K mg) : ∃ fd, FunD K d_Kind_eq.name d_Kind_eq.qual (defArgs s_Kind_eq) (defBody s_Kind_eq) (defScope s_Kind_eq) (d_Kind_eq.dvs K) (d_Kind_eq.kws K) (d_Kind_eq.place K) fd := T.c.fun 8
theorem Txt.F_Kind_flees (T : Txt P K mg) : ∃ fd, FunD K d_Kind_flees.name d_Kind_flees.qual (defArgs s_Kind_flees) (defBody s_Kind_flees) (defScope s_Kind_flees) (d_Kind_flees.dvs K) (d_Kind_flees.kws K) (d_Kind_flees.place K) fd := T.c.fun 9
theorem Txt.F_Catalogue_init (T : Txt P K mg) : ∃ fd, FunD K d_Catalogue_init.name d_Catalogue_init.qual (defArgs s_Catalogue_init) (defBody s_Catalogue_init) (defScope s_Catalogue_init) (d_Catalogue_init.dvs K) (d_Catalogue_init.kws K) (d_Catalogue_init.place K) fd := T.c.fun 10
theorem Txt.F_Catalogue_getitem (T : Txt P K mg) : ∃ fd, FunD K d_Catalogue_getitem.name d_Catalogue_getitem.qual (defArgs s_Catalogue_getitem) (defBody s_Catalogue_getitem) (defScope s_Catalogue_getitem) (d_Catalogue_getitem.dvs K) (d_Catalogue_getitem.kws K) (d_Catalogue_getitem.place K) fd := T.c.fun 11
theorem Txt.F_Catalogue_contains (T : Txt P K mg) : ∃ fd, FunD K d_Catalogue_contains.name d_Catalogue_contains.qual (defArgs s_Catalogue_contains) (defBody s_Catalogue_contains) (defScope s_Catalogue_contains) (d_Catalogue_contains.dvs K) (d_Catalogue_contains.kws K) (d_Catalogue_contains.place K) fd := T.c.fun 12
theorem Txt.F_Catalogue_len (T : Txt P K mg) : ∃ fd, FunD K d_Catalogue_len.name d_Catalogue_len.qual (defArgs s_Catalogue_len) (defBody s_Catalogue_len) (defScope s_Catalogue_len) (d_Catalogue_len.dvs K) (d_Catalogue_len.kws K) (d_Catalogue_len.place K) fd := T.c.fun 13
theorem Txt.F_Catalogue_iter (T : Txt P K mg) : ∃ fd, FunD K d_Catalogue_iter.name d_Catalogue_iter.qual (defArgs s_Catalogue_iter) (defBody s_Catalogue_iter) (defScope s_Catalogue_iter) (d_Catalogue_iter.dvs K) (d_Catalogue_iter.kws K) (d_Catalogue_iter.place K) fd := T.c.fun 14
theorem Txt.F_Catalogue_eq (T : Txt P K mg) : ∃ fd, FunD K d_Catalogue_eq.name d_Catalogue_eq.qual (defArgs s_Catalogue_eq) (defBody s_Catalogue_eq) (defScope s_Catalogue_eq) (d_Catalogue_eq.dvs K) (d_Catalogue_eq.kws K) (d_Catalogue_eq.place K) fd := T.c.fun 15
theorem Txt.F_Catalogue_add (T : Txt P K mg) : ∃ fd, FunD K d_Catalogue_add.name d_Catalogue_add.qual (defArgs s_Catalogue_add) (defBody s_Catalogue_add) (defScope s_Catalogue_add) (d_Catalogue_add.dvs K) (d_Catalogue_add.kws K) (d_Catalogue_add.place K) fd := T.c.fun 16
theorem Txt.F_is_table (T : Txt P K mg) : ∃ fd, FunD K d_is_table.name d_is_table.qual (defArgs s_is_table) (defBody s_is_table) (defScope s_is_table) (d_is_table.dvs K) (d_is_table.kws K) (d_is_table.place K) fd := T.c.fun 17
theorem Txt.F_are_ways (T : Txt P K mg) : ∃ fd, FunD K d_are_ways.name d_are_ways.qual (defArgs s_are_ways) (defBody s_are_ways) (defScope s_are_ways) (d_are_ways.dvs K) (d_are_ways.kws K) (d_are_ways.place K) fd := T.c.fun 18
theorem Txt.F_is_way (T : Txt P K mg) : ∃ fd, FunD K d_is_way.name d_is_way.qual (defArgs s_is_way) (defBody s_is_way) (defScope s_is_way) (d_is_way.dvs K) (d_is_way.kws K) (d_is_way.place K) fd := T.c.fun 19
theorem Txt.F_law_bag_of (T : Txt P K mg) : ∃ fd, FunD K d_law_bag_of.name d_law_bag_of.qual (defArgs s_law_bag_of) (defBody s_law_bag_of) (defScope s_law_bag_of) (d_law_bag_of.dvs K) (d_law_bag_of.kws K) (d_law_bag_of.place K) fd := T.c.fun 20
theorem Txt.F_law_pick (T : Txt P K mg) : ∃ fd, FunD K d_law_pick.name d_law_pick.qual (defArgs s_law_pick) (defBody s_law_pick) (defScope s_law_pick) (d_law_pick.dvs K) (d_law_pick.kws K) (d_law_pick.place K) fd := T.c.fun 21
theorem Txt.F_law_choice (T : Txt P K mg) : ∃ fd, FunD K d_law_choice.name d_law_choice.qual (defArgs s_law_choice) (defBody s_law_choice) (defScope s_law_choice) (d_law_choice.dvs K) (d_law_choice.kws K) (d_law_choice.place K) fd := T.c.fun 22
theorem Txt.F_law_one_in (T : Txt P K mg) : ∃ fd, FunD K d_law_one_in.name d_law_one_in.qual (defArgs s_law_one_in) (defBody s_law_one_in) (defScope s_law_one_in) (d_law_one_in.dvs K) (d_law_one_in.kws K) (d_law_one_in.place K) fd := T.c.fun 23
theorem Txt.F_law_shuffled (T : Txt P K mg) : ∃ fd, FunD K d_law_shuffled.name d_law_shuffled.qual (defArgs s_law_shuffled) (defBody s_law_shuffled) (defScope s_law_shuffled) (d_law_shuffled.dvs K) (d_law_shuffled.kws K) (d_law_shuffled.place K) fd := T.c.fun 24
theorem Txt.F_law_integer (T : Txt P K mg) : ∃ fd, FunD K d_law_integer.name d_law_integer.qual (defArgs s_law_integer) (defBody s_law_integer) (defScope s_law_integer) (d_law_integer.dvs K) (d_law_integer.kws K) (d_law_integer.place K) fd := T.c.fun 25
theorem Txt.F_law_letters (T : Txt P K mg) : ∃ fd, FunD K d_law_letters.name d_law_letters.qual (defArgs s_law_letters) (defBody s_law_letters) (defScope s_law_letters) (d_law_letters.dvs K) (d_law_letters.kws K) (d_law_letters.place K) fd := T.c.fun 26
theorem Txt.F_law_reserved (T : Txt P K mg) : ∃ fd, FunD K d_law_reserved.name d_law_reserved.qual (defArgs s_law_reserved) (defBody s_law_reserved) (defScope s_law_reserved) (d_law_reserved.dvs K) (d_law_reserved.kws K) (d_law_reserved.place K) fd := T.c.fun 27
theorem Txt.F_law_names_of (T : Txt P K mg) : ∃ fd, FunD K d_law_names_of.name d_law_names_of.qual (defArgs s_law_names_of) (defBody s_law_names_of) (defScope s_law_names_of) (d_law_names_of.dvs K) (d_law_names_of.kws K) (d_law_names_of.place K) fd := T.c.fun 28
theorem Txt.F_law_table_of (T : Txt P K mg) : ∃ fd, FunD K d_law_table_of.name d_law_table_of.qual (defArgs s_law_table_of) (defBody s_law_table_of) (defScope s_law_table_of) (d_law_table_of.dvs K) (d_law_table_of.kws K) (d_law_table_of.place K) fd := T.c.fun 29
theorem Txt.F_law_way_table (T : Txt P K mg) : ∃ fd, FunD K d_law_way_table.name d_law_way_table.qual (defArgs s_law_way_table) (defBody s_law_way_table) (defScope s_law_way_table) (d_law_way_table.dvs K) (d_law_way_table.kws K) (d_law_way_table.place K) fd := T.c.fun 30
theorem Txt.F_law_kind_of (T : Txt P K mg) : ∃ fd, FunD K d_law_kind_of.name d_law_kind_of.qual (defArgs s_law_kind_of) (defBody s_law_kind_of) (defScope s_law_kind_of) (d_law_kind_of.dvs K) (d_law_kind_of.kws K) (d_law_kind_of.place K) fd := T.c.fun 31
theorem Txt.F_law_same (T : Txt P K mg) : ∃ fd, FunD K d_law_same.name d_law_same.qual (defArgs s_law_same) (defBody s_law_same) (defScope s_law_same) (d_law_same.dvs K) (d_law_same.kws K) (d_law_same.place K) fd := T.c.fun 32
theorem Txt.F_law_object (T : Txt P K mg) : ∃ fd, FunD K d_law_object.name d_law_object.qual (defArgs s_law_object) (defBody s_law_object) (defScope s_law_object) (d_law_object.dvs K) (d_law_object.kws K) (d_law_object.place K) fd := T.c.fun 33
theorem Txt.F_law_parts_of (T : Txt P K mg) : ∃ fd, FunD K d_law_parts_of.name d_law_parts_of.qual (defArgs s_law_parts_of) (defBody s_law_parts_of) (defScope s_law_parts_of) (d_law_parts_of.dvs K) (d_law_parts_of.kws K) (d_law_parts_of.place K) fd := T.c.fun 34
theorem Txt.F_law_item (T : Txt P K mg) : ∃ fd, FunD K d_law_item.name d_law_item.qual (defArgs s_law_item) (defBody s_law_item) (defScope s_law_item) (d_law_item.dvs K) (d_law_item.kws K) (d_law_item.place K) fd := T.c.fun 35
theorem Txt.F_law_told_of (T : Txt P K mg) : ∃ fd, FunD K d_law_told_of.name d_law_told_of.qual (defArgs s_law_told_of) (defBody s_law_told_of) (defScope s_law_told_of) (d_law_told_of.dvs K) (d_law_told_of.kws K) (d_law_told_of.place K) fd := T.c.fun 36
theorem Txt.F_law_added (T : Txt P K mg) : ∃ fd, FunD K d_law_added.name d_law_added.qual (defArgs s_law_added) (defBody s_law_added) (defScope s_law_added) (d_law_added.dvs K) (d_law_added.kws K) (d_law_added.place K) fd := T.c.fun 37
theorem Txt.F_law_at_once (T : Txt P K mg) : ∃ fd, FunD K d_law_at_once.name d_law_at_once.qual (defArgs s_law_at_once) (defBody s_law_at_once) (defScope s_law_at_once) (d_law_at_once.dvs K) (d_law_at_once.kws K) (d_law_at_once.place K) fd := T.c.fun 38
theorem Txt.F_law_due_of (T : Txt P K mg) : ∃ fd, FunD K d_law_due_of.name d_law_due_of.qual (defArgs s_law_due_of) (defBody s_law_due_of) (defScope s_law_due_of) (d_law_due_of.dvs K) (d_law_due_of.kws K) (d_law_due_of.place K) fd := T.c.fun 39
theorem Txt.F_law_new (T : Txt P K mg) : ∃ fd, FunD K d_law_new.name d_law_new.qual (defArgs s_law_new) (defBody s_law_new) (defScope s_law_new) (d_law_new.dvs K) (d_law_new.kws K) (d_law_new.place K) fd := T.c.fun 40
theorem Txt.F_law_side_of (T : Txt P K mg) : ∃ fd, FunD K d_law_side_of.name d_law_side_of.qual (defArgs s_law_side_of) (defBody s_law_side_of) (defScope s_law_side_of) (d_law_side_of.dvs K) (d_law_side_of.kws K) (d_law_side_of.place K) fd := T.c.fun 41
theorem Txt.F_law_turn_of (T : Txt P K mg) : ∃ fd, FunD K d_law_turn_of.name d_law_turn_of.qual (defArgs s_law_turn_of) (defBody s_law_turn_of) (defScope s_law_turn_of) (d_law_turn_of.dvs K) (d_law_turn_of.kws K) (d_law_turn_of.place K) fd := T.c.fun 42
theorem Txt.F_law_row_of (T : Txt P K mg) : ∃ fd, FunD K d_law_row_of.name d_law_row_of.qual (defArgs s_law_row_of) (defBody s_law_row_of) (defScope s_law_row_of) (d_law_row_of.dvs K) (d_law_row_of.kws K) (d_law_row_of.place K) fd := T.c.fun 43
theorem Txt.F_law_rows_told (T : Txt P K mg) : ∃ fd, FunD K d_law_rows_told.name d_law_rows_told.qual (defArgs s_law_rows_told) (defBody s_law_rows_told) (defScope s_law_rows_told) (d_law_rows_told.dvs K) (d_law_rows_told.kws K) (d_law_rows_told.place K) fd := T.c.fun 44
theorem Txt.F_law_equal_told (T : Txt P K mg) : ∃ fd, FunD K d_law_equal_told.name d_law_equal_told.qual (defArgs s_law_equal_told) (defBody s_law_equal_told) (defScope s_law_equal_told) (d_law_equal_told.dvs K) (d_law_equal_told.kws K) (d_law_equal_told.place K) fd := T.c.fun 45
theorem Txt.F_law (T : Txt P K mg) : ∃ fd, FunD K d_law.name d_law.qual (defArgs s_law) (defBody s_law) (defScope s_law) (d_law.dvs K) (d_law.kws K) (d_law.place K) fd := T.c.fun 46
theorem Txt.E_BadSigns (T : Txt P K mg) : ErrC P K e_BadSigns := T.c.err 0
theorem Txt.E_BadName (T : Txt P K mg) : ErrC P K e_BadName := T.c.err 1
theorem Txt.E_BadKind (T : Txt P K mg) : ErrC P K e_BadKind := T.c.err 2
theorem Txt.E_TooMany (T : Txt P K mg) : ErrC P K e_TooMany := T.c.err 3
theorem Txt.E_Twice (T : Txt P K mg) : ErrC P K e_Twice := T.c.err 4
theorem Txt.E_Unknown (T : Txt P K mg) : ErrC P K e_Unknown := T.c.err 5
theorem Txt.E_Unlike (T : Txt P K mg) : ErrC P K e_Unlike := T.c.err 6
end
end Tx

/-! ## Bag -/
set_option maxHeartbeats 4000000
/-! The bag that all draws come from. -/
namespace Tx
open PySem PySem.Spec PyProof.Rows L2 Gd
local macro_rules | `(tactic| walk_at "rd1") => `(tactic| first
  | ((with_reducible show tVar _ _ _ _); refine r_var (by rfl) ?_)
  | with_reducible refine r_c ?_
  | with_reducible refine r_seq ?_
  | with_reducible refine r_asg ?_
  | with_reducible refine r_name ?_
  | with_reducible refine r_op ?_
  | with_reducible refine r_I0 ?_
  | with_reducible refine r_cons ?_
  | with_reducible refine r_nil ?_
  | with_reducible refine r_call ?_
  | with_reducible refine r_ret ?_
  | with_reducible refine r_cb ?_
  | with_reducible refine r_ifS ?_
  | with_reducible refine r_test ?_
  | with_reducible refine r_bl ?_
  | with_reducible refine r_dget ?_
  | with_reducible refine r_dput ?_
  | ((with_reducible show (∃ k, [V.int _] = [V.int k] ∧ _) ∨ _); refine Or.inl ⟨_, rfl, ?_⟩)
  | with_reducible refine r_lcR ?_
  | with_reducible refine r_lcL ?_
  | with_reducible refine r_lcT ?_
  | with_reducible refine r_m1 ?_
  | with_reducible refine r_gSub ?_
  | with_reducible refine r_forR ?_
  | with_reducible refine r_forL ?_
  | with_reducible refine r_forT ?_
  | with_reducible refine r_bm ?_
  | with_reducible refine r_next ?_
  | with_reducible refine r_B ?_
  | with_reducible refine r_not ?_
  | with_reducible refine r_and ?_
  | with_reducible refine r_or ?_
  | with_reducible refine r_andV ?_
  | with_reducible refine r_orV ?_
  | with_reducible refine r_notV ?_
  | with_reducible refine r_ifE ?_
  | with_reducible refine r_drop ?_
  | with_reducible refine r_tup ?_
  | with_reducible refine r_lst ?_
  | with_reducible refine r_un ?_
  | with_reducible refine r_U ?_)
local macro_rules | `(tactic| walk_at "rd") => `(tactic| repeat walk_at "rd1")
abbrev kc : Key := .inr "cells"
abbrev ka : Key := .inr "at"
abbrev kr : Key := .inr "rest"
abbrev km : Key := .inr "mixed"
abbrev kn : Key := .inr "count"
def bagL (c : Addr) (a r m n : Int) : List (Key × V) := [(kc, .ref c), (ka, .int a), (kr, .int r), (km, .int m), (kn, .int n)]
theorem valV_cons {k k' : Key} {v : V} {l : List (Key × V)} : valV ((k', v) :: l) k = if k' = k then some v else valV l k := by
  unfold valV
  rw [List.find?_cons]
  by_cases h : k' = k
  · rw [if_pos h]; simp [h]
  · rw [if_neg h]; simp [h]
theorem n_ca : kc ≠ ka := by decide +kernel
theorem n_cr : kc ≠ kr := by decide +kernel
theorem n_cm : kc ≠ km := by decide +kernel
theorem n_cn : kc ≠ kn := by decide +kernel
theorem n_ar : ka ≠ kr := by decide +kernel
theorem n_am : ka ≠ km := by decide +kernel
theorem n_an : ka ≠ kn := by decide +kernel
theorem n_rm : kr ≠ km := by decide +kernel
theorem n_rn : kr ≠ kn := by decide +kernel
theorem n_mn : km ≠ kn := by decide +kernel
theorem s_ca : ¬ Str.ofString "cells" = Str.ofString "at" := by decide +kernel
theorem s_cr : ¬ Str.ofString "cells" = Str.ofString "rest" := by decide +kernel
theorem s_cm : ¬ Str.ofString "cells" = Str.ofString "mixed" := by decide +kernel
theorem s_cn : ¬ Str.ofString "cells" = Str.ofString "count" := by decide +kernel
theorem s_ac : ¬ Str.ofString "at" = Str.ofString "cells" := by decide +kernel
theorem s_ar : ¬ Str.ofString "at" = Str.ofString "rest" := by decide +kernel
theorem s_am : ¬ Str.ofString "at" = Str.ofString "mixed" := by decide +kernel
theorem s_an : ¬ Str.ofString "at" = Str.ofString "count" := by decide +kernel
theorem s_rc : ¬ Str.ofString "rest" = Str.ofString "cells" := by decide +kernel
theorem s_ra : ¬ Str.ofString "rest" = Str.ofString "at" := by decide +kernel
theorem s_rm : ¬ Str.ofString "rest" = Str.ofString "mixed" := by decide +kernel
theorem s_rn : ¬ Str.ofString "rest" = Str.ofString "count" := by decide +kernel
theorem s_mc : ¬ Str.ofString "mixed" = Str.ofString "cells" := by decide +kernel
theorem s_ma : ¬ Str.ofString "mixed" = Str.ofString "at" := by decide +kernel
theorem s_mr : ¬ Str.ofString "mixed" = Str.ofString "rest" := by decide +kernel
theorem s_mn : ¬ Str.ofString "mixed" = Str.ofString "count" := by decide +kernel
theorem s_nc : ¬ Str.ofString "count" = Str.ofString "cells" := by decide +kernel
theorem s_na : ¬ Str.ofString "count" = Str.ofString "at" := by decide +kernel
theorem s_nr : ¬ Str.ofString "count" = Str.ofString "rest" := by decide +kernel
theorem s_nm : ¬ Str.ofString "count" = Str.ofString "mixed" := by decide +kernel
section
variable {c : Addr} {a r m n : Int} {K : Frg} {H H' : Hp} {b : Addr}
theorem get_c : valV (bagL c a r m n) kc = some (.ref c) := by unfold bagL; rw [valV_cons, if_pos rfl]
theorem get_a : valV (bagL c a r m n) ka = some (.int a) := by unfold bagL; rw [valV_cons, if_neg n_ca, valV_cons, if_pos rfl]
theorem get_r : valV (bagL c a r m n) kr = some (.int r) := by unfold bagL; rw [valV_cons, if_neg n_cr, valV_cons, if_neg n_ar, valV_cons, if_pos rfl]
theorem get_m : valV (bagL c a r m n) km = some (.int m) := by unfold bagL; rw [valV_cons, if_neg n_cm, valV_cons, if_neg n_am, valV_cons, if_neg n_rm, valV_cons, if_pos rfl]
theorem get_n : valV (bagL c a r m n) kn = some (.int n) := by unfold bagL; rw [valV_cons, if_neg n_cn, valV_cons, if_neg n_an, valV_cons, if_neg n_rn, valV_cons, if_neg n_mn, valV_cons, if_pos rfl]
theorem put_a {y : Int} : putK (bagL c a r m n) ka (.int y) = bagL c y r m n := by
  simp [putK, bagL, s_ca, s_cr, s_cm, s_cn, s_ac, s_ar, s_am, s_an, s_rc, s_ra, s_rm, s_rn, s_mc, s_ma, s_mr, s_mn, s_nc, s_na, s_nr, s_nm]
theorem put_r {y : Int} : putK (bagL c a r m n) kr (.int y) = bagL c a y m n := by
  simp [putK, bagL, s_ca, s_cr, s_cm, s_cn, s_ac, s_ar, s_am, s_an, s_rc, s_ra, s_rm, s_rn, s_mc, s_ma, s_mr, s_mn, s_nc, s_na, s_nr, s_nm]
theorem put_m {y : Int} : putK (bagL c a r m n) km (.int y) = bagL c a r y n := by
  simp [putK, bagL, s_ca, s_cr, s_cm, s_cn, s_ac, s_ar, s_am, s_an, s_rc, s_ra, s_rm, s_rn, s_mc, s_ma, s_mr, s_mn, s_nc, s_na, s_nr, s_nm]
theorem put_n {y : Int} : putK (bagL c a r m n) kn (.int y) = bagL c a r m y := by
  simp [putK, bagL, s_ca, s_cr, s_cm, s_cn, s_ac, s_ar, s_am, s_an, s_rc, s_ra, s_rm, s_rn, s_mc, s_ma, s_mr, s_mn, s_nc, s_na, s_nr, s_nm]
end
/-- a bag: where it stands, where its cells stand, and these -/
structure Bag where
  b : Addr
  c : Addr
  cs : List Int
/-- the bag stands there -/
structure BagAt (K : Frg) (β : Bag) (H : Hp) : Prop where
  ex : ∃ (a r m n : Int), H β.b = some (.dK (bagL β.c a r m n)) ∧ 0 ≤ a
  cells : SqL K H β.c (β.cs.map V.int)
/-- all but the bag is as it was -/
structure Bg (K : Frg) (β : Bag) (H H' : Hp) : Prop where
  old : BagAt K β H
  bag : BagAt K β H'
  keep : ∀ a o, a ≠ β.b → H a = some o → H' a = some o
section
variable {K : Frg} {H H' H'' : Hp} {β : Bag}
theorem Rd.keep {b a : Addr} {u : HO} (k : ∀ a o, a ≠ b → H a = some o → H' a = some o) (h : Rd H a u) (hne : a ≠ b) : Rd H' a u := by
  rcases h with h | ⟨o, h⟩
  · exact .inl (k a _ hne h)
  · exact .inr ⟨o, k a _ hne h⟩
theorem bag_dK (h : BagAt K β H) : ∃ kvs, H β.b = some (.dK kvs) := by
  obtain ⟨x, r, m, n, e', _⟩ := h.ex
  exact ⟨_, e'⟩
theorem Bg.seq (e : Bg K β H H') {a : Addr} {xs : List V} (h : SqL K H a xs) : SqL K H' a xs := by
  obtain ⟨kvs, hb⟩ := bag_dK e.old
  rcases h with h | h
  · refine .inl (Rd.keep e.keep h ?_)
    rintro rfl
    rcases h with h | ⟨o, h⟩ <;> (rw [hb] at h; cases h)
  · exact .inr h
theorem Bg.tup (e : Bg K β H H') {a : Addr} {xs : List V} (h : SqT K H a xs) : SqT K H' a xs := by
  obtain ⟨kvs, hb⟩ := bag_dK e.old
  rcases h with h | h
  · refine .inl (Rd.keep e.keep h ?_)
    rintro rfl
    rcases h with h | ⟨o, h⟩ <;> (rw [hb] at h; cases h)
  · exact .inr h
theorem Bg.at_ (e : Bg K β H H') {a : Addr} {o : HO} (h : H a = some o) (n : ∀ kvs, o ≠ .dK kvs) : H' a = some o := by
  obtain ⟨kvs, hb⟩ := bag_dK e.old
  refine e.keep a o ?_ h
  rintro rfl
  rw [hb] at h
  exact n kvs (Option.some.inj h).symm
theorem Bg.refl (h : BagAt K β H) : Bg K β H H := ⟨h, h, fun _ _ _ e => e⟩
theorem Bg.trans (x : Bg K β H H') (y : Bg K β H' H'') : Bg K β H H'' := ⟨x.old, y.bag, fun a o hne e => y.keep a o hne (x.keep a o hne e)⟩
theorem BagAt.same (h : BagAt K β H) (k : Same H H') : BagAt K β H' := by
  obtain ⟨a, r, m, n, e, z⟩ := h.ex
  exact ⟨⟨a, r, m, n, k _ _ e, z⟩, Same.seq k h.cells⟩
theorem Bg.same (h : BagAt K β H) (k : Same H H') : Bg K β H H' := ⟨h, h.same k, fun a o _ e => k a o e⟩
theorem Same.upd {p : Addr} {o : HO} (h : H p = none) : Same H (L2.upd H p o) := fun a u e => by rw [upd_ne (ne_of_none e h)]; exact e
theorem Bg.new {p : Addr} {o : HO} (h : BagAt K β H) (n : H p = none) : Bg K β H (L2.upd H p o) := Bg.same h (Same.upd n)
/-- a thing that was not there at the start is changed -/
theorem Bg.mut {p : Addr} {o : HO} (e : Bg K β H H') (n : H p = none) : Bg K β H (L2.upd H' p o) := by
  obtain ⟨a, r, m, k, e1, z⟩ := e.bag.ex
  obtain ⟨kvs, hb⟩ := bag_dK e.old
  refine ⟨e.old, ⟨⟨a, r, m, k, ?_, z⟩, ?_⟩, fun x u hne h => ?_⟩
  · rw [upd_ne (ne_of_none hb n)]; exact e1
  · rcases e.old.cells with h | h
    · have hc : ∃ u, H β.c = some u := by rcases h with h | ⟨_, h⟩ <;> exact ⟨_, h⟩
      obtain ⟨u, hu⟩ := hc
      have hcp := ne_of_none hu n
      rcases e.bag.cells with q | q
      · refine .inl ?_
        rcases q with q | ⟨o', q⟩
        · exact .inl (by rw [upd_ne hcp]; exact q)
        · exact .inr ⟨o', by rw [upd_ne hcp]; exact q⟩
      · exact .inr q
    · exact .inr h
  · rw [upd_ne (ne_of_none h n)]
    exact e.keep x u hne h
theorem Bg.none (e : Bg K β H H') {p : Addr} (n : H' p = Option.none) : H p = Option.none := by
  cases q : H p with
  | none => rfl
  | some u =>
    by_cases h : p = β.b
    · subst h
      obtain ⟨kvs, hb⟩ := bag_dK e.bag
      rw [n] at hb; cases hb
    · rw [e.keep p u h q] at n; cases n
/-- the bag's own dict is changed -/
theorem Bg.put {a r m n a' r' m' n' : Int} (h : BagAt K β H) (e : H β.b = some (.dK (bagL β.c a r m n))) (z : 0 ≤ a') : Bg K β H (L2.upd H β.b (.dK (bagL β.c a' r' m' n'))) := by
  have keep : ∀ x o, x ≠ β.b → H x = some o → L2.upd H β.b (.dK (bagL β.c a' r' m' n')) x = some o := fun x o hne q => by rw [upd_ne hne]; exact q
  refine ⟨h, ⟨⟨a', r', m', n', upd_same, z⟩, ?_⟩, keep⟩
  rcases h.cells with q | q
  · refine .inl (Rd.keep keep q ?_)
    intro w
    rw [w] at q
    rcases q with q | ⟨o, q⟩ <;> (rw [e] at q; cases q)
  · exact .inr q
end
theorem DGet_k {H : Hp} {a : Addr} {kvs : List (Key × V)} {k : Str} {v : V} (e : H a = some (.dK kvs)) (g : valV kvs (.inr k) = some v) : DGet H a (.str k) (some v) := by
  have z := DGet.k (k := Sum.inr k) e
  rw [g] at z
  exact z
theorem DPut_k {H : Hp} {a : Addr} {c : Addr} {x r m n x' r' m' n' : Int} {k : Str} {v : V} (e : H a = some (.dK (bagL c x r m n))) (g : putK (bagL c x r m n) (.inr k) v = bagL c x' r' m' n') :
    DPut H a (.str k) v (L2.upd H a (.dK (bagL c x' r' m' n'))) := by
  have z := DPut.k (k := Sum.inr k) (v := v) e (by show 5 < sizeLine; decide)
  rw [g] at z
  exact z
theorem way_bag {K : Frg} {β : Bag} : Way (Bg K β) where
  trans := fun x y => x.trans y
  chg := fun x n => x.mut n
  sd := fun {A B} x a o s h => by
    refine x.at_ h ?_
    rintro kvs rfl
    exact s
  lst := fun x h => x.at_ h (by intro _ z; cases z)
  back := fun x h => x.none h
  seq := fun {K' A B a xs} x h => by
    rcases h with h | h
    · obtain ⟨kvs, hb⟩ := bag_dK x.old
      refine .inl (Rd.keep x.keep h ?_)
      rintro rfl
      rcases h with h | ⟨o, h⟩ <;> (rw [hb] at h; cases h)
    · exact .inr h
/-! ### what all draws promise -/
/-- a def that draws: from the bag and what `pre` asks, a value of which `post` speaks; all but the bag stands -/
def spDraw (K : Frg) {α : Type} (pre : α → List V → Hp → Prop) (post : α → Hp → V → Hp → Prop) : Sp := fun vs H Q _ =>
  ∃ (β : Bag) (x : α) (ws : List V), vs = .ref β.b :: ws ∧ BagAt K β H ∧ pre x ws H ∧ ∀ v H', Bg K β H H' → post x H v H' → Q v H'
def spPick (K : Frg) : Sp := spDraw K (fun (m : Int) ws _ => ws = [.int m] ∧ 0 < m ∧ m < 1073741824) fun m _ v _ => ∃ r, v = .int r ∧ 0 ≤ r ∧ r < m
section
variable {P : Program} {w : World} {K : Frg} {mg : Str → Option Value} {base : Heap}
theorem sc_law_pick : FnScope ["_law_bag", "_law_many", "_law_cell", "_law_number"] ["_law_bag", "_law_many"] (defScope s_law_pick) := ⟨rfl, rfl, rfl, by decide +kernel, rfl, by decide +kernel, by decide +kernel⟩
theorem ok_law_pick (T : Txt P K mg) : Ok P w K mg base 1 (He.ga K "_law_pick") ["_law_bag", "_law_many"] (spPick K) := by
  obtain ⟨fd, F⟩ := T.F_law_pick
  have b : Binds K fd ["_law_bag", "_law_many"] [] := F.bindsN fun _ _ _ _ _ _ us hl => match us, hl with | [_, _], _ => rfl
  refine ok_of F b sc_law_pick (fun vs H Q E h => ?_) (fun cdv A outer s H vs Q E hr h => ?_)
  · obtain ⟨β, m, ws, rfl, _, ⟨rfl, _⟩, _⟩ := h
    rfl
  · obtain ⟨β, m, ws, rfl, B, ⟨rfl, m0, m1⟩, k⟩ := h
    refine ⟨_, (pss_cons (ps_dput (hu_of hr) (pv 0) pe_str (pe_op op_add (pe_dget (hu_of hr) (pv 0) pe_str (fun _ _ => rfl)) pe_int) rfl)
  (pss_cons (ps_if (pt_cmpR op_gt (pe_dget (hu_of hr) (pv 0) pe_str (fun _ _ => rfl)) pe_int (by first | exact nomark _ | rfl)) (pss_cons (ps_set (i := 3) sc_law_pick.nd rfl (Or.inl rfl) (pe_dget (hu_of hr) (pv 0) pe_str (fun _ _ => rfl)))
  (pss_cons (ps_dput (hu_of hr) (pv 0) pe_str (pe_op op_fdiv (pv 3) (pv 1)) rfl)
  (pss_one (ps_ret (pe_op op_mod (pe_callTy call_int1 (by rfl) T.f_int (by decide +kernel) (pa_cons (pv 3) pa_nil)) (pv 1)))))) pss_nil)
  (pss_cons (ps_set (i := 2) sc_law_pick.nd rfl (Or.inl rfl) pe_int)
  (Evl.pss_cut (ps_if (pt_cmpR op_lt (pe_dget (hu_of hr) (pv 0) pe_str (fun _ _ => rfl)) (pe_callB call_len_seq (by rfl) T.f_len (by decide +kernel) (pa_cons (pe_dget (hu_of hr) (pv 0) pe_str (fun _ _ => rfl)) pa_nil)) (by first | exact nomark _ | rfl)) (pss_cons (ps_set (i := 2) sc_law_pick.nd rfl (Or.inl rfl) (pe_ix ix_list (pe_dget (hu_of hr) (pv 0) pe_str (fun _ _ => rfl)) (pe_dget (hu_of hr) (pv 0) pe_str (fun _ _ => rfl)) (fun _ _ => rfl)))
  (pss_cons (ps_dput (hu_of hr) (pv 0) pe_str (pe_op op_add (pe_dget (hu_of hr) (pv 0) pe_str (fun _ _ => rfl)) pe_int) rfl)
  (pss_one (ps_if (pt_cmpR op_ge (pv 2) (pe_op op_pow pe_int pe_int) (by first | exact nomark _ | rfl)) (pss_cons (ps_dput (hu_of hr) (pv 0) pe_str (pe_op op_fdiv (pv 2) (pv 1)) rfl)
  (pss_one (ps_ret (pe_op op_mod (pe_callTy call_int1 (by rfl) T.f_int (by decide +kernel) (pa_cons (pv 2) pa_nil)) (pv 1))))) pss_nil)))) pss_nil)
  (pss_cons (ps_set (i := 3) sc_law_pick.nd rfl (Or.inl rfl) (pe_op op_mod (pe_callTy call_int1 (by rfl) T.f_int (by decide +kernel) (pa_cons (pe_op op_add (pe_op op_add (pe_op op_mul (pv 2) pe_int) (pe_op op_mul (pe_dget (hu_of hr) (pv 0) pe_str (fun _ _ => rfl)) pe_int)) (pe_op op_mul (pe_dget (hu_of hr) (pv 0) pe_str (fun _ _ => rfl)) pe_int)) pa_nil)) pe_int))
  (pss_cons (ps_set (i := 3) sc_law_pick.nd rfl (Or.inl rfl) (pe_op op_mod (pe_callTy call_int1 (by rfl) T.f_int (by decide +kernel) (pa_cons (pe_op op_add (pe_op op_mul (pv 3) pe_int) pe_int) pa_nil)) pe_int))
  (pss_cons (ps_dput (hu_of hr) (pv 0) pe_str (pe_op op_mod (pe_callTy call_int1 (by rfl) T.f_int (by decide +kernel) (pa_cons (pv 3) pa_nil)) pe_int) rfl)
  (pss_one (ps_ret (pe_op op_mod (pe_callTy call_int1 (by rfl) T.f_int (by decide +kernel) (pa_cons (pe_op op_fdiv (pv 3) pe_int) pa_nil)) (pv 1))))))))))), ?_⟩
    obtain ⟨a, r, x, n, e, a0⟩ := B.ex
    -- count goes up
    walk_at "rd"
    refine r_dgot (DGet_k e get_n) ?_
    walk_at "rd"
    refine r_dputs (DPut_k e put_n) ?_
    have B1 := Bg.put B e (r' := r) (m' := x) (n' := n + 1) a0
    have e1 : upd H β.b (.dK (bagL β.c a r x (n + 1))) β.b = some (.dK (bagL β.c a r x (n + 1))) := upd_same
    generalize upd H β.b (.dK (bagL β.c a r x (n + 1))) = H1 at B1 e1 ⊢
    -- the rest of a great one
    walk_at "rd"
    refine r_dgot (DGet_k e1 get_r) ?_
    walk_at "rd"
    refine r_ifd (fun hr0 => ?_) (fun _ => ?_)
    · walk_at "rd"
      refine r_dgot (DGet_k e1 get_r) ?_
      walk_at "rd"
      refine r_I ⟨m0, m1⟩ ?_
      walk_at "rd"
      refine r_dputs (DPut_k e1 put_r) ?_
      walk_at "rd"
      refine r_I m0 ?_
      exact k _ _ (B1.trans (Bg.put B1.bag e1 a0)) ⟨_, rfl, Int.emod_nonneg _ (by omega), Int.emod_lt_of_pos _ m0⟩
    · walk_at "rd"
      -- behind it: the cell, and the bag
      refine ⟨fun σ' H' => ∃ (cell : Int) (o : Option V), σ' = [some (.ref β.b), some (.int m), some (.int cell), o] ∧ Bg K β H H', ?_, ?_⟩
      · walk_at "rd"
        refine r_dgot (DGet_k e1 get_a) ?_
        walk_at "rd"
        refine r_dgot (DGet_k e1 get_c) ?_
        walk_at "rd"
        refine ⟨_, _, rfl, .inl B1.bag.cells, ?_⟩
        walk_at "rd"
        refine r_ifd (fun hlt => ?_) (fun _ => ?_)
        · walk_at "rd"
          refine r_dgot (DGet_k e1 get_c) ?_
          walk_at "rd"
          refine r_dgot (DGet_k e1 get_a) ?_
          obtain ⟨j, rfl⟩ : ∃ j : Nat, a = (j : Int) := ⟨a.toNat, by omega⟩
          have hj : j < β.cs.length := by
            rw [List.length_map] at hlt
            omega
          refine r_ixL B1.bag.cells (at_of (j := j) (v := V.int β.cs[j]) rfl (by rw [List.getElem?_map, List.getElem?_eq_getElem hj]; rfl)) ?_
          walk_at "rd"
          refine r_dgot (DGet_k e1 get_a) ?_
          walk_at "rd"
          refine r_dputs (DPut_k e1 put_a) ?_
          have B2 := B1.trans (Bg.put B1.bag e1 (a' := (j : Int) + 1) (r' := r) (m' := x) (n' := n + 1) (by omega))
          have e2 : upd H1 β.b (.dK (bagL β.c ((j : Int) + 1) r x (n + 1))) β.b = some (.dK (bagL β.c ((j : Int) + 1) r x (n + 1))) := upd_same
          generalize upd H1 β.b (.dK (bagL β.c ((j : Int) + 1) r x (n + 1))) = H2 at B2 e2 ⊢
          walk_at "rd"
          refine r_I ⟨by decide, by decide, by decide⟩ ?_
          walk_at "rd"
          refine r_ifd (fun _ => ?_) (fun _ => ?_)
          · walk_at "rd"
            refine r_I ⟨m0, m1⟩ ?_
            walk_at "rd"
            refine r_dputs (DPut_k e2 put_r) ?_
            walk_at "rd"
            refine r_I m0 ?_
            exact k _ _ (B2.trans (Bg.put B2.bag e2 (by omega))) ⟨_, rfl, Int.emod_nonneg _ (by omega), Int.emod_lt_of_pos _ m0⟩
          · walk_at "rd"
            exact ⟨_, _, rfl, B2⟩
        · walk_at "rd"
          exact ⟨_, _, rfl, B1⟩
      · rintro σ' H2 ⟨cell, o, rfl, B2⟩
        obtain ⟨a, r, x, n, e2, a0⟩ := B2.bag.ex
        walk_at "rd"
        refine r_I (.inr (by decide)) ?_
        walk_at "rd"
        refine r_dgot (DGet_k e2 get_m) ?_
        walk_at "rd"
        refine r_I (.inr (by decide)) ?_
        walk_at "rd"
        refine r_dgot (DGet_k e2 get_n) ?_
        walk_at "rd"
        refine r_I (.inr (by decide)) ?_
        walk_at "rd"
        refine r_I (by decide) ?_
        walk_at "rd"
        refine r_I (.inr (by decide)) ?_
        walk_at "rd"
        refine r_I (by decide) ?_
        walk_at "rd"
        refine r_I (by decide) ?_
        walk_at "rd"
        refine r_dputs (DPut_k e2 put_m) ?_
        walk_at "rd"
        refine r_I ⟨by decide, by decide⟩ ?_
        walk_at "rd"
        refine r_I m0 ?_
        exact k _ _ (B2.trans (Bg.put B2.bag e2 a0)) ⟨_, rfl, Int.emod_nonneg _ (by omega), Int.emod_lt_of_pos _ m0⟩
end
end Tx

/-! ## Dr1 -/
set_option maxHeartbeats 4000000
/-! Draws: a choice, a letter, a word. -/
namespace Tx
open PySem PySem.Spec PyProof.Rows L2 Gd
local macro_rules | `(tactic| walk_at "rd1") => `(tactic| first
  | ((with_reducible show tVar _ _ _ _); refine r_var (by rfl) ?_)
  | with_reducible refine r_c ?_
  | with_reducible refine r_seq ?_
  | with_reducible refine r_asg ?_
  | with_reducible refine r_name ?_
  | with_reducible refine r_op ?_
  | with_reducible refine r_I0 ?_
  | with_reducible refine r_cons ?_
  | with_reducible refine r_nil ?_
  | with_reducible refine r_call ?_
  | with_reducible refine r_ret ?_
  | with_reducible refine r_cb ?_
  | with_reducible refine r_ifS ?_
  | with_reducible refine r_test ?_
  | with_reducible refine r_bl ?_
  | with_reducible refine r_dget ?_
  | with_reducible refine r_dput ?_
  | ((with_reducible show (∃ k, [V.int _] = [V.int k] ∧ _) ∨ _); refine Or.inl ⟨_, rfl, ?_⟩)
  | with_reducible refine r_lcR ?_
  | with_reducible refine r_lcL ?_
  | with_reducible refine r_lcT ?_
  | with_reducible refine r_m1 ?_
  | with_reducible refine r_gSub ?_
  | with_reducible refine r_forR ?_
  | with_reducible refine r_forL ?_
  | with_reducible refine r_forT ?_
  | with_reducible refine r_bm ?_
  | with_reducible refine r_next ?_
  | with_reducible refine r_B ?_
  | with_reducible refine r_not ?_
  | with_reducible refine r_and ?_
  | with_reducible refine r_or ?_
  | with_reducible refine r_andV ?_
  | with_reducible refine r_orV ?_
  | with_reducible refine r_notV ?_
  | with_reducible refine r_ifE ?_
  | with_reducible refine r_drop ?_
  | with_reducible refine r_tup ?_
  | with_reducible refine r_lst ?_
  | with_reducible refine r_un ?_
  | with_reducible refine r_U ?_)
local macro_rules | `(tactic| walk_at "rd") => `(tactic| repeat walk_at "rd1")
section
variable {K : Frg} {β : Bag} {H : Hp} {Q : VK} {E : XK} {m : Int} {a : Addr} {xs : List V}
theorem r_pick (B : BagAt K β H) (m0 : 0 < m) (m1 : m < 1073741824) (h : ∀ r H', Bg K β H H' → 0 ≤ r → r < m → Q (.int r) H') : spPick K ([.ref β.b, .int m] ++ []) H Q E :=
  ⟨β, m, [.int m], rfl, B, ⟨rfl, m0, m1⟩, by rintro v H' e ⟨r, rfl, h0, h1⟩; exact h r H' e h0 h1⟩
def spChoice (K : Frg) : Sp := spDraw K (fun (x : Addr × List V) ws H => ws = [.ref x.1] ∧ SqL K H x.1 x.2 ∧ 0 < x.2.length ∧ x.2.length ≤ 100000) fun x _ v _ => ∃ i : Nat, x.2[i]? = some v
theorem r_choice (B : BagAt K β H) (hs : SqL K H a xs) (n0 : 0 < xs.length) (n1 : xs.length ≤ 100000) (h : ∀ (i : Nat) v H', xs[i]? = some v → Bg K β H H' → Q v H') : spChoice K ([.ref β.b, .ref a] ++ []) H Q E :=
  ⟨β, (a, xs), [.ref a], rfl, B, ⟨rfl, hs, n0, n1⟩, by rintro v H' e ⟨i, hi⟩; exact h i v H' hi e⟩
def spOne (K : Frg) : Sp := spDraw K (fun (m : Int) ws _ => ws = [.int m] ∧ 0 < m ∧ m < 1073741824) fun _ _ v _ => ∃ b, v = .bl b
theorem r_one (B : BagAt K β H) (m0 : 0 < m) (m1 : m < 1073741824) (h : ∀ b H', Bg K β H H' → Q (.bl b) H') : spOne K ([.ref β.b, .int m] ++ []) H Q E :=
  ⟨β, m, [.int m], rfl, B, ⟨rfl, m0, m1⟩, by rintro v H' e ⟨b, rfl⟩; exact h b H' e⟩
/-- small letters -/
def Low (s : Str) : Prop := ∀ c ∈ s.cps.toList, 97 ≤ c ∧ c ≤ 122
def spLetters (K : Frg) : Sp := spDraw K (fun (m : Int) ws _ => ws = [.int m] ∧ 0 ≤ m ∧ m ≤ 1000) fun m _ v _ => ∃ s : Str, v = .str s ∧ (s.length : Int) = m ∧ Low s
theorem r_letters (B : BagAt K β H) (m0 : 0 ≤ m) (m1 : m ≤ 1000) (h : ∀ (s : Str) H', Bg K β H H' → (s.length : Int) = m → Low s → Q (.str s) H') : spLetters K ([.ref β.b, .int m] ++ []) H Q E :=
  ⟨β, m, [.int m], rfl, B, ⟨rfl, m0, m1⟩, by rintro v H' e ⟨s, rfl, l, w⟩; exact h s H' e l w⟩
theorem abc_len : (Str.ofString "abcdefghijklmnopqrstuvwxyz").cps.toList.length = 26 := by decide +kernel
theorem abc_low : ∀ c ∈ (Str.ofString "abcdefghijklmnopqrstuvwxyz").cps.toList, 97 ≤ c ∧ c ≤ 122 := by decide +kernel
theorem abc_at {r : Int} (h0 : 0 ≤ r) (h1 : r < 26) : ∃ c, atI (Str.ofString "abcdefghijklmnopqrstuvwxyz").cps.toList r = some c ∧ 97 ≤ c ∧ c ≤ 122 := by
  obtain ⟨j, rfl⟩ : ∃ j : Nat, r = (j : Int) := ⟨r.toNat, by omega⟩
  have hj : j < (Str.ofString "abcdefghijklmnopqrstuvwxyz").cps.toList.length := by rw [abc_len]; omega
  exact ⟨_, atI_nat (List.getElem?_eq_getElem hj), abc_low _ (List.getElem_mem hj)⟩
/-- one-sign texts joined by nothing -/
theorem tl_join0 : ∀ ys : List Str, (Txt.join Str.empty ys).cps.toList = (ys.map fun y => y.cps.toList).flatten := by
  intro ys
  rw [TL.join_eq]
  show TL.tl _ = _
  rw [TL.tl_join]
  show TL.joinL [] _ = _
  have go : ∀ l : List (List Nat), TL.joinL [] l = l.flatten := by
    intro l
    induction l with
    | nil => rfl
    | cons p r ih =>
      cases r with
      | nil => simp [TL.joinL]
      | cons q r => rw [TL.joinL, ih]; simp
  exact go _
theorem join_letters {n : Int} (hn : 0 ≤ n) : ∀ {ys : List V}, (ys.length : Int) = n → (∀ (i : Nat) y, ys[i]? = some y → ∃ c : Nat, y = .str ⟨#[c]⟩ ∧ 97 ≤ c ∧ c ≤ 122) →
    ∃ zs : List Str, ys = zs.map V.str ∧ (zs.map (·.length)).sum = ys.length ∧ ((Txt.join Str.empty zs).length : Int) = n ∧ Low (Txt.join Str.empty zs) := by
  intro ys hl hy
  have go : ∀ ys : List V, (∀ (i : Nat) y, ys[i]? = some y → ∃ c : Nat, y = .str ⟨#[c]⟩ ∧ 97 ≤ c ∧ c ≤ 122) →
      ∃ cs : List Nat, ys = cs.map (fun c => V.str ⟨#[c]⟩) ∧ ∀ c ∈ cs, 97 ≤ c ∧ c ≤ 122 := by
    intro ys
    induction ys with
    | nil => intro _; exact ⟨[], rfl, by simp⟩
    | cons y r ih =>
      intro h
      obtain ⟨c, rfl, hc⟩ := h 0 y rfl
      obtain ⟨cs, e, hcs⟩ := ih fun i z hz => h (i + 1) z (by simpa using hz)
      refine ⟨c :: cs, by rw [e]; rfl, fun d hd => ?_⟩
      rcases List.mem_cons.mp hd with rfl | hd
      · exact hc
      · exact hcs d hd
  obtain ⟨cs, rfl, hcs⟩ := go ys hy
  have fl : ∀ cs : List Nat, ((cs.map fun c => (⟨#[c]⟩ : Str)).map fun y => y.cps.toList).flatten = cs := by
    intro cs
    induction cs with
    | nil => rfl
    | cons c r ih =>
      simp only [List.map_cons, List.flatten_cons]
      rw [ih]
      rfl
  have ones : ∀ cs : List Nat, ((cs.map fun c => (⟨#[c]⟩ : Str)).map fun y => y.length).sum = cs.length := by
    intro cs
    induction cs with
    | nil => rfl
    | cons c r ih =>
      simp only [List.map_cons, List.sum_cons, List.length_cons]
      rw [ih]
      show 1 + r.length = r.length + 1
      omega
  have tl := (tl_join0 (cs.map fun c => (⟨#[c]⟩ : Str))).trans (fl cs)
  refine ⟨cs.map fun c => ⟨#[c]⟩, by rw [List.map_map]; rfl, by rw [ones, List.length_map], ?_, fun c hc => hcs c (by rw [tl] at hc; exact hc)⟩
  rw [TL.len_tl]
  show ((Txt.join Str.empty (cs.map fun c => (⟨#[c]⟩ : Str))).cps.toList.length : Int) = n
  rw [tl]
  rw [List.length_map] at hl
  exact hl
end
section
variable {P : Program} {w : World} {K : Frg} {mg : Str → Option Value} {base : Heap}
theorem sc_law_choice : FnScope ["_law_bag", "_law_things"] ["_law_bag", "_law_things"] (defScope s_law_choice) := ⟨rfl, rfl, rfl, by decide +kernel, rfl, by decide +kernel, by decide +kernel⟩
theorem ok_law_choice (T : Txt P K mg) : Ok P w K mg base 2 (He.ga K "_law_choice") ["_law_bag", "_law_things"] (spChoice K) := by
  obtain ⟨fd, F⟩ := T.F_law_choice
  have b : Binds K fd ["_law_bag", "_law_things"] [] := F.bindsN fun _ _ _ _ _ _ us hl => match us, hl with | [_, _], _ => rfl
  refine ok_of F b sc_law_choice (fun vs H Q E h => ?_) (fun cdv A outer s H vs Q E hr h => ?_)
  · obtain ⟨β, m, ws, rfl, _, ⟨rfl, _⟩, _⟩ := h
    rfl
  · obtain ⟨β, ⟨a, xs⟩, ws, rfl, B, ⟨rfl, hs, n0, n1⟩, k⟩ := h
    have hs : SqL K H a xs := hs
    have n0 : 0 < xs.length := n0
    have n1 : xs.length ≤ 100000 := n1
    refine ⟨_, (pss_one (ps_ret (pe_ix ix_list (pv 1) (pk (ok_law_pick T) hr rfl T.g_law_pick (pa_cons (pv 0) (pa_cons (pe_callB call_len_seq (by rfl) T.f_len (by decide +kernel) (pa_cons (pv 1) pa_nil)) pa_nil))) (fun _ _ => rfl)))), ?_⟩
    walk_at "rd"
    refine ⟨_, _, rfl, .inl hs, ?_⟩
    walk_at "rd"
    refine r_pick B (by omega) (by omega) fun r H1 e1 h0 h1 => ?_
    obtain ⟨j, rfl⟩ : ∃ j : Nat, r = (j : Int) := ⟨r.toNat, by omega⟩
    have hj : j < xs.length := by omega
    refine r_ixL (e1.seq hs) (atI_nat (List.getElem?_eq_getElem hj)) ?_
    exact k _ _ e1 ⟨j, List.getElem?_eq_getElem hj⟩
theorem sc_law_one_in : FnScope ["_law_bag", "_law_many"] ["_law_bag", "_law_many"] (defScope s_law_one_in) := ⟨rfl, rfl, rfl, by decide +kernel, rfl, by decide +kernel, by decide +kernel⟩
theorem ok_law_one_in (T : Txt P K mg) : Ok P w K mg base 2 (He.ga K "_law_one_in") ["_law_bag", "_law_many"] (spOne K) := by
  obtain ⟨fd, F⟩ := T.F_law_one_in
  have b : Binds K fd ["_law_bag", "_law_many"] [] := F.bindsN fun _ _ _ _ _ _ us hl => match us, hl with | [_, _], _ => rfl
  refine ok_of F b sc_law_one_in (fun vs H Q E h => ?_) (fun cdv A outer s H vs Q E hr h => ?_)
  · obtain ⟨β, m, ws, rfl, _, ⟨rfl, _⟩, _⟩ := h
    rfl
  · obtain ⟨β, m, ws, rfl, B, ⟨rfl, m0, m1⟩, k⟩ := h
    refine ⟨_, (pss_one (ps_ret (pe_cmpR op_eq (pk (ok_law_pick T) hr rfl T.g_law_pick (pa_cons (pv 0) (pa_cons (pv 1) pa_nil))) pe_int (by first | exact nomark _ | rfl)))), ?_⟩
    walk_at "rd"
    refine r_pick B m0 m1 fun r H1 e1 h0 h1 => ?_
    walk_at "rd"
    exact r_eq rfl (k _ _ e1 ⟨_, rfl⟩)
theorem sc_law_letters : FnScope ["_law_bag", "_law_many", "_law_k"] ["_law_bag", "_law_many"] (defScope s_law_letters) := ⟨rfl, rfl, rfl, by decide +kernel, rfl, by decide +kernel, by decide +kernel⟩
theorem ok_law_letters (T : Txt P K mg) : Ok P w K mg base 2 (He.ga K "_law_letters") ["_law_bag", "_law_many"] (spLetters K) := by
  obtain ⟨fd, F⟩ := T.F_law_letters
  have b : Binds K fd ["_law_bag", "_law_many"] [] := F.bindsN fun _ _ _ _ _ _ us hl => match us, hl with | [_, _], _ => rfl
  refine ok_of F b sc_law_letters (fun vs H Q E h => ?_) (fun cdv A outer s H vs Q E hr h => ?_)
  · obtain ⟨β, m, ws, rfl, _, ⟨rfl, _⟩, _⟩ := h
    rfl
  · obtain ⟨β, m, ws, rfl, B, ⟨rfl, m0, m1⟩, k⟩ := h
    refine ⟨_, (pss_one (ps_ret (pe_join pe_str (pe_lc (own := [("_law_k", 2)]) rfl sc_law_letters.nd (pi_range1 rfl T.f_range (pa_cons (pv 1) pa_nil)) (blkOk_by (own := [("_law_k", 2)]) (N := ["_law_bag", "_law_many", "_law_k"]) (sc := defScope s_law_letters) (by decide +kernel)) (fun _ _ _ _ _ => (pg_name (i := 2) sc_law_letters.nd rfl (Or.inl rfl))) (fun _ _ _ _ _ => pts_nil) (fun _ _ _ _ _ => (pe_ix ix_str pe_str (pk (ok_law_pick T) hr rfl T.g_law_pick (pa_cons (pv 0) (pa_cons pe_int pa_nil))) (fun _ _ => rfl))))))), ?_⟩
    walk_at "rd"
    refine ⟨⟨_, rfl⟩, ?_⟩
    walk_at "rd"
    refine lcR (P := fun _ v _ => ∃ c : Nat, v = .str ⟨#[c]⟩ ∧ 97 ≤ c ∧ c ≤ 122) way_bag (Bg.refl B) ⟨m0, by omega⟩ (fun _ _ _ _ _ p => p) (fun i H1 hi e1 Qe q => ?_) fun D H1 ys hD e1 hy hl hp => ?_
    · refine r_name ⟨rfl, ?_⟩
      walk_at "rd"
      refine r_pick e1.bag (by decide) (by decide) fun r H2 e2 h0 h1 => ?_
      obtain ⟨c, hc, c0, c1⟩ := abc_at h0 h1
      refine r_ixS (by decide +kernel) hc ?_
      exact q _ _ e2 ⟨c, rfl, c0, c1⟩
    · obtain ⟨zs, rfl, hsum, hlen, hlow⟩ := join_letters m0 (by omega) hp
      refine ⟨_, D, zs, rfl, rfl, .inl (SqL.of hy), ?_, ?_⟩
      · rw [hsum]
        show _ + _ * 0 ≤ _
        omega
      · exact k _ _ e1 ⟨_, rfl, hlen, hlow⟩
end
end Tx

/-! ## Dr2 -/
set_option maxHeartbeats 4000000
/-! Draws: names. -/
namespace Tx
open PySem PySem.Spec PyProof.Rows L2 Gd
local macro_rules | `(tactic| walk_at "rd1") => `(tactic| first
  | ((with_reducible show tVar _ _ _ _); refine r_var (by rfl) ?_)
  | with_reducible refine r_c ?_
  | with_reducible refine r_seq ?_
  | with_reducible refine r_asg ?_
  | with_reducible refine r_name ?_
  | with_reducible refine r_op ?_
  | with_reducible refine r_I0 ?_
  | with_reducible refine r_cons ?_
  | with_reducible refine r_nil ?_
  | with_reducible refine r_call ?_
  | with_reducible refine r_ret ?_
  | with_reducible refine r_cb ?_
  | with_reducible refine r_ifS ?_
  | with_reducible refine r_test ?_
  | with_reducible refine r_bl ?_
  | with_reducible refine r_dget ?_
  | with_reducible refine r_dput ?_
  | ((with_reducible show (∃ k, [V.int _] = [V.int k] ∧ _) ∨ _); refine Or.inl ⟨_, rfl, ?_⟩)
  | with_reducible refine r_lcR ?_
  | with_reducible refine r_lcL ?_
  | with_reducible refine r_lcT ?_
  | with_reducible refine r_m1 ?_
  | with_reducible refine r_gSub ?_
  | with_reducible refine r_forR ?_
  | with_reducible refine r_forL ?_
  | with_reducible refine r_forT ?_
  | with_reducible refine r_bm ?_
  | with_reducible refine r_next ?_
  | with_reducible refine r_B ?_
  | with_reducible refine r_not ?_
  | with_reducible refine r_and ?_
  | with_reducible refine r_or ?_
  | with_reducible refine r_andV ?_
  | with_reducible refine r_orV ?_
  | with_reducible refine r_notV ?_
  | with_reducible refine r_ifE ?_
  | with_reducible refine r_drop ?_
  | with_reducible refine r_tup ?_
  | with_reducible refine r_lst ?_
  | with_reducible refine r_un ?_
  | with_reducible refine r_U ?_)
local macro_rules | `(tactic| walk_at "rd") => `(tactic| repeat walk_at "rd1")
def wordsL : List Str := [Str.ofString "signs", Str.ofString "kind", Str.ofString "keeps", Str.ofString "table", Str.ofString "stands", Str.ofString "flees", Str.ofString "entry", Str.ofString "place", Str.ofString "from", Str.ofString "exit", Str.ofString "plan", Str.ofString "most", Str.ofString "come", Str.ofString "day", Str.ofString "build", Str.ofString "swap", Str.ofString "move", Str.ofString "back", Str.ofString "shelve", Str.ofString "scrap", Str.ofString "give", Str.ofString "take", Str.ofString "seen", Str.ofString "row", Str.ofString "sights", Str.ofString "told", Str.ofString "strike", Str.ofString "again", Str.ofString "test", Str.ofString "chapter", Str.ofString "look", Str.ofString "say", Str.ofString "if", Str.ofString "else", Str.ofString "end", Str.ofString "repeat", Str.ofString "leave", Str.ofString "call", Str.ofString "done", Str.ofString "quit", Str.ofString "any", Str.ofString "house", Str.ofString "customer"]
theorem words_len : wordsL.length = 43 := by rfl
/-- a good name -/
structure GoodN (s : Str) : Prop where
  lo : 1 ≤ s.length
  hi : s.length ≤ 8
  low : Low s
  no : s ∉ wordsL
/-- the name that stands in for the k-th -/
def abcL : List Nat := (Str.ofString "abcdefghijklmnopqrstuvwxyz").cps.toList
def zz (k : Nat) : Str := "zzzzzzz" ++ ⟨#[abcL.getD k 97]⟩
theorem zz_good : ∀ k, k < 26 → GoodN (zz k) := by
  have h : ∀ k, k < 26 → ((zz k).length = 8 ∧ (∀ c ∈ (zz k).cps.toList, 97 ≤ c ∧ c ≤ 122) ∧ zz k ∉ wordsL) := by decide +kernel
  intro k hk
  obtain ⟨a, b, c⟩ := h k hk
  exact ⟨by omega, by omega, b, c⟩
theorem zz_len : ∀ k, k < 26 → (zz k).length = 8 := by decide +kernel
theorem zz_inj : ∀ j, j < 26 → ∀ k, k < 26 → zz j = zz k → j = k := by decide +kernel
def spReserved : Sp := fun vs H Q _ => vs = [] ∧ ∀ p, H p = none → Q (.ref p) (upd H p (.lst (wordsL.map V.str)))
/-- some names, no two alike -/
structure Names (ns : List Str) : Prop where
  good : ∀ s ∈ ns, GoodN s
  nd : ns.Nodup
def spNames (K : Frg) : Sp := spDraw K (fun (m : Int) ws _ => ws = [.int m] ∧ 0 ≤ m ∧ m ≤ 26) fun m H v H' => ∃ (p : Addr) (ns : List Str), v = .ref p ∧ H p = none ∧ H' p = some (.lst (ns.map V.str)) ∧ (ns.length : Int) = m ∧ Names ns
theorem r_names {K : Frg} {β : Bag} {H : Hp} {Q : VK} {E : XK} {m : Int} (B : BagAt K β H) (m0 : 0 ≤ m) (m1 : m ≤ 26)
    (h : ∀ (p : Addr) (ns : List Str) H', Bg K β H H' → H p = none → H' p = some (.lst (ns.map V.str)) → (ns.length : Int) = m → Names ns → Q (.ref p) H') : spNames K ([.ref β.b, .int m] ++ []) H Q E :=
  ⟨β, m, [.int m], rfl, B, ⟨rfl, m0, m1⟩, by rintro v H' e ⟨p, ns, rfl, z, l, n, g⟩; exact h p ns H' e z l n g⟩
/-- what the loop keeps: the names so far -/
structure NmI (i : Nat) (ns : List Str) : Prop where
  len : ns.length = i
  names : Names ns
  from_ : ∀ s ∈ ns, s.length ≤ 6 ∨ ∃ j, j < i ∧ s = zz j
theorem NmI.drawn {i : Nat} {ns : List Str} {s : Str} (I : NmI i ns) (h1 : 1 ≤ s.length) (h6 : s.length ≤ 6) (hl : Low s) (hn : s ∉ wordsL ++ ns) : NmI (i + 1) (ns ++ [s]) := by
  rw [List.mem_append, not_or] at hn
  refine ⟨by rw [List.length_append, I.len]; rfl, ⟨fun t ht => ?_, ?_⟩, fun t ht => ?_⟩
  · rcases List.mem_append.mp ht with ht | ht
    · exact I.names.good t ht
    · rw [List.mem_singleton.mp ht]
      exact ⟨h1, by omega, hl, hn.1⟩
  · refine List.nodup_append.mpr ⟨I.names.nd, by simp, fun a ha b hb => ?_⟩
    rw [List.mem_singleton.mp hb]
    rintro rfl
    exact hn.2 ha
  · rcases List.mem_append.mp ht with ht | ht
    · rcases I.from_ t ht with q | ⟨j, hj, q⟩
      · exact .inl q
      · exact .inr ⟨j, by omega, q⟩
    · rw [List.mem_singleton.mp ht]
      exact .inl h6
theorem NmI.stand {i : Nat} {ns : List Str} (I : NmI i ns) (hi : i < 26) : NmI (i + 1) (ns ++ [zz i]) := by
  refine ⟨by rw [List.length_append, I.len]; rfl, ⟨fun t ht => ?_, ?_⟩, fun t ht => ?_⟩
  · rcases List.mem_append.mp ht with ht | ht
    · exact I.names.good t ht
    · rw [List.mem_singleton.mp ht]
      exact zz_good i hi
  · refine List.nodup_append.mpr ⟨I.names.nd, by simp, fun a ha b hb => ?_⟩
    rw [List.mem_singleton.mp hb]
    rintro rfl
    rcases I.from_ _ ha with q | ⟨j, hj, q⟩
    · rw [zz_len i hi] at q; omega
    · have := zz_inj i hi j (by omega) q
      omega
  · rcases List.mem_append.mp ht with ht | ht
    · rcases I.from_ t ht with q | ⟨j, hj, q⟩
      · exact .inl q
      · exact .inr ⟨j, by omega, q⟩
    · rw [List.mem_singleton.mp ht]
      exact .inr ⟨i, by omega, rfl⟩
section
variable {P : Program} {w : World} {K : Frg} {mg : Str → Option Value} {base : Heap}
theorem sc_law_reserved : FnScope ["_law_told"] [] (defScope s_law_reserved) := ⟨rfl, rfl, rfl, by decide +kernel, rfl, by decide +kernel, by decide +kernel⟩
theorem ok_law_reserved (T : Txt P K mg) : Ok P w K mg base 1 (He.ga K "_law_reserved") [] spReserved := by
  obtain ⟨fd, F⟩ := T.F_law_reserved
  have b : Binds K fd [] [] := F.bindsN fun _ _ _ _ _ _ us hl => match us, hl with | [], _ => rfl
  refine ok_of F b sc_law_reserved (fun vs H Q E h => ?_) (fun cdv A outer s H vs Q E hr h => ?_)
  · obtain ⟨rfl, _⟩ := h
    rfl
  · obtain ⟨rfl, k⟩ := h
    refine ⟨_, (pss_cons (ps_set (i := 0) sc_law_reserved.nd rfl (Or.inl rfl) pe_str)
  (pss_cons (ps_set (i := 0) sc_law_reserved.nd rfl (Or.inl rfl) (pe_op op_add_str (pv 0) pe_str))
  (pss_one (ps_ret (pe_split (pe_op op_add_str (pv 0) pe_str) pe_str))))), ?_⟩
    walk_at "rd"
    refine ⟨_, _, rfl, rfl, by decide +kernel, ?_⟩
    walk_at "rd"
    refine ⟨_, _, rfl, rfl, by decide +kernel, ?_⟩
    walk_at "rd"
    refine ⟨⟨_, rfl⟩, ?_⟩
    walk_at "rd"
    refine ⟨_, _, rfl, rfl, by decide +kernel, by decide +kernel, fun p hp => ?_⟩
    have e : Txt.split ((("signs kind keeps table stands flees entry place from exit plan most come day build swap move back " : Str) ++ "shelve scrap give take seen row sights told strike again test chapter look say if else end ") ++ "repeat leave call done quit any house customer") " " = wordsL := by decide +kernel
    rw [e]
    exact k p hp
theorem sc_law_names_of : FnScope ["_law_bag", "_law_many", "_law_taken", "_law_found", "_law_k", "_law_name"] ["_law_bag", "_law_many"] (defScope s_law_names_of) := ⟨rfl, rfl, rfl, by decide +kernel, rfl, by decide +kernel, by decide +kernel⟩
theorem ok_law_names_of (T : Txt P K mg) : Ok P w K mg base 3 (He.ga K "_law_names_of") ["_law_bag", "_law_many"] (spNames K) := by
  obtain ⟨fd, F⟩ := T.F_law_names_of
  have b : Binds K fd ["_law_bag", "_law_many"] [] := F.bindsN fun _ _ _ _ _ _ us hl => match us, hl with | [_, _], _ => rfl
  refine ok_of F b sc_law_names_of (fun vs H Q E h => ?_) (fun cdv A outer s H vs Q E hr h => ?_)
  · obtain ⟨β, m, ws, rfl, _, ⟨rfl, _⟩, _⟩ := h
    rfl
  · obtain ⟨β, m, ws, rfl, B, ⟨rfl, m0, m1⟩, k⟩ := h
    refine ⟨_, (pss_cons (ps_set (i := 2) sc_law_names_of.nd rfl (Or.inl rfl) (pk0 (ok_law_reserved T) hr rfl T.g_law_reserved))
  (pss_cons (ps_set (i := 3) sc_law_names_of.nd rfl (Or.inl rfl) (pe_lst pa_nil))
  (pss_cons (ps_for PassesOwn.never rfl (pi_range1 rfl T.f_range (pa_cons (pv 1) pa_nil)) (pg_name (i := 4) sc_law_names_of.nd rfl (Or.inl rfl)) (pss_cons (ps_set (i := 5) sc_law_names_of.nd rfl (Or.inl rfl) (pk (ok_law_letters T) hr rfl T.g_law_letters (pa_cons (pv 0) (pa_cons (pe_op op_add pe_int (pk (ok_law_pick T) hr rfl T.g_law_pick (pa_cons (pv 0) (pa_cons pe_int pa_nil)))) pa_nil))))
  (Evl.pss_cut (ps_if (pt_cmpR op_in_seq (pv 5) (pv 2) (by first | exact nomark _ | rfl)) (pss_one (ps_set (i := 5) sc_law_names_of.nd rfl (Or.inl rfl) (pe_op op_add_str pe_str (pe_ix ix_str pe_str (pv 4) (fun _ _ => rfl))))) pss_nil)
  (pss_cons (ps_expr (pe_bm PySem.F.plainAttrs_list PySem.F.slot_list_append PySem.F.type_list_append mt_append (pv 2) (pa_cons (pv 5) pa_nil)))
  (pss_one (ps_expr (pe_bm PySem.F.plainAttrs_list PySem.F.slot_list_append PySem.F.type_list_append mt_append (pv 3) (pa_cons (pv 5) pa_nil))))))))
  (pss_one (ps_ret (pv 3)))))), ?_⟩
    walk_at "rd"
    refine ⟨rfl, fun pT nT => ?_⟩
    walk_at "rd"
    refine ⟨by decide, fun pF nF => ?_⟩
    have nTF : pF ≠ pT := (ne_of_none upd_same nF).symm
    have nF0 : H pF = none := by rw [upd_ne nTF] at nF; exact nF
    have e0 : Bg K β H (upd (upd H pT (.lst (wordsL.map V.str))) pF (.lst [])) := (Bg.new B nT).mut nF0
    walk_at "rd"
    refine forR (fun i σ' H' => ∃ (ns : List Str) (o1 o2 : Option V), σ' = [some (.ref β.b), some (.int m), some (.ref pT), some (.ref pF), o1, o2] ∧ Bg K β H H' ∧
      H' pT = some (.lst ((wordsL ++ ns).map V.str)) ∧ H' pF = some (.lst (ns.map V.str)) ∧ NmI i ns) ⟨m0, by omega⟩
      ⟨[], none, none, rfl, e0, by rw [upd_ne nTF.symm, upd_same, List.append_nil], upd_same, ⟨rfl, ⟨by simp, by simp⟩, by simp⟩⟩ ?_ ?_
    · rintro i σ' H' hi ⟨ns, o1, o2, rfl, e1, hT, hF, I⟩
      walk_at "rd"
      refine r_pick e1.bag (by decide) (by decide) fun r H2 e2 r0 r1 => ?_
      walk_at "rd"
      refine r_letters e2.bag (by omega) (by omega) fun s H3 e3 sl sw => ?_
      walk_at "rd"
      have e4 := (e1.trans e2).trans e3
      have hT3 := (way_bag.lst (e2.trans e3) hT)
      have hF3 := (way_bag.lst (e2.trans e3) hF)
      -- the name that is taken
      refine ⟨fun σ' H' => ∃ t : Str, σ' = [some (.ref β.b), some (.int m), some (.ref pT), some (.ref pF), some (.int (i : Int)), some (.str t)] ∧ H' = H3 ∧ NmI (i + 1) (ns ++ [t]), ?_, ?_⟩
      · walk_at "rd"
        refine r_in (.inl (SqL.of hT3)) ?_
        walk_at "rd"
        refine r_ifd (fun _ => ?_) (fun hn => ?_)
        · walk_at "rd"
          have hi26 : i < 26 := by omega
          have hc : atI (Str.ofString "abcdefghijklmnopqrstuvwxyz").cps.toList (i : Int) = some (abcL.getD i 97) := by
            refine atI_nat ?_
            have hlt : i < abcL.length := by
              show i < (Str.ofString "abcdefghijklmnopqrstuvwxyz").cps.toList.length
              rw [abc_len]; exact hi26
            show abcL[i]? = _
            rw [List.getD_eq_getElem?_getD, List.getElem?_eq_getElem hlt]
            rfl
          refine r_ixS (by decide +kernel) hc ?_
          refine ⟨_, _, rfl, rfl, by show _ + 1 ≤ sizeLine; decide +kernel, ?_⟩
          walk_at "rd"
          exact ⟨zz i, rfl, rfl, I.stand hi26⟩
        · walk_at "rd"
          exact ⟨s, rfl, rfl, I.drawn (by omega) (by omega) sw hn⟩
      · rintro σ' H' ⟨t, rfl, rfl, I2⟩
        have hz : ns.length = i := I.len
        walk_at "rd"
        refine r_tyL hT3 ?_
        walk_at "rd"
        refine r_append hT3 (by rw [List.length_map, List.length_append, hz, words_len]; omega) ?_
        walk_at "rd"
        have hF4 : upd H' pT (.lst ((wordsL ++ ns).map V.str ++ [V.str t])) pF = some (.lst (ns.map V.str)) := by rw [upd_ne nTF]; exact hF3
        refine r_tyL hF4 ?_
        walk_at "rd"
        refine r_append hF4 (by rw [List.length_map, hz]; omega) ?_
        walk_at "rd"
        refine ⟨ns ++ [t], _, _, rfl, (e4.mut nT).mut nF0, ?_, ?_, I2⟩
        · rw [upd_ne nTF.symm, upd_same, ← List.append_assoc, List.map_append (l₂ := [t])]
          rfl
        · rw [upd_same, List.map_append]
          rfl
    · rintro σ' H' ⟨ns, o1, o2, rfl, e1, hT, hF, I⟩
      walk_at "rd"
      exact k _ _ e1 ⟨pF, ns, rfl, nF0, hF, by rw [I.len]; omega, I.names⟩
end
end Tx

/-! ## Dr3 -/
set_option maxHeartbeats 4000000
/-! Draws: tables. -/
namespace Tx
open PySem PySem.Spec PyProof.Rows L2 Gd
local macro_rules | `(tactic| walk_at "rd1") => `(tactic| first
  | ((with_reducible show tVar _ _ _ _); refine r_var (by rfl) ?_)
  | with_reducible refine r_c ?_
  | with_reducible refine r_seq ?_
  | with_reducible refine r_asg ?_
  | with_reducible refine r_name ?_
  | with_reducible refine r_op ?_
  | with_reducible refine r_I0 ?_
  | with_reducible refine r_cons ?_
  | with_reducible refine r_nil ?_
  | with_reducible refine r_call ?_
  | with_reducible refine r_ret ?_
  | with_reducible refine r_cb ?_
  | with_reducible refine r_ifS ?_
  | with_reducible refine r_test ?_
  | with_reducible refine r_bl ?_
  | with_reducible refine r_dget ?_
  | with_reducible refine r_dput ?_
  | ((with_reducible show (∃ k, [V.int _] = [V.int k] ∧ _) ∨ _); refine Or.inl ⟨_, rfl, ?_⟩)
  | with_reducible refine r_lcR ?_
  | with_reducible refine r_lcL ?_
  | with_reducible refine r_lcT ?_
  | with_reducible refine r_m1 ?_
  | with_reducible refine r_gSub ?_
  | with_reducible refine r_forR ?_
  | with_reducible refine r_forL ?_
  | with_reducible refine r_forT ?_
  | with_reducible refine r_bm ?_
  | with_reducible refine r_next ?_
  | with_reducible refine r_B ?_
  | with_reducible refine r_not ?_
  | with_reducible refine r_and ?_
  | with_reducible refine r_or ?_
  | with_reducible refine r_andV ?_
  | with_reducible refine r_orV ?_
  | with_reducible refine r_notV ?_
  | with_reducible refine r_ifE ?_
  | with_reducible refine r_drop ?_
  | with_reducible refine r_tup ?_
  | with_reducible refine r_lst ?_
  | with_reducible refine r_un ?_
  | with_reducible refine r_U ?_)
local macro_rules | `(tactic| walk_at "rd") => `(tactic| repeat walk_at "rd1")
/-- signs within bounds -/
def In (m : Int) (ts : List Int) : Prop := ∀ t ∈ ts, 0 ≤ t ∧ t < m
def spTable (K : Frg) : Sp := spDraw K (fun (x : Int × Int) ws _ => ws = [.int x.1, .int x.2] ∧ 0 < x.1 ∧ x.1 < 1000 ∧ 0 ≤ x.2 ∧ x.2 ≤ 1000) fun x _ v H' => ∃ ts, Dp K H' v (intsD ts) ∧ (ts.length : Int) = x.2 ∧ In x.1 ts
theorem r_table {K : Frg} {β : Bag} {H : Hp} {Q : VK} {E : XK} {m n : Int} (B : BagAt K β H) (m0 : 0 < m) (m1 : m < 1000) (n0 : 0 ≤ n) (n1 : n ≤ 1000)
    (h : ∀ v ts H', Bg K β H H' → Dp K H' v (intsD ts) → (ts.length : Int) = n → In m ts → Q v H') : spTable K ([.ref β.b, .int m, .int n] ++ []) H Q E :=
  ⟨β, (m, n), [.int m, .int n], rfl, B, ⟨rfl, m0, m1, n0, n1⟩, by rintro v H' e ⟨ts, l, n, g⟩; exact h v ts H' e l n g⟩
def spWayTable (K : Frg) : Sp := spDraw K (fun (x : Int × V × List Int) ws H => ws = [.int x.1, x.2.1] ∧ 1 < x.1 ∧ x.1 < 1000 ∧ Dp K H x.2.1 (intsD x.2.2) ∧ In x.1 x.2.2 ∧ 0 < x.2.2.length ∧ x.2.2.length ≤ 1000)
  fun x _ v H' => ∃ ts, Dp K H' v (intsD ts) ∧ ts.length = x.2.2.length ∧ In x.1 ts ∧ ts ≠ x.2.2
theorem r_wayTable {K : Frg} {β : Bag} {H : Hp} {Q : VK} {E : XK} {m : Int} {u : V} {us : List Int} (B : BagAt K β H) (m0 : 1 < m) (m1 : m < 1000) (hd : Dp K H u (intsD us)) (hin : In m us) (l0 : 0 < us.length) (l1 : us.length ≤ 1000)
    (h : ∀ v ts H', Bg K β H H' → Dp K H' v (intsD ts) → ts.length = us.length → In m ts → ts ≠ us → Q v H') : spWayTable K ([.ref β.b, .int m, u] ++ []) H Q E :=
  ⟨β, (m, u, us), [.int m, u], rfl, B, ⟨rfl, m0, m1, hd, hin, l0, l1⟩, by rintro v H' e ⟨ts, l, n, g, z⟩; exact h v ts H' e l n g z⟩
theorem in_rep {m r : Int} {n : Nat} (h0 : 0 ≤ r) (h1 : r < m) : In m (List.replicate n r) := fun t ht => by
  rw [List.eq_of_mem_replicate ht]
  exact ⟨h0, h1⟩
theorem flat_rep {n : Nat} {r : Int} : (List.replicate n [V.int r]).flatten = (List.replicate n r).map V.int := by
  induction n with
  | zero => rfl
  | succ n ih => rw [List.replicate_succ, List.flatten_cons, ih, List.replicate_succ]; rfl
theorem in_set {m r : Int} {ts : List Int} {j : Nat} (h : In m ts) (h0 : 0 ≤ r) (h1 : r < m) : In m (ts.set j r) := fun t ht => by
  rcases List.mem_or_eq_of_mem_set ht with z | z
  · exact h t z
  · rw [z]; exact ⟨h0, h1⟩
/-- the list that is being made: it was not there at the start -/
structure Mk1 (K : Frg) (β : Bag) (H : Hp) (m : Int) (n : Nat) (l : Addr) (fs : List Int) (H' : Hp) : Prop where
  bg : Bg K β H H'
  nw : H l = none
  at_ : H' l = some (.lst (fs.map V.int))
  len : fs.length = n
  in_ : In m fs
section
variable {P : Program} {w : World} {K : Frg} {mg : Str → Option Value} {base : Heap}
theorem sc_law_table_of : FnScope ["_law_bag", "_law_signs", "_law_size", "_law_way", "_law_k"] ["_law_bag", "_law_signs", "_law_size"] (defScope s_law_table_of) := ⟨rfl, rfl, rfl, by decide +kernel, rfl, by decide +kernel, by decide +kernel⟩
theorem ok_law_table_of (T : Txt P K mg) : Ok P w K mg base 2 (He.ga K "_law_table_of") ["_law_bag", "_law_signs", "_law_size"] (spTable K) := by
  obtain ⟨fd, F⟩ := T.F_law_table_of
  have b : Binds K fd ["_law_bag", "_law_signs", "_law_size"] [] := F.bindsN fun _ _ _ _ _ _ us hl => match us, hl with | [_, _, _], _ => rfl
  refine ok_of F b sc_law_table_of (fun vs H Q E h => ?_) (fun cdv A outer s H vs Q E hr h => ?_)
  · obtain ⟨β, x, ws, rfl, _, ⟨rfl, _⟩, _⟩ := h
    rfl
  · obtain ⟨β, ⟨m, n⟩, ws, rfl, B, ⟨rfl, m0, m1, n0, n1⟩, k⟩ := h
    have m0 : 0 < m := m0
    have m1 : m < 1000 := m1
    have n0 : 0 ≤ n := n0
    have n1 : n ≤ 1000 := n1
    refine ⟨_, (pss_cons (ps_set (i := 3) sc_law_table_of.nd rfl (Or.inr rfl) (pk (ok_law_pick T) hr rfl T.g_law_pick (pa_cons (pv 0) (pa_cons pe_int pa_nil))))
  (pss_cons (ps_if (pt_cmpR op_eq (pv 3) pe_int (by first | exact nomark _ | rfl)) (pss_one (ps_ret (pe_callTy call_tuple_of (by rfl) T.f_tuple (by decide +kernel) (pa_cons (pe_op op_rep (pe_lst (pa_cons (pk (ok_law_pick T) hr rfl T.g_law_pick (pa_cons (pv 0) (pa_cons (pv 1) pa_nil))) pa_nil)) (pv 2)) pa_nil)))) pss_nil)
  (pss_cons (ps_if (pt_cmpR op_eq (pv 3) pe_int (by first | exact nomark _ | rfl)) (pss_one (ps_ret (pe_callTy call_tuple_of (by rfl) T.f_tuple (by decide +kernel) (pa_cons (pe_lc (own := [("_law_k", 4)]) rfl sc_law_table_of.nd (pi_range1 rfl T.f_range (pa_cons (pv 2) pa_nil)) (blkOk_by (own := [("_law_k", 4)]) (N := ["_law_bag", "_law_signs", "_law_size", "_law_way", "_law_k"]) (sc := defScope s_law_table_of) (by decide +kernel)) (fun _ _ _ _ _ => (pg_name (i := 4) sc_law_table_of.nd rfl (Or.inl rfl))) (fun _ _ _ _ _ => pts_nil) (fun _ _ _ _ _ => (pe_op op_mod (pe_callTy call_int1 (by rfl) T.f_int (by decide +kernel) (pa_cons (pe_op op_add (pv 4) (pv 3)) pa_nil)) (pv 1)))) pa_nil)))) pss_nil)
  (pss_one (ps_ret (pe_callTy call_tuple_of (by rfl) T.f_tuple (by decide +kernel) (pa_cons (pe_lc (own := [("_law_k", 4)]) rfl sc_law_table_of.nd (pi_range1 rfl T.f_range (pa_cons (pv 2) pa_nil)) (blkOk_by (own := [("_law_k", 4)]) (N := ["_law_bag", "_law_signs", "_law_size", "_law_way", "_law_k"]) (sc := defScope s_law_table_of) (by decide +kernel)) (fun _ _ _ _ _ => (pg_name (i := 4) sc_law_table_of.nd rfl (Or.inl rfl))) (fun _ _ _ _ _ => pts_nil) (fun _ _ _ _ _ => (pk (ok_law_pick T) hr rfl T.g_law_pick (pa_cons (pv 0) (pa_cons (pv 1) pa_nil))))) pa_nil))))))), ?_⟩
    walk_at "rd"
    refine r_pick B (by decide) (by decide) fun r H1 e1 r0 r1 => ?_
    walk_at "rd"
    refine r_eq rfl ?_
    walk_at "rd"
    -- the end of each way
    have fin : ∀ (D : Addr) (H2 : Hp) (ys : List V), Bg K β H H2 → H2 D = some (.lst ys) → (ys.length : Int) = n → (∀ (i : Nat) y, ys[i]? = some y → ∃ r, y = V.int r ∧ 0 ≤ r ∧ r < m) →
        ∀ q, H2 q = none → Q (.ref q) (upd H2 q (.tup ys)) := by
      intro D H2 ys e2 hD hl hp q hq
      obtain ⟨ts, rfl, ht⟩ := ints_read hp
      refine k _ _ (e2.trans (Bg.new e2.bag hq)) ⟨ts, ints_of (SqT.of upd_same), ?_, ht⟩
      rw [List.length_map] at hl
      exact hl
    refine r_ifd (fun _ => ?_) (fun _ => ?_)
    · walk_at "rd"
      refine r_pick e1.bag m0 (by omega) fun s H2 e2 s0 s1 => ?_
      walk_at "rd"
      refine ⟨by show 1 ≤ sizeLine; decide, fun p hp => ?_⟩
      walk_at "rd"
      refine r_rep upd_same n0 (by omega) (by show 1 ≤ 100; decide) fun q hq => ?_
      walk_at "rd"
      refine ⟨_, _, rfl, .inl ⟨SqL.of upd_same, fun u hu => ?_⟩⟩
      have e3 : Bg K β H (upd H2 p (.lst [V.int s])) := ((e1.trans e2).trans (Bg.new e2.bag hp))
      have e4 := e3.trans (Bg.new (o := .lst (List.replicate n.toNat [V.int s]).flatten) e3.bag hq)
      refine fin q _ _ e4 upd_same ?_ ?_ u hu
      · rw [flat_rep, List.length_map, List.length_replicate]
        omega
      · intro i y hy
        rw [flat_rep, List.getElem?_map, List.getElem?_replicate] at hy
        split at hy
        · cases (show some (V.int s) = some y from hy)
          exact ⟨s, rfl, s0, s1⟩
        · cases hy
    · walk_at "rd"
      refine r_eq rfl ?_
      walk_at "rd"
      refine r_ifd (fun _ => ?_) (fun _ => ?_)
      · walk_at "rd"
        refine lcR (P := fun _ v _ => ∃ r, v = .int r ∧ 0 ≤ r ∧ r < m) way_bag (Bg.refl e1.bag) ⟨n0, by omega⟩ (fun _ _ _ _ _ p => p) (fun i H2 hi e2 Qe q => ?_) fun D H2 ys hD e2 hy hl hp => ?_
        · refine r_name ⟨rfl, ?_⟩
          walk_at "rd"
          refine r_I m0 ?_
          exact q _ _ (Bg.refl e2.bag) ⟨_, rfl, Int.emod_nonneg _ (by omega), Int.emod_lt_of_pos _ m0⟩
        · refine ⟨_, _, rfl, .inl ⟨SqL.of hy, fun u hu => ?_⟩⟩
          exact fin D _ _ (e1.trans e2) hy (by omega) hp u hu
      · walk_at "rd"
        refine lcR (P := fun _ v _ => ∃ r, v = .int r ∧ 0 ≤ r ∧ r < m) way_bag (Bg.refl e1.bag) ⟨n0, by omega⟩ (fun _ _ _ _ _ p => p) (fun i H2 hi e2 Qe q => ?_) fun D H2 ys hD e2 hy hl hp => ?_
        · refine r_name ⟨rfl, ?_⟩
          walk_at "rd"
          refine r_pick e2.bag m0 (by omega) fun s H3 e3 s0 s1 => ?_
          exact q _ _ e3 ⟨_, rfl, s0, s1⟩
        · refine ⟨_, _, rfl, .inl ⟨SqL.of hy, fun u hu => ?_⟩⟩
          exact fin D _ _ (e1.trans e2) hy (by omega) hp u hu
theorem sc_law_way_table : FnScope ["_law_bag", "_law_signs", "_law_table", "_law_way", "_law_found", "_law_spot", "_law_sign"] ["_law_bag", "_law_signs", "_law_table"] (defScope s_law_way_table) := ⟨rfl, rfl, rfl, by decide +kernel, rfl, by decide +kernel, by decide +kernel⟩
theorem ok_law_way_table (T : Txt P K mg) : Ok P w K mg base 2 (He.ga K "_law_way_table") ["_law_bag", "_law_signs", "_law_table"] (spWayTable K) := by
  obtain ⟨fd, F⟩ := T.F_law_way_table
  have b : Binds K fd ["_law_bag", "_law_signs", "_law_table"] [] := F.bindsN fun _ _ _ _ _ _ us hl => match us, hl with | [_, _, _], _ => rfl
  refine ok_of F b sc_law_way_table (fun vs H Q E h => ?_) (fun cdv A outer s H vs Q E hr h => ?_)
  · obtain ⟨β, x, ws, rfl, _, ⟨rfl, _⟩, _⟩ := h
    rfl
  · obtain ⟨β, ⟨m, u, us⟩, ws, rfl, B, ⟨rfl, m0, m1, hu, hin, l0, l1⟩, k⟩ := h
    have m0 : 1 < m := m0
    have m1 : m < 1000 := m1
    have hu : Dp K H u (intsD us) := hu
    have hin : In m us := hin
    have l0 : 0 < us.length := l0
    have l1 : us.length ≤ 1000 := l1
    obtain ⟨a, rfl, ha⟩ := ints_at hu
    refine ⟨_, (pss_cons (ps_set (i := 3) sc_law_way_table.nd rfl (Or.inl rfl) (pk (ok_law_pick T) hr rfl T.g_law_pick (pa_cons (pv 0) (pa_cons pe_int pa_nil))))
  (pss_cons (ps_setLc (i := 4) (own := [("_law_sign", 6)]) rfl sc_law_way_table.nd rfl rfl (sw_true rfl rfl rfl (by decide +kernel)) (pi_tup (pv 2)) (blkOk_by (own := [("_law_sign", 6)]) (N := ["_law_bag", "_law_signs", "_law_table", "_law_way", "_law_found", "_law_spot", "_law_sign"]) (sc := defScope s_law_way_table) (by decide +kernel)) (fun _ _ _ _ _ => (pg_name (i := 6) sc_law_way_table.nd rfl (Or.inl rfl))) (fun _ _ _ _ _ => pts_nil) (fun _ _ _ _ _ => (pv 6)))
  (Evl.pss_cut (ps_if (pt_cmpR op_eq (pv 3) pe_int (by first | exact nomark _ | rfl)) (pss_one (ps_set (i := 4) sc_law_way_table.nd rfl (Or.inl rfl) (pe_op op_rep (pe_lst (pa_cons (pk (ok_law_pick T) hr rfl T.g_law_pick (pa_cons (pv 0) (pa_cons (pv 1) pa_nil))) pa_nil)) (pe_callB call_len_seq (by rfl) T.f_len (by decide +kernel) (pa_cons (pv 2) pa_nil))))) pss_nil)
  (Evl.pss_cut (ps_if (pt_cmpR op_eq (pv 3) pe_int (by first | exact nomark _ | rfl)) (pss_cons (ps_set (i := 5) sc_law_way_table.nd rfl (Or.inl rfl) (pk (ok_law_pick T) hr rfl T.g_law_pick (pa_cons (pv 0) (pa_cons (pe_callB call_len_seq (by rfl) T.f_len (by decide +kernel) (pa_cons (pv 2) pa_nil)) pa_nil))))
  (pss_one (ps_asg (pe_op op_mod (pe_callTy call_int1 (by rfl) T.f_int (by decide +kernel) (pa_cons (pe_op op_add (pe_ix ix_list (pv 4) (pv 5) (fun _ _ => rfl)) pe_int) pa_nil)) (pv 1)) (pg_sub (pv 4) (pv 5) set_list)))) pss_nil)
  (Evl.pss_cut (ps_if (pt_cmpR op_eq (pv 3) pe_int (by first | exact nomark _ | rfl)) (pss_one (ps_setLc (i := 4) (own := [("_law_sign", 6)]) rfl sc_law_way_table.nd rfl rfl (sw_true rfl rfl rfl (by decide +kernel)) (pi_tup (pv 2)) (blkOk_by (own := [("_law_sign", 6)]) (N := ["_law_bag", "_law_signs", "_law_table", "_law_way", "_law_found", "_law_spot", "_law_sign"]) (sc := defScope s_law_way_table) (by decide +kernel)) (fun _ _ _ _ _ => (pg_name (i := 6) sc_law_way_table.nd rfl (Or.inl rfl))) (fun _ _ _ _ _ => pts_nil) (fun _ _ _ _ _ => (pe_op op_mod (pe_callTy call_int1 (by rfl) T.f_int (by decide +kernel) (pa_cons (pe_op op_add (pv 6) pe_int) pa_nil)) (pv 1))))) pss_nil)
  (Evl.pss_cut (ps_if (pt_cmpR op_eq (pv 3) pe_int (by first | exact nomark _ | rfl)) (pss_one (ps_setLc (i := 4) (own := [("_law_sign", 6)]) rfl sc_law_way_table.nd rfl rfl (sw_true rfl rfl rfl (by decide +kernel)) (pi_tup (pv 2)) (blkOk_by (own := [("_law_sign", 6)]) (N := ["_law_bag", "_law_signs", "_law_table", "_law_way", "_law_found", "_law_spot", "_law_sign"]) (sc := defScope s_law_way_table) (by decide +kernel)) (fun _ _ _ _ _ => (pg_name (i := 6) sc_law_way_table.nd rfl (Or.inl rfl))) (fun _ _ _ _ _ => pts_nil) (fun _ _ _ _ _ => (pk (ok_law_pick T) hr rfl T.g_law_pick (pa_cons (pv 0) (pa_cons (pv 1) pa_nil)))))) pss_nil)
  (Evl.pss_cut (ps_if (pt_cmpR (op_eqD hr.units) (pe_callTy call_tuple_of (by rfl) T.f_tuple (by decide +kernel) (pa_cons (pv 4) pa_nil)) (pv 2) (by first | exact nomark _ | rfl)) (pss_one (ps_asg (pe_op op_mod (pe_callTy call_int1 (by rfl) T.f_int (by decide +kernel) (pa_cons (pe_op op_add (pe_ix ix_list (pv 4) pe_int (fun _ _ => rfl)) pe_int) pa_nil)) (pv 1)) (pg_sub (pv 4) pe_int set_list))) pss_nil)
  (pss_one (ps_ret (pe_callTy call_tuple_of (by rfl) T.f_tuple (by decide +kernel) (pa_cons (pv 4) pa_nil))))))))))), ?_⟩
    walk_at "rd"
    refine r_pick B (by decide) (by decide) fun r H1 e1 r0 r1 => ?_
    walk_at "rd"
    -- a list that a comprehension over numbers has made
    have made : ∀ (H1 : Hp), Bg K β H H1 → ∀ (D : Addr) (H2 : Hp) (ys : List V), H1 D = none → Bg K β H1 H2 → H2 D = some (.lst ys) → ys.length = us.length → (∀ (i : Nat) y, ys[i]? = some y → ∃ r, y = V.int r ∧ 0 ≤ r ∧ r < m) →
        ∃ fs, Mk1 K β H m us.length D fs H2 := by
      intro H1 e1 D H2 ys nD e2 hD hl hp
      obtain ⟨ts, rfl, ht⟩ := ints_read hp
      exact ⟨ts, e1.trans e2, e1.none nD, hD, by rw [List.length_map] at hl; exact hl, ht⟩
    refine lcT (P := fun _ v _ => ∃ r, v = .int r ∧ 0 ≤ r ∧ r < m) way_bag (Bg.refl e1.bag) (e1.tup ha) (by rw [List.length_map]; omega) (fun _ _ _ _ _ p => p) (fun i x H2 hi e2 Qe q => ?_) fun D H2 ys hD e2 hy hl hp => ?_
    · rw [List.getElem?_map] at hi
      obtain ⟨t, ht, rfl⟩ := Option.map_eq_some_iff.mp hi
      refine r_name ⟨rfl, ?_⟩
      walk_at "rd"
      exact q _ _ (Bg.refl e2.bag) ⟨t, rfl, hin t (List.mem_of_getElem? ht)⟩
    rw [List.length_map] at hl
    obtain ⟨fs, M⟩ := made H1 e1 D H2 ys hD e2 hy hl hp
    walk_at "rd"
    refine ⟨fun σ' H' => ∃ l fs o1 o2, σ' = [some (.ref β.b), some (.int m), some (.ref a), some (.int r), some (.ref l), o1, o2] ∧ Mk1 K β H m us.length l fs H', ?_, ?_⟩
    · walk_at "rd"
      refine r_eq rfl ?_
      walk_at "rd"
      refine r_ifd (fun _ => ?_) (fun _ => ?_)
      · walk_at "rd"
        refine r_pick M.bg.bag (by omega) (by omega) fun s H3 e3 s0 s1 => ?_
        walk_at "rd"
        refine ⟨by show 1 ≤ sizeLine; decide, fun p hp => ?_⟩
        walk_at "rd"
        have e4 : Bg K β H (upd H3 p (.lst [V.int s])) := (M.bg.trans e3).trans (Bg.new e3.bag hp)
        refine ⟨_, _, rfl, .inr (e4.tup ha), ?_⟩
        rw [List.length_map]
        refine r_rep upd_same (by omega) (by omega) (by show 1 ≤ 100; decide) fun q hq => ?_
        walk_at "rd"
        refine ⟨q, List.replicate us.length s, _, _, rfl, ⟨e4.trans (Bg.new e4.bag hq), e4.none hq, ?_, List.length_replicate, in_rep s0 s1⟩⟩
        rw [upd_same, flat_rep, Int.toNat_natCast]
      · walk_at "rd"
        exact ⟨D, fs, _, _, rfl, M⟩
    rintro σ' H2 ⟨l, fs, o1, o2, rfl, M⟩
    refine ⟨fun σ' H' => ∃ l fs o1 o2, σ' = [some (.ref β.b), some (.int m), some (.ref a), some (.int r), some (.ref l), o1, o2] ∧ Mk1 K β H m us.length l fs H', ?_, ?_⟩
    · walk_at "rd"
      refine r_eq rfl ?_
      walk_at "rd"
      refine r_ifd (fun _ => ?_) (fun _ => ?_)
      · walk_at "rd"
        refine ⟨_, _, rfl, .inr (M.bg.tup ha), ?_⟩
        rw [List.length_map]
        walk_at "rd"
        refine r_pick M.bg.bag (by omega) (by omega) fun s H3 e3 s0 s1 => ?_
        obtain ⟨j, rfl⟩ : ∃ j : Nat, s = (j : Int) := ⟨s.toNat, by omega⟩
        have hj : j < fs.length := by rw [M.len]; omega
        have hl3 := way_bag.lst e3 M.at_
        walk_at "rd"
        refine r_ixL (SqL.of hl3) (atI_nat (by rw [List.getElem?_map, List.getElem?_eq_getElem hj]; rfl)) ?_
        walk_at "rd"
        refine r_I (by omega) ?_
        walk_at "rd"
        refine r_setL hl3 (by rw [List.length_map]; exact hj) ?_
        walk_at "rd"
        refine ⟨l, fs.set j ((fs[j] + 1) % m), _, _, rfl, ⟨(M.bg.trans e3).mut M.nw, M.nw, ?_, by rw [List.length_set]; exact M.len, in_set M.in_ (Int.emod_nonneg _ (by omega)) (Int.emod_lt_of_pos _ (by omega))⟩⟩
        rw [upd_same, List.map_set]
      · walk_at "rd"
        exact ⟨l, fs, _, _, rfl, M⟩
    rintro σ' H2 ⟨l, fs, o1, o2, rfl, M⟩
    refine ⟨fun σ' H' => ∃ l fs o1 o2, σ' = [some (.ref β.b), some (.int m), some (.ref a), some (.int r), some (.ref l), o1, o2] ∧ Mk1 K β H m us.length l fs H', ?_, ?_⟩
    · walk_at "rd"
      refine r_eq rfl ?_
      walk_at "rd"
      refine r_ifd (fun _ => ?_) (fun _ => ?_)
      · walk_at "rd"
        refine lcT (P := fun _ v _ => ∃ r, v = .int r ∧ 0 ≤ r ∧ r < m) way_bag (Bg.refl M.bg.bag) (M.bg.tup ha) (by rw [List.length_map]; omega) (fun _ _ _ _ _ p => p) (fun i x H3 hi e2 Qe q => ?_) fun D H3 ys hD e3 hy hl hp => ?_
        · rw [List.getElem?_map] at hi
          obtain ⟨t, ht, rfl⟩ := Option.map_eq_some_iff.mp hi
          refine r_name ⟨rfl, ?_⟩
          walk_at "rd"
          refine r_I (by omega) ?_
          exact q _ _ (Bg.refl e2.bag) ⟨_, rfl, Int.emod_nonneg _ (by omega), Int.emod_lt_of_pos _ (by omega)⟩
        · rw [List.length_map] at hl
          obtain ⟨fs, M⟩ := made H2 M.bg D H3 ys hD e3 hy hl hp
          walk_at "rd"
          exact ⟨D, fs, _, _, rfl, M⟩
      · walk_at "rd"
        exact ⟨l, fs, _, _, rfl, M⟩
    rintro σ' H2 ⟨l, fs, o1, o2, rfl, M⟩
    refine ⟨fun σ' H' => ∃ l fs o1 o2, σ' = [some (.ref β.b), some (.int m), some (.ref a), some (.int r), some (.ref l), o1, o2] ∧ Mk1 K β H m us.length l fs H', ?_, ?_⟩
    · walk_at "rd"
      refine r_eq rfl ?_
      walk_at "rd"
      refine r_ifd (fun _ => ?_) (fun _ => ?_)
      · walk_at "rd"
        refine lcT (P := fun _ v _ => ∃ r, v = .int r ∧ 0 ≤ r ∧ r < m) way_bag (Bg.refl M.bg.bag) (M.bg.tup ha) (by rw [List.length_map]; omega) (fun _ _ _ _ _ p => p) (fun i x H3 hi e2 Qe q => ?_) fun D H3 ys hD e3 hy hl hp => ?_
        · refine r_name ⟨rfl, ?_⟩
          walk_at "rd"
          refine r_pick e2.bag (by omega) (by omega) fun s H4 e4 s0 s1 => ?_
          exact q _ _ e4 ⟨_, rfl, s0, s1⟩
        · rw [List.length_map] at hl
          obtain ⟨fs, M⟩ := made H2 M.bg D H3 ys hD e3 hy hl hp
          walk_at "rd"
          exact ⟨D, fs, _, _, rfl, M⟩
      · walk_at "rd"
        exact ⟨l, fs, _, _, rfl, M⟩
    rintro σ' H2 ⟨l, fs, o1, o2, rfl, M⟩
    -- it is another one
    refine ⟨fun σ' H' => ∃ l fs o1 o2, σ' = [some (.ref β.b), some (.int m), some (.ref a), some (.int r), some (.ref l), o1, o2] ∧ Mk1 K β H m us.length l fs H' ∧ fs ≠ us, ?_, ?_⟩
    · walk_at "rd"
      refine ⟨_, _, rfl, .inl ⟨SqL.of M.at_, fun q hq => ?_⟩⟩
      have e3 : Bg K β H (upd H2 q (.tup (fs.map V.int))) := M.bg.trans (Bg.new M.bg.bag hq)
      walk_at "rd"
      refine r_eqD (ints_of (SqT.of upd_same)) (ints_of (e3.tup ha)) shaped_ints shaped_ints ?_
      rw [eqv_intsD]
      walk_at "rd"
      have M3 : Mk1 K β H m us.length l fs (upd H2 q (.tup (fs.map V.int))) := ⟨e3, M.nw, by rw [upd_ne (ne_of_none M.at_ hq)]; exact M.at_, M.len, M.in_⟩
      refine r_ifd (fun same => ?_) (fun other => ?_)
      · subst same
        obtain ⟨t, r', rfl⟩ : ∃ t r', fs = t :: r' := by
          cases fs with
          | nil => simp at l0
          | cons t r' => exact ⟨t, r', rfl⟩
        walk_at "rd"
        refine r_ixL (SqL.of M3.at_) (v := V.int t) (atI_nat (j := 0) (by rfl)) ?_
        walk_at "rd"
        refine r_I (by omega) ?_
        walk_at "rd"
        refine r_setL (j := 0) M3.at_ (by simp) ?_
        walk_at "rd"
        have t0 := hin t (List.mem_cons_self ..)
        refine ⟨l, ((t + 1) % m) :: r', _, _, rfl, ⟨M3.bg.mut M.nw, M.nw, by rw [upd_same]; rfl, rfl, ?_⟩, ?_⟩
        · intro z hz
          rcases List.mem_cons.mp hz with rfl | hz
          · exact ⟨Int.emod_nonneg _ (by omega), Int.emod_lt_of_pos _ (by omega)⟩
          · exact hin z (List.mem_cons_of_mem _ hz)
        · intro e
          have e1 : (t + 1) % m = t := (List.cons.inj e).1
          by_cases h : t + 1 < m
          · rw [Int.emod_eq_of_lt (by omega) h] at e1
            omega
          · have : t + 1 = m := by omega
            rw [this, Int.emod_self] at e1
            omega
      · walk_at "rd"
        exact ⟨l, fs, _, _, rfl, M3, other⟩
    rintro σ' H2 ⟨l, fs, o1, o2, rfl, M, other⟩
    walk_at "rd"
    refine ⟨_, _, rfl, .inl ⟨SqL.of M.at_, fun q hq => ?_⟩⟩
    exact k _ _ (M.bg.trans (Bg.new M.bg.bag hq)) ⟨fs, ints_of (SqT.of upd_same), M.len, M.in_, other⟩
end
end Tx

/-! ## Dr4 -/
set_option maxHeartbeats 4000000
/-! Draws: a kind. -/
namespace Tx
open PySem PySem.Spec PyProof.Rows L2 Gd
local macro_rules | `(tactic| walk_at "rd1") => `(tactic| first
  | ((with_reducible show tVar _ _ _ _); refine r_var (by rfl) ?_)
  | with_reducible refine r_c ?_
  | with_reducible refine r_seq ?_
  | with_reducible refine r_asg ?_
  | with_reducible refine r_name ?_
  | with_reducible refine r_op ?_
  | with_reducible refine r_I0 ?_
  | with_reducible refine r_cons ?_
  | with_reducible refine r_nil ?_
  | with_reducible refine r_call ?_
  | with_reducible refine r_ret ?_
  | with_reducible refine r_cb ?_
  | with_reducible refine r_ifS ?_
  | with_reducible refine r_test ?_
  | with_reducible refine r_bl ?_
  | with_reducible refine r_dget ?_
  | with_reducible refine r_dput ?_
  | ((with_reducible show (∃ k, [V.int _] = [V.int k] ∧ _) ∨ _); refine Or.inl ⟨_, rfl, ?_⟩)
  | with_reducible refine r_lcR ?_
  | with_reducible refine r_lcL ?_
  | with_reducible refine r_lcT ?_
  | with_reducible refine r_m1 ?_
  | with_reducible refine r_gSub ?_
  | with_reducible refine r_forR ?_
  | with_reducible refine r_forL ?_
  | with_reducible refine r_forT ?_
  | with_reducible refine r_bm ?_
  | with_reducible refine r_next ?_
  | with_reducible refine r_B ?_
  | with_reducible refine r_not ?_
  | with_reducible refine r_and ?_
  | with_reducible refine r_or ?_
  | with_reducible refine r_andV ?_
  | with_reducible refine r_orV ?_
  | with_reducible refine r_notV ?_
  | with_reducible refine r_ifE ?_
  | with_reducible refine r_drop ?_
  | with_reducible refine r_tup ?_
  | with_reducible refine r_lst ?_
  | with_reducible refine r_un ?_
  | with_reducible refine r_U ?_)
local macro_rules | `(tactic| walk_at "rd") => `(tactic| repeat walk_at "rd1")
theorem DpAll.append {K : Frg} {H : Hp} : ∀ {vs us : List V} {ds es : List PyData}, DpAll K H vs ds → DpAll K H us es → DpAll K H (vs ++ us) (ds ++ es)
  | _, _, _, _, .nil, h => h
  | _, _, _, _, .cons a b, h => .cons a (DpAll.append b h)
/-- a way, told -/
structure WD where
  word : Str
  name : Str
  table : List Int
def WD.data (w : WD) : PyData := .tuple [.str w.word, .str w.name, intsD w.table]
/-- a kind, told -/
structure KD where
  name : Str
  inputs : Nat
  table : List Int
  start : Option Int
  ways : List WD
  price : Int
def startD : Option Int → PyData
  | none => .none
  | some s => .int s
def startV : Option Int → V
  | none => .non
  | some s => .int s
def waysD (ws : List WD) : PyData := .tuple (ws.map WD.data)
def KD.data (k : KD) : PyData := .tuple [.str k.name, .int k.inputs, intsD k.table, startD k.start, waysD k.ways, .int k.price]
/-- how long a table is -/
def szOf (m : Int) (i : Nat) (b : Bool) : Int := m ^ i * (if b then m else 1)
def Mm (m : Int) : Prop := m = 2 ∨ m = 3
theorem sz_lo {m : Int} {i : Nat} {b : Bool} (hm : Mm m) (hi : i ≤ 2) : 0 < szOf m i b := by
  rcases hm with rfl | rfl <;> cases b <;> (rcases i with _ | _ | _ | i <;> first | decide | omega)
theorem sz_hi {m : Int} {i : Nat} {b : Bool} (hm : Mm m) (hi : i ≤ 2) : szOf m i b ≤ 27 := by
  rcases hm with rfl | rfl <;> cases b <;> (rcases i with _ | _ | _ | i <;> first | decide | omega)
/-- a good way of a kind -/
structure GoodW (m : Int) (table : List Int) (w : WD) : Prop where
  word : w.word = Str.ofString "stands" ∨ w.word = Str.ofString "flees"
  name : GoodN w.name
  len : w.table.length = table.length
  in_ : In m w.table
  ne : w.table ≠ table
structure GoodK (m : Int) (k : KD) : Prop where
  m_ : Mm m
  name : GoodN k.name
  inputs : k.inputs ≤ 2
  len : (k.table.length : Int) = szOf m k.inputs k.start.isSome
  in_ : In m k.table
  start : ∀ s, k.start = some s → 0 ≤ s ∧ s < m
  ways : ∀ w ∈ k.ways, GoodW m k.table w
  nd : (k.ways.map WD.name).Nodup
  most : k.ways.length ≤ 6
  p0 : 0 ≤ k.price
  p1 : k.price ≤ 600
theorem flat_wd (w : WD) : flatD w.data = true := by simp [WD.data, flatD, flatDs, flat_intsD]
theorem flat_wds (ws : List WD) : flatDs (ws.map WD.data) = true := by
  induction ws with
  | nil => simp [flatDs]
  | cons w r ih => rw [List.map_cons, flatDs, flat_wd, ih]; rfl
theorem flat_start (s : Option Int) : flatD (startD s) = true := by cases s <;> rfl
theorem flat_kd (k : KD) : flatD k.data = true := by
  simp [KD.data, waysD, flatD, flatDs, flat_intsD, flat_wds, flat_start]
theorem dp_start {K : Frg} {H : Hp} : ∀ s, Dp K H (startV s) (startD s)
  | none => .non
  | some s => .int s
theorem size_at {m : Int} {i : Nat} (hi : i ≤ 2) : atI [V.int 1, V.int m, V.int (m * m)] (i : Int) = some (V.int (m ^ i)) := by
  refine atI_nat ?_
  rcases i with _ | _ | _ | i
  · show some (V.int 1) = some (V.int (m ^ 0)); rw [Int.pow_zero]
  · show some (V.int m) = some (V.int (m ^ 1)); rw [Int.pow_succ, Int.pow_zero, Int.one_mul]
  · show some (V.int (m * m)) = some (V.int (m ^ 2)); rw [Int.pow_succ, Int.pow_succ, Int.pow_zero, Int.one_mul]
  · omega
/-- ways so far -/
structure WyI (m : Int) (table : List Int) (ns : List Str) (i : Nat) (ws : List WD) : Prop where
  len : ws.length = i
  names : ws.map WD.name = ns.take i
  good : ∀ w ∈ ws, GoodW m table w
def spKindOf (K : Frg) : Sp := spDraw K (fun (x : Int × Str × Nat × Bool × Nat) ws _ => ws = [.int x.1, .str x.2.1, .int x.2.2.1, .bl x.2.2.2.1, .int (x.2.2.2.2 : Int)] ∧ Mm x.1 ∧ GoodN x.2.1 ∧ x.2.2.1 ≤ 2 ∧ x.2.2.2.2 ≤ 6)
  fun x _ v H' => ∃ k : KD, Dp K H' v k.data ∧ GoodK x.1 k ∧ k.name = x.2.1
theorem r_kindOf {K : Frg} {β : Bag} {H : Hp} {Q : VK} {E : XK} {m : Int} {s : Str} {i : Nat} {b : Bool} (t : Nat) (B : BagAt K β H) (hm : Mm m) (hs : GoodN s) (hi : i ≤ 2) (htp : t ≤ 6)
    (h : ∀ v (k : KD) H', Bg K β H H' → Dp K H' v k.data → GoodK m k → k.name = s → Q v H') : spKindOf K ([.ref β.b, .int m, .str s, .int (i : Int), .bl b, .int (t : Int)] ++ []) H Q E :=
  ⟨β, (m, s, i, b, t), _, rfl, B, ⟨rfl, hm, hs, hi, htp⟩, by rintro v H' e ⟨k, l, n, g⟩; exact h v k H' e l n g⟩
section
variable {P : Program} {w : World} {K : Frg} {mg : Str → Option Value} {base : Heap}
theorem sc_law_kind_of : FnScope ["_law_bag", "_law_signs", "_law_name", "_law_inputs", "_law_keeps", "_law_top", "_law_size", "_law_first", "_law_table", "_law_told", "_law_way"] ["_law_bag", "_law_signs", "_law_name", "_law_inputs", "_law_keeps", "_law_top"] (defScope s_law_kind_of) := ⟨rfl, rfl, rfl, by decide +kernel, rfl, by decide +kernel, by decide +kernel⟩
theorem ok_law_kind_of (T : Txt P K mg) : Ok P w K mg base 4 (He.ga K "_law_kind_of") ["_law_bag", "_law_signs", "_law_name", "_law_inputs", "_law_keeps", "_law_top"] (spKindOf K) := by
  obtain ⟨fd, F⟩ := T.F_law_kind_of
  have b : Binds K fd ["_law_bag", "_law_signs", "_law_name", "_law_inputs", "_law_keeps", "_law_top"] [] := F.bindsN fun _ _ _ _ _ _ us hl => match us, hl with | [_, _, _, _, _, _], _ => rfl
  refine ok_of F b sc_law_kind_of (fun vs H Q E h => ?_) (fun cdv A outer s H vs Q E hr h => ?_)
  · obtain ⟨β, x, ws, rfl, _, ⟨rfl, _⟩, _⟩ := h
    rfl
  · obtain ⟨β, ⟨m, s, i, b, tp⟩, ws, rfl, B, ⟨rfl, hm, hs, hi, htp⟩, k⟩ := h
    have hm : Mm m := hm
    have hs : GoodN s := hs
    have hi : i ≤ 2 := hi
    have htp : tp ≤ 6 := htp
    have m2 : 2 ≤ m := by rcases hm with rfl | rfl <;> decide
    have m3 : m ≤ 3 := by rcases hm with rfl | rfl <;> decide
    dsimp only
    refine ⟨_, (pss_cons (ps_set (i := 6) sc_law_kind_of.nd rfl (Or.inl rfl) (pe_ix ix_list (pe_lst (pa_cons pe_int (pa_cons (pv 1) (pa_cons (pe_op op_mul (pv 1) (pv 1)) pa_nil)))) (pv 3) (fun _ _ => rfl)))
  (pss_cons (ps_set (i := 7) sc_law_kind_of.nd rfl (Or.inl rfl) pe_non)
  (Evl.pss_cut (ps_if (pt_val (pv 4)) (pss_cons (ps_set (i := 7) sc_law_kind_of.nd rfl (Or.inl rfl) (pk (ok_law_pick T) hr rfl T.g_law_pick (pa_cons (pv 0) (pa_cons (pv 1) pa_nil))))
  (pss_one (ps_set (i := 6) sc_law_kind_of.nd rfl (Or.inl rfl) (pe_op op_mul (pv 6) (pv 1))))) pss_nil)
  (pss_cons (ps_set (i := 8) sc_law_kind_of.nd rfl (Or.inl rfl) (pk (ok_law_table_of T) hr rfl T.g_law_table_of (pa_cons (pv 0) (pa_cons (pv 1) (pa_cons (pv 6) pa_nil)))))
  (pss_cons (ps_set (i := 9) sc_law_kind_of.nd rfl (Or.inl rfl) (pe_lst pa_nil))
  (pss_cons (ps_for PassesOwn.never rfl (pi_list (pk (ok_law_names_of T) hr rfl T.g_law_names_of (pa_cons (pv 0) (pa_cons (pk (ok_law_pick T) hr rfl T.g_law_pick (pa_cons (pv 0) (pa_cons (pe_op op_add (pv 5) pe_int) pa_nil))) pa_nil)))) (pg_name (i := 10) sc_law_kind_of.nd rfl (Or.inl rfl)) (pss_one (ps_expr (pe_bm PySem.F.plainAttrs_list PySem.F.slot_list_append PySem.F.type_list_append mt_append (pv 9) (pa_cons (pe_tup (pa_cons (pe_ix ix_list (pe_lst (pa_cons pe_str (pa_cons pe_str (pa_cons pe_str pa_nil)))) (pk (ok_law_pick T) hr rfl T.g_law_pick (pa_cons (pv 0) (pa_cons pe_int pa_nil))) (fun _ _ => rfl)) (pa_cons (pv 10) (pa_cons (pk (ok_law_way_table T) hr rfl T.g_law_way_table (pa_cons (pv 0) (pa_cons (pv 1) (pa_cons (pv 8) pa_nil)))) pa_nil)))) pa_nil)))))
  (pss_one (ps_ret (pe_tup (pa_cons (pv 2) (pa_cons (pv 3) (pa_cons (pv 8) (pa_cons (pv 7) (pa_cons (pe_callTy call_tuple_of (by rfl) T.f_tuple (by decide +kernel) (pa_cons (pv 9) pa_nil)) (pa_cons (pk (ok_law_choice T) hr rfl T.g_law_choice (pa_cons (pv 0) (pa_cons (pe_lst (pa_cons pe_int (pa_cons pe_int (pa_cons pe_int (pa_cons pe_int (pa_cons pe_int pa_nil)))))) pa_nil))) pa_nil))))))))))))))), ?_⟩
    walk_at "rd"
    refine r_I (.inl ⟨by omega, by omega⟩) ?_
    walk_at "rd"
    refine ⟨by show 3 ≤ sizeLine; decide, fun p hp => ?_⟩
    walk_at "rd"
    have e1 : Bg K β H (upd H p (.lst [V.int 1, V.int m, V.int (m * m)])) := Bg.new B hp
    refine r_ixL (SqL.of upd_same) (size_at hi) ?_
    walk_at "rd"
    -- with a start or without
    refine ⟨fun σ' H' => ∃ st : Option Int, σ' = [some (.ref β.b), some (.int m), some (.str s), some (.int i), some (.bl b), some (.int (tp : Int)), some (.int (szOf m i st.isSome)), some (startV st), none, none, none] ∧
      Bg K β H H' ∧ ∀ x, st = some x → 0 ≤ x ∧ x < m, ?_, ?_⟩
    · cases b with
      | true =>
        walk_at "rd"
        refine r_iT ?_
        walk_at "rd"
        refine r_pick e1.bag (by omega) (by omega) fun r H1 e2 r0 r1 => ?_
        walk_at "rd"
        refine r_I (.inr ⟨by omega, by omega⟩) ?_
        walk_at "rd"
        exact ⟨some r, rfl, e1.trans e2, fun x h => by cases h; exact ⟨r0, r1⟩⟩
      | false =>
        walk_at "rd"
        refine r_iF ?_
        walk_at "rd"
        exact ⟨none, by rw [szOf, Option.isSome_none, if_neg Bool.false_ne_true, Int.mul_one]; rfl, e1, fun x h => by cases h⟩
    rintro σ' H1 ⟨st, rfl, e2, hst⟩
    walk_at "rd"
    refine r_table e2.bag (by omega) (by omega) (Int.le_of_lt (sz_lo hm hi)) (Int.le_trans (sz_hi hm hi) (by decide)) fun tv ts H2 e3 ht hl hin => ?_
    obtain ⟨ta, rfl, hta⟩ := ints_at ht
    have e3 := e2.trans e3
    have l0 : 0 < ts.length := by have := sz_lo (b := st.isSome) hm hi; omega
    have l1 : ts.length ≤ 27 := by have := sz_hi (b := st.isSome) hm hi; omega
    walk_at "rd"
    refine ⟨by decide, fun l nl => ?_⟩
    have nl0 := e3.none nl
    have e4 : Bg K β H (upd H2 l (.lst [])) := e3.mut nl0
    have hta := (Bg.new (o := .lst []) e3.bag nl).tup hta
    walk_at "rd"
    refine r_pick e4.bag (by omega) (by omega) fun r H3 e5 r0 r1 => ?_
    have hL := way_bag.lst e5 (upd_same : upd H2 l (.lst []) l = _)
    have hta := e5.tup hta
    have e5 := e4.trans e5
    walk_at "rd"
    refine r_names e5.bag r0 (by omega) fun pn ns H4 e6 nn hn hnl N => ?_
    have npl : l ≠ pn := ne_of_none hL nn
    have hL := way_bag.lst e6 hL
    have hta := e6.tup hta
    have e6 := e5.trans e6
    walk_at "rd"
    refine forL (fun j σ' H' => ∃ (vs : List V) (wl : List WD) (o : Option V), σ' = [some (.ref β.b), some (.int m), some (.str s), some (.int i), some (.bl b), some (.int (tp : Int)), some (.int (szOf m i st.isSome)), some (startV st), some (.ref ta), some (.ref l), o] ∧
      Bg K β H H' ∧ H' l = some (.lst vs) ∧ DpAll K H' vs (wl.map WD.data) ∧ H' pn = some (.lst (ns.map V.str)) ∧ SqT K H' ta (ts.map V.int) ∧ WyI m ts ns j wl) (SqL.of hn)
      ⟨[], [], none, rfl, e6, hL, .nil, hn, hta, ⟨rfl, rfl, by simp⟩⟩ (fun j σ' H' _ p => ?_) ?_ ?_
    · obtain ⟨_, _, _, _, _, _, _, p, _⟩ := p
      exact SqL.of p
    · rintro j x σ' H5 hx ⟨vs, wl, o, rfl, e7, hL, hvs, hn, hta, I⟩
      rw [List.getElem?_map] at hx
      obtain ⟨nm, hnm, rfl⟩ := Option.map_eq_some_iff.mp hx
      have hj : j < ns.length := (List.getElem?_eq_some_iff.mp hnm).1
      walk_at "rd"
      refine r_tyL hL ?_
      walk_at "rd"
      refine ⟨by show 3 ≤ sizeLine; decide, fun q hq => ?_⟩
      walk_at "rd"
      have e8 : Bg K β H5 (upd H5 q (.lst [V.str (Str.ofString "stands"), V.str (Str.ofString "stands"), V.str (Str.ofString "flees")])) := Bg.new e7.bag hq
      refine r_pick e8.bag (by decide) (by decide) fun r H6 e9 r0 r1 => ?_
      obtain ⟨wd, hw, hwd⟩ : ∃ wd : Str, atI [V.str (Str.ofString "stands"), V.str (Str.ofString "stands"), V.str (Str.ofString "flees")] r = some (.str wd) ∧ (wd = Str.ofString "stands" ∨ wd = Str.ofString "flees") := by
        have : r = 0 ∨ r = 1 ∨ r = 2 := by omega
        rcases this with rfl | rfl | rfl
        · exact ⟨_, rfl, .inl rfl⟩
        · exact ⟨_, rfl, .inl rfl⟩
        · exact ⟨_, rfl, .inr rfl⟩
      refine r_ixL (SqL.of (way_bag.lst e9 upd_same)) hw ?_
      walk_at "rd"
      have e10 := e8.trans e9
      refine r_wayTable (us := ts) e10.bag (by omega) (by omega) (ints_of (e10.tup hta)) hin l0 (by omega) fun wv us H7 e11 hus hul huin hune => ?_
      have e12 := e10.trans e11
      walk_at "rd"
      refine ⟨by show 3 ≤ sizeLine; decide, fun p2 hp2 => ?_⟩
      have e13 : Bg K β H5 (upd H7 p2 (.tup [V.str wd, V.str nm, wv])) := e12.trans (Bg.new e12.bag hp2)
      have e13' : Bg K β H7 (upd H7 p2 (.tup [V.str wd, V.str nm, wv])) := Bg.new e12.bag hp2
      walk_at "rd"
      have hL2 := way_bag.lst e13 hL
      have hwl : wl.length = j := I.len
      have hvl : vs.length = wl.length := by rw [DpAll.len hvs, List.length_map]
      refine r_append hL2 (by omega) ?_
      walk_at "rd"
      have up := (way_bag.sd e13).trans (Sd.lst (o := .lst (vs ++ [.ref p2])) hL2)
      refine ⟨vs ++ [.ref p2], wl ++ [⟨wd, nm, us⟩], _, rfl, (e7.trans e13).mut nl0, upd_same, ?_, ?_, up.tup hta, ?_⟩
      · rw [List.map_append]
        refine Tx.DpAll.append (DpAll.sd up _ _ (flat_wds wl) hvs) (.cons ?_ .nil)
        refine Dp.sd (Sd.lst hL2) _ _ (flat_wd _) ?_
        exact .tup (SqT.of upd_same) (.cons (.str _) (.cons (.str _) (.cons (Dp.sd (way_bag.sd e13') _ _ flat_intsD hus) .nil)))
      · rw [upd_ne npl.symm]
        exact way_bag.lst e13 hn
      · refine ⟨by rw [List.length_append, hwl]; rfl, ?_, fun w hw => ?_⟩
        · rw [List.map_append, I.names, List.take_succ, hnm]
          rfl
        · rcases List.mem_append.mp hw with hw | hw
          · exact I.good w hw
          · rw [List.mem_singleton.mp hw]
            exact ⟨hwd, N.good nm (List.mem_of_getElem? hnm), hul, huin, hune⟩
    · rintro σ' H5 ⟨vs, wl, o, rfl, e7, hL, hvs, hn, hta, I⟩
      walk_at "rd"
      have hwl : wl.length = ns.length := by rw [I.len, List.length_map]
      have hnl6 : ns.length ≤ 6 := by omega
      refine ⟨_, _, rfl, .inl ⟨SqL.of hL, fun q hq => ?_⟩⟩
      have e8 : Bg K β H5 (upd H5 q (.tup vs)) := Bg.new e7.bag hq
      walk_at "rd"
      refine ⟨by show 5 ≤ sizeLine; decide, fun p2 hp2 => ?_⟩
      walk_at "rd"
      have e9 := e8.trans (Bg.new (o := .lst [V.int 0, V.int 1, V.int 5, V.int 37, V.int 600]) e8.bag hp2)
      refine r_choice e9.bag (SqL.of upd_same) (by decide) (by decide) fun j pv H6 hpv e10 => ?_
      obtain ⟨pr, rfl, p0, p1⟩ : ∃ pr : Int, pv = .int pr ∧ 0 ≤ pr ∧ pr ≤ 600 := by
        have := List.mem_of_getElem? hpv
        simp only [List.mem_cons, List.not_mem_nil, or_false] at this
        rcases this with rfl | rfl | rfl | rfl | rfl <;> exact ⟨_, rfl, by decide, by decide⟩
      walk_at "rd"
      refine ⟨by show 6 ≤ sizeLine; decide, fun p3 hp3 => ?_⟩
      have e11 := e9.trans e10
      have up := (way_bag.sd e11).trans (Sd.new (o := .tup [V.str s, V.int ↑i, V.ref ta, startV st, V.ref q, V.int pr]) hp3)
      have hq2 := (((Bg.new (o := .lst [V.int 0, V.int 1, V.int 5, V.int 37, V.int 600]) e8.bag hp2).trans e10).trans (Bg.new (o := .tup [V.str s, V.int ↑i, V.ref ta, startV st, V.ref q, V.int pr]) e11.bag hp3)).tup (SqT.of (upd_same : upd H5 q (.tup vs) q = _))
      refine k _ _ ((e7.trans e11).trans (Bg.new e11.bag hp3)) ⟨⟨s, i, ts, st, wl, pr⟩, ?_, ⟨hm, hs, hi, hl, hin, hst, I.good, ?_, by show wl.length ≤ 6; omega, p0, p1⟩, rfl⟩
      · refine .tup (SqT.of upd_same) (.cons (.str _) (.cons (.int _) (.cons (ints_of (up.tup hta)) (.cons (dp_start st) (.cons (.tup hq2 (DpAll.sd up _ _ (flat_wds wl) hvs)) (.cons (.int _) .nil))))))
      · show (wl.map WD.name).Nodup
        rw [I.names, List.length_map, List.take_of_length_le (Nat.le_refl _)]
        exact N.nd
end
end Tx

/-! ## Dr5 -/
set_option maxHeartbeats 4000000
/-! Draws: what is told of a catalogue; the bag. -/
namespace Tx
open PySem PySem.Spec PyProof.Rows L2 Gd
local macro_rules | `(tactic| walk_at "rd1") => `(tactic| first
  | ((with_reducible show tVar _ _ _ _); refine r_var (by rfl) ?_)
  | with_reducible refine r_c ?_
  | with_reducible refine r_seq ?_
  | with_reducible refine r_asg ?_
  | with_reducible refine r_name ?_
  | with_reducible refine r_op ?_
  | with_reducible refine r_I0 ?_
  | with_reducible refine r_cons ?_
  | with_reducible refine r_nil ?_
  | with_reducible refine r_call ?_
  | with_reducible refine r_ret ?_
  | with_reducible refine r_cb ?_
  | with_reducible refine r_ifS ?_
  | with_reducible refine r_test ?_
  | with_reducible refine r_bl ?_
  | with_reducible refine r_dget ?_
  | with_reducible refine r_dput ?_
  | ((with_reducible show (∃ k, [V.int _] = [V.int k] ∧ _) ∨ _); refine Or.inl ⟨_, rfl, ?_⟩)
  | with_reducible refine r_lcR ?_
  | with_reducible refine r_lcL ?_
  | with_reducible refine r_lcT ?_
  | with_reducible refine r_m1 ?_
  | with_reducible refine r_gSub ?_
  | with_reducible refine r_forR ?_
  | with_reducible refine r_forL ?_
  | with_reducible refine r_forT ?_
  | with_reducible refine r_bm ?_
  | with_reducible refine r_next ?_
  | with_reducible refine r_B ?_
  | with_reducible refine r_not ?_
  | with_reducible refine r_and ?_
  | with_reducible refine r_or ?_
  | with_reducible refine r_andV ?_
  | with_reducible refine r_orV ?_
  | with_reducible refine r_notV ?_
  | with_reducible refine r_ifE ?_
  | with_reducible refine r_drop ?_
  | with_reducible refine r_tup ?_
  | with_reducible refine r_lst ?_
  | with_reducible refine r_un ?_
  | with_reducible refine r_U ?_)
local macro_rules | `(tactic| walk_at "rd") => `(tactic| repeat walk_at "rd1")
abbrev kSg : Key := .inr "signs"
abbrev kKd : Key := .inr "kinds"
theorem n_sk : kSg ≠ kKd := by decide +kernel
def toldL (m : Int) (l : Addr) : List (Key × V) := [(kSg, .int m), (kKd, .ref l)]
theorem told_merge {m : Int} {l : Addr} : mergeK [] (toldL m l) = toldL m l := by
  have e : (("signs" : Str) = ("kinds" : Str)) = False := by simp only [eq_iff_iff, iff_false]; decide +kernel
  simp [mergeK, toldL, putK, e]
theorem told_sg {m : Int} {l : Addr} : valV (toldL m l) kSg = some (.int m) := by unfold toldL; rw [valV_cons, if_pos rfl]
theorem told_kd {m : Int} {l : Addr} : valV (toldL m l) kKd = some (.ref l) := by unfold toldL; rw [valV_cons, if_neg n_sk, valV_cons, if_pos rfl]
/-- what is told, good -/
structure GoodT (m : Int) (ks : List KD) : Prop where
  m_ : Mm m
  good : ∀ k ∈ ks, GoodK m k
  nd : (ks.map KD.name).Nodup
/-- what is told stands there -/
structure ToldAt (K : Frg) (H : Hp) (t : Addr) (m : Int) (ks : List KD) : Prop where
  ex : ∃ (l : Addr) (vs : List V), H t = some (.dK (toldL m l)) ∧ H l = some (.lst vs) ∧ DpAll K H vs (ks.map KD.data)
theorem flat_kds (ks : List KD) : flatDs (ks.map KD.data) = true := by
  induction ks with
  | nil => simp [flatDs]
  | cons w r ih => rw [List.map_cons, flatDs, flat_kd, ih]; rfl
section
variable {K : Frg} {H H' : Hp} {t : Addr} {m : Int} {ks : List KD} {β : Bag}
theorem ToldAt.bg (h : ToldAt K H t m ks) (e : Bg K β H H') (n : t ≠ β.b) : ToldAt K H' t m ks := by
  obtain ⟨l, vs, a, b, c⟩ := h.ex
  exact ⟨l, vs, e.keep _ _ n a, way_bag.lst e b, DpAll.sd (way_bag.sd e) _ _ (flat_kds ks) c⟩
theorem ToldAt.same (h : ToldAt K H t m ks) (e : Same H H') : ToldAt K H' t m ks := by
  obtain ⟨l, vs, a, b, c⟩ := h.ex
  exact ⟨l, vs, e _ _ a, e _ _ b, DpAll.sd (Sd.of e) _ _ (flat_kds ks) c⟩
end
theorem map_read {α : Type} {f : α → V} {as : List α} {ys : List V} (hl : ys.length = as.length) (hp : ∀ (i : Nat) y, ys[i]? = some y → ∃ a, as[i]? = some a ∧ y = f a) : ys = as.map f := by
  refine List.ext_getElem? fun i => ?_
  by_cases h : i < ys.length
  · obtain ⟨a, ha, e⟩ := hp i _ (List.getElem?_eq_getElem h)
    rw [List.getElem?_map, ha, List.getElem?_eq_getElem h, e]
    rfl
  · rw [List.getElem?_eq_none (by omega), List.getElem?_eq_none (by rw [List.length_map]; omega)]
theorem start_read {K : Frg} {H : Hp} {v : V} : ∀ {s : Option Int}, Dp K H v (startD s) → v = startV s
  | none, h => by cases h; rfl
  | some _, h => by cases h; rfl
theorem kd_at {K : Frg} {H : Hp} {v : V} {k : KD} (h : Dp K H v k.data) : ∃ (a : Addr) (vt vw : V), v = .ref a ∧ SqT K H a [.str k.name, .int k.inputs, vt, startV k.start, vw, .int k.price] ∧ Dp K H vt (intsD k.table) ∧ Dp K H vw (waysD k.ways) := by
  unfold KD.data at h
  cases h with
  | tup h1 h2 =>
    cases h2 with
    | cons g1 h2 =>
      cases h2 with
      | cons g2 h2 =>
        cases h2 with
        | cons g3 h2 =>
          cases h2 with
          | cons g4 h2 =>
            cases h2 with
            | cons g5 h2 =>
              cases h2 with
              | cons g6 h2 =>
                cases h2
                cases g1
                cases g2
                cases g6
                rw [start_read g4] at h1
                exact ⟨_, _, _, rfl, h1, g3, g5⟩
/-- seven letters and a z -/
theorem words_z : ∀ w ∈ wordsL, w.cps.toList.getLast? ≠ some 122 := by decide +kernel
theorem z_list : ("z" : Str).cps.toList = [122] := by decide +kernel
theorem cps_app (s t : Str) : (s ++ t).cps.toList = s.cps.toList ++ t.cps.toList := TL.tl_append s t
theorem good_z {s : Str} (l : (s.length : Int) = 7) (h : Low s) : GoodN (s ++ "z") := by
  have e : (s ++ "z" : Str).cps.toList = s.cps.toList ++ [122] := by rw [cps_app, z_list]
  have len : (s ++ "z" : Str).length = 8 := by
    rw [TL.len_tl]
    show (s ++ "z" : Str).cps.toList.length = 8
    rw [e, List.length_append]
    have : s.length = s.cps.toList.length := TL.len_tl s
    rw [← this, List.length_singleton]
    omega
  refine ⟨by omega, by omega, fun c hc => ?_, fun hw => ?_⟩
  · rw [e] at hc
    rcases List.mem_append.mp hc with hc | hc
    · exact h c hc
    · rw [List.mem_singleton.mp hc]; decide
  · refine words_z _ hw ?_
    rw [e, List.getLast?_append]
    rfl
theorem r_dict {tps : List (TE × TE)} {σ : L2.St} {H : Hp} {Q : VK} (h : ∀ p, H p = none → tPairs tps σ (upd H p (.dK [])) fun ps H2 => H2 p = some (.dK []) ∧ ∃ kvs : List (Key × V), ps = kvs.map (fun kv => (kV kv.1, kv.2)) ∧ kvs.length ≤ 15 ∧ Q (.ref p) (upd H2 p (.dK (mergeK [] kvs)))) : tDisp tps σ H Q := h
theorem r_pc {tk tv : TE} {r : List (TE × TE)} {σ : L2.St} {H : Hp} {Q : List (V × V) → Hp → Prop} (h : tk σ H fun x H1 => tv σ H1 fun y H2 => tPairs r σ H2 fun ps H3 => Q ((x, y) :: ps) H3) : tPairs ((tk, tv) :: r) σ H Q := h
theorem r_pn {σ : L2.St} {H : Hp} {Q : List (V × V) → Hp → Prop} (h : Q [] H) : tPairs [] σ H Q := h
theorem r_slA {K : Frg} {a : Addr} {xs : List V} {lo hi : Option Int} {H : Hp} {Q : VK} (hx : SqT K H a xs) (hw : ¬ (HT.sIx xs.length 0 lo = 0 ∧ HT.sIx xs.length xs.length hi = xs.length))
    (h : ∀ p, H p = none → Q (.ref p) (upd H p (.tup (cutV xs lo hi)))) : rSlA K (.ref a) lo hi H Q := ⟨a, xs, rfl, hx, fun z => absurd z hw, fun _ => h⟩
theorem r_sl {r : V → Option Int → Option Int → Hp → VK → Prop} {te : TE} {tl th : TO} {σ : L2.St} {H : Hp} {Q : VK} (h : te σ H fun x H1 => tl σ H1 fun l H2 => th σ H2 fun u H3 => r x l u H3 Q) : tSl r te tl th σ H Q := h
theorem r_noPart {σ : L2.St} {H : Hp} {R : Option Int → Hp → Prop} (h : R none H) : tNoPart σ H R := h
theorem r_part {i : Int} {σ : L2.St} {H : Hp} {R : Option Int → Hp → Prop} (h : R (some i) H) : tPart (tC (.int i)) σ H R := ⟨i, rfl, h⟩
theorem GoodK.priced {m : Int} {k : KD} (G : GoodK m k) {p : Int} (p0 : 0 ≤ p) (p1 : p ≤ 600) : GoodK m { k with price := p } :=
  ⟨G.m_, G.name, G.inputs, G.len, G.in_, G.start, G.ways, G.nd, G.most, p0, p1⟩
end Tx

/-! ## Dr6 -/
set_option maxHeartbeats 4000000
/-! The bag is made. -/
namespace Tx
open PySem PySem.Spec PyProof.Rows L2 Gd
local macro_rules | `(tactic| walk_at "rd1") => `(tactic| first
  | ((with_reducible show tVar _ _ _ _); refine r_var (by rfl) ?_)
  | with_reducible refine r_c ?_
  | with_reducible refine r_seq ?_
  | with_reducible refine r_asg ?_
  | with_reducible refine r_name ?_
  | with_reducible refine r_op ?_
  | with_reducible refine r_I0 ?_
  | with_reducible refine r_cons ?_
  | with_reducible refine r_nil ?_
  | with_reducible refine r_call ?_
  | with_reducible refine r_ret ?_
  | with_reducible refine r_cb ?_
  | with_reducible refine r_ifS ?_
  | with_reducible refine r_test ?_
  | with_reducible refine r_bl ?_
  | with_reducible refine r_dget ?_
  | with_reducible refine r_dput ?_
  | ((with_reducible show (∃ k, [V.int _] = [V.int k] ∧ _) ∨ _); refine Or.inl ⟨_, rfl, ?_⟩)
  | with_reducible refine r_lcR ?_
  | with_reducible refine r_lcL ?_
  | with_reducible refine r_lcT ?_
  | with_reducible refine r_m1 ?_
  | with_reducible refine r_gSub ?_
  | with_reducible refine r_forR ?_
  | with_reducible refine r_forL ?_
  | with_reducible refine r_forT ?_
  | with_reducible refine r_bm ?_
  | with_reducible refine r_next ?_
  | with_reducible refine r_B ?_
  | with_reducible refine r_not ?_
  | with_reducible refine r_and ?_
  | with_reducible refine r_or ?_
  | with_reducible refine r_andV ?_
  | with_reducible refine r_orV ?_
  | with_reducible refine r_notV ?_
  | with_reducible refine r_ifE ?_
  | with_reducible refine r_drop ?_
  | with_reducible refine r_tup ?_
  | with_reducible refine r_lst ?_
  | with_reducible refine r_un ?_
  | with_reducible refine r_U ?_)
local macro_rules | `(tactic| walk_at "rd") => `(tactic| repeat walk_at "rd1")
theorem bag_merge {c : Addr} {a r m n : Int} : mergeK [] (bagL c a r m n) = bagL c a r m n := by
  simp [mergeK, putK, bagL, s_ca, s_cr, s_cm, s_cn, s_ac, s_ar, s_am, s_an, s_rc, s_ra, s_rm, s_rn, s_mc, s_ma, s_mr, s_mn, s_nc, s_na, s_nr, s_nm]
def spBagOf (K : Frg) : Sp := fun vs H Q _ => ∃ (a : Addr) (ns : List Int), vs = [.ref a] ∧ SqL K H a (ns.map V.int) ∧ ns.length ≤ 63 ∧ ∀ (β : Bag) H', Same H H' → H β.b = none → BagAt K β H' → Q (.ref β.b) H'
section
variable {P : Program} {w : World} {K : Frg} {mg : Str → Option Value} {base : Heap}
theorem sc_law_bag_of : FnScope ["_law_script", "_law_mixed", "_law_cell"] ["_law_script"] (defScope s_law_bag_of) := ⟨rfl, rfl, rfl, by decide +kernel, rfl, by decide +kernel, by decide +kernel⟩
theorem ok_law_bag_of (T : Txt P K mg) : Ok P w K mg base 1 (He.ga K "_law_bag_of") ["_law_script"] (spBagOf K) := by
  obtain ⟨fd, F⟩ := T.F_law_bag_of
  have b : Binds K fd ["_law_script"] [] := F.bindsN fun _ _ _ _ _ _ us hl => match us, hl with | [_], _ => rfl
  refine ok_of F b sc_law_bag_of (fun vs H Q E h => ?_) (fun cdv A outer s H vs Q E hr h => ?_)
  · obtain ⟨a, ns, rfl, _⟩ := h
    rfl
  · obtain ⟨a, ns, rfl, hs, hn, k⟩ := h
    refine ⟨_, (pss_cons (ps_set (i := 1) sc_law_bag_of.nd rfl (Or.inl rfl) pe_int)
  (pss_cons (ps_for PassesOwn.never rfl (pi_list (pv 0)) (pg_name (i := 2) sc_law_bag_of.nd rfl (Or.inl rfl)) (pss_one (ps_set (i := 1) sc_law_bag_of.nd rfl (Or.inl rfl) (pe_op op_mod (pe_callTy call_int1 (by rfl) T.f_int (by decide +kernel) (pa_cons (pe_op op_add (pe_op op_add (pe_op op_mul (pv 1) pe_int) (pv 2)) pe_int) pa_nil)) pe_int))))
  (pss_one (ps_ret (pe_disp (pps_cons pe_str (pe_lc (own := [("_law_cell", 2)]) rfl sc_law_bag_of.nd (pi_list (pv 0)) (blkOk_by (own := [("_law_cell", 2)]) (N := ["_law_script", "_law_mixed", "_law_cell"]) (sc := defScope s_law_bag_of) (by decide +kernel)) (fun _ _ _ _ _ => (pg_name (i := 2) sc_law_bag_of.nd rfl (Or.inl rfl))) (fun _ _ _ _ _ => pts_nil) (fun _ _ _ _ _ => (pv 2))) (pps_cons pe_str pe_int (pps_cons pe_str pe_int (pps_cons pe_str (pv 1) (pps_cons pe_str pe_int pps_nil))))) (by rfl) (by rfl) (fun z => by cases z) (by decide)))))), ?_⟩
    walk_at "rd"
    refine forL (fun j σ' H' => ∃ (x : Int) (o : Option V), σ' = [some (.ref a), some (.int x), o] ∧ H' = H) hs ⟨7, none, rfl, rfl⟩ (fun j σ' H' _ p => ?_) ?_ ?_
    · obtain ⟨_, _, _, rfl⟩ := p
      exact hs
    · rintro j x σ' H' hx ⟨y, o, rfl, rfl⟩
      rw [List.getElem?_map] at hx
      obtain ⟨n, hn, rfl⟩ := Option.map_eq_some_iff.mp hx
      walk_at "rd"
      refine r_I (.inr (by decide)) ?_
      walk_at "rd"
      refine r_I (by decide) ?_
      walk_at "rd"
      exact ⟨_, _, rfl, rfl⟩
    · rintro σ' H' ⟨y, o, rfl, rfl⟩
      walk_at "rd"
      refine r_dict fun p hp => ?_
      refine r_pc ?_
      walk_at "rd"
      have s0 : Same H' (upd H' p (.dK [])) := Same.upd hp
      refine lcL (P := fun i v _ => ∃ n, ns[i]? = some n ∧ v = .int n) way_same (Same.refl _) (Same.seq s0 hs) (by rw [List.length_map]; omega) (fun _ _ _ _ _ p => p) (fun i2 x2 H10 hi2 e11 Qe q => ?_) fun D H2 ys hD e1 hy hyl hp2 => ?_
      · refine r_name ⟨rfl, ?_⟩
        walk_at "rd"
        rw [List.getElem?_map] at hi2
        obtain ⟨n, hn, rfl⟩ := Option.map_eq_some_iff.mp hi2
        exact q _ _ (Same.refl _) ⟨n, hn, rfl⟩
      refine r_pc ?_
      walk_at "rd"
      refine r_pc ?_
      walk_at "rd"
      refine r_pc ?_
      walk_at "rd"
      refine r_pc ?_
      walk_at "rd"
      refine r_pn ?_
      rw [List.length_map] at hyl
      have hys := map_read (f := V.int) hyl hp2
      subst hys
      have hpD : p ≠ D := ne_of_none upd_same hD
      refine ⟨e1 _ _ upd_same, bagL D 0 0 y 0, rfl, by show 5 ≤ 15; decide, ?_⟩
      rw [bag_merge]
      refine k ⟨p, D, ns⟩ _ (fun b o hb => ?_) hp ⟨⟨0, 0, y, 0, upd_same, Int.le_refl 0⟩, SqL.of ?_⟩
      · rw [upd_ne (ne_of_none hb hp)]
        exact e1 _ _ (s0 _ _ hb)
      · rw [upd_ne hpD.symm]
        exact hy
end
end Tx

/-! ## Pr1 -/
set_option maxHeartbeats 4000000
/-! The forms. -/
namespace Tx
open PySem PySem.Spec PyProof.Rows L2 Gd
local macro_rules | `(tactic| walk_at "rd1") => `(tactic| first
  | ((with_reducible show tVar _ _ _ _); refine r_var (by rfl) ?_)
  | with_reducible refine r_c ?_
  | with_reducible refine r_seq ?_
  | with_reducible refine r_asg ?_
  | with_reducible refine r_name ?_
  | with_reducible refine r_op ?_
  | with_reducible refine r_I0 ?_
  | with_reducible refine r_cons ?_
  | with_reducible refine r_nil ?_
  | with_reducible refine r_call ?_
  | with_reducible refine r_ret ?_
  | with_reducible refine r_cb ?_
  | with_reducible refine r_ifS ?_
  | with_reducible refine r_test ?_
  | with_reducible refine r_bl ?_
  | with_reducible refine r_dget ?_
  | with_reducible refine r_dput ?_
  | ((with_reducible show (∃ k, [V.int _] = [V.int k] ∧ _) ∨ _); refine Or.inl ⟨_, rfl, ?_⟩)
  | with_reducible refine r_lcR ?_
  | with_reducible refine r_lcL ?_
  | with_reducible refine r_lcT ?_
  | with_reducible refine r_m1 ?_
  | with_reducible refine r_gSub ?_
  | with_reducible refine r_forR ?_
  | with_reducible refine r_forL ?_
  | with_reducible refine r_forT ?_
  | with_reducible refine r_bm ?_
  | with_reducible refine r_next ?_
  | with_reducible refine r_B ?_
  | with_reducible refine r_not ?_
  | with_reducible refine r_and ?_
  | with_reducible refine r_or ?_
  | with_reducible refine r_andV ?_
  | with_reducible refine r_orV ?_
  | with_reducible refine r_notV ?_
  | with_reducible refine r_ifE ?_
  | with_reducible refine r_drop ?_
  | with_reducible refine r_tup ?_
  | with_reducible refine r_lst ?_
  | with_reducible refine r_un ?_
  | with_reducible refine r_U ?_)
local macro_rules | `(tactic| walk_at "rd") => `(tactic| repeat walk_at "rd1")
theorem r_chain {r r' : R2} {ta tb tc : TE} {σ : L2.St} {H : Hp} {Q : VK} (h : ta σ H fun x H1 => tb σ H1 fun y H2 => r x y H2 fun z H3 => ∃ k, z = .bl k ∧ (if k = true then tc σ H3 fun w' H4 => r' y w' H4 Q else Q (.bl false) H3)) :
    tChain r r' ta tb tc σ H Q := h
section
variable {K : Frg} {H : Hp} {a : Addr} {xs : List V}
theorem ty_L (h : SqL K H a xs) : TyX K H (.ref a) (.type "list") := by
  rcases h with (h | ⟨o, h⟩) | ⟨o, its, n, h, c, _⟩
  · exact .base (.lst h)
  · exact .base (.frz h)
  · exact .kList h c
theorem ty_T (h : SqT K H a xs) : TyX K H (.ref a) (.type "tuple") := by
  rcases h with (h | ⟨o, h⟩) | ⟨o, its, n, h, c, _⟩
  · exact .base (.tup h)
  · exact .fTuple h
  · exact .kTuple h c
theorem kit_int : PySem.W.kitOne K (.type "int") (.type "int") = some true := by rfl
theorem kit_ib : PySem.W.kitOne K (.type "int") (.type "bool") = some false := by rfl
theorem kit_str : PySem.W.kitOne K (.type "str") (.type "str") = some true := by rfl
theorem kit_l : PySem.W.kitAny K (.type "list") [.type "list", .type "tuple"] = some true := by rfl
theorem kit_t : PySem.W.kitAny K (.type "tuple") [.type "list", .type "tuple"] = some true := by rfl
variable {x : V} {T : String} {t : Value} {b : Bool} {Q : VK}
theorem r_isi (ty : TyX K H x t) (e : PySem.W.kitOne K t (.type T) = some b) (h : Q (.bl b) H) : rIsi K [x, .ty T] H Q := ⟨x, .ty T, t, .type T, b, rfl, .ty T, ty, e, h⟩
theorem r_isC {C : Addr} (ty : TyX K H x t) (e : PySem.W.kitOne K t (.ref C) = some b) (h : Q (.bl b) H) : rIsi K [x, .ref C] H Q := ⟨x, .ref C, t, .ref C, b, rfl, .own C, ty, e, h⟩
theorem r_isLT {tp : Addr} (ht : H tp = some (.tup [.ty "list", .ty "tuple"])) (ty : TyX K H x t) (e : PySem.W.kitAny K t [.type "list", .type "tuple"] = some b) (h : Q (.bl b) H) : rIsiT K [x, .ref tp] H Q :=
  ⟨x, tp, [.ty "list", .ty "tuple"], t, [.type "list", .type "tuple"], b, rfl, ht, .cons (.ty _) (.cons (.ty _) .nil), ty, e, h⟩
theorem r_all {bs : List Bool} (hs : SqL K H a (bs.map V.bl)) (h : Q (.bl (bs.all id)) H) : rAll K [.ref a] H Q := ⟨a, bs, rfl, hs, h⟩
end
/-- no number at all -/
def OddV (K : Frg) (H : Hp) (x : V) : Prop := (∃ t, TyX K H x t ∧ PySem.W.kitOne K t (.type "int") = some false) ∨ ∃ b, x = .bl b
def spNumber (K : Frg) : Sp := fun vs H Q _ => ∃ (x : V) (lo hi : Int), vs = [x, .int lo, .int hi] ∧ ((∃ i, x = .int i ∧ Q (.bl (decide (lo ≤ i ∧ i ≤ hi))) H) ∨ (OddV K H x ∧ Q (.bl false) H))
theorem r_number {K : Frg} {H : Hp} {Q : VK} {E : XK} {x lo hi : Int} (h : Q (.bl (decide (lo ≤ x ∧ x ≤ hi))) H) : spNumber K ([.int x, .int lo, .int hi] ++ []) H Q E := ⟨.int x, lo, hi, rfl, .inl ⟨x, rfl, h⟩⟩
theorem r_numberO {K : Frg} {H : Hp} {Q : VK} {E : XK} {x : V} {lo hi : Int} (o : OddV K H x) (h : Q (.bl false) H) : spNumber K ([x, .int lo, .int hi] ++ []) H Q E := ⟨x, lo, hi, rfl, .inr ⟨o, h⟩⟩
def spIsList (K : Frg) : Sp := fun vs H Q _ => ∃ (a : Addr) (xs : List V), vs = [.ref a] ∧ (SqL K H a xs ∨ SqT K H a xs) ∧ ∀ H', Same H H' → Q (.bl true) H'
theorem r_isList {K : Frg} {H : Hp} {Q : VK} {E : XK} {a : Addr} {xs : List V} (s : SqL K H a xs ∨ SqT K H a xs) (h : ∀ H', Same H H' → Q (.bl true) H') : spIsList K ([.ref a] ++ []) H Q E := ⟨a, xs, rfl, s, h⟩
/-- numbers in a tuple, within bounds -/
def InS (m : Int) (n : Int) (ts : List Int) : Bool := decide ((ts.length : Int) = n) && (ts.map fun t => decide (0 ≤ t ∧ t ≤ m - 1)).all id
theorem inS_in {m n : Int} {ts : List Int} (hn : (ts.length : Int) = n) (h : In m ts) : InS m n ts = true := by
  unfold InS
  rw [decide_eq_true hn, Bool.true_and, List.all_map, List.all_eq_true]
  intro t ht
  obtain ⟨a, b⟩ := h t ht
  exact decide_eq_true ⟨a, by omega⟩
def spSigns (K : Frg) : Sp := fun vs H Q _ => ∃ (a : Addr) (ts : List Int) (m n : Int), vs = [.ref a, .int m, .int n] ∧ SqT K H a (ts.map V.int) ∧ ts.length ≤ 1000 ∧ ∀ H', Same H H' → Q (.bl (InS m n ts)) H'
theorem r_signs {K : Frg} {H : Hp} {Q : VK} {E : XK} {a : Addr} {ts : List Int} {m n : Int} (s : SqT K H a (ts.map V.int)) (hn : ts.length ≤ 1000) (h : ∀ H', Same H H' → Q (.bl (InS m n ts)) H') : spSigns K ([.ref a, .int m, .int n] ++ []) H Q E :=
  ⟨a, ts, m, n, rfl, s, hn, h⟩
section
variable {P : Program} {w : World} {K : Frg} {mg : Str → Option Value} {base : Heap}
theorem sc_is_number : FnScope ["thing", "low", "high"] ["thing", "low", "high"] (defScope s_is_number) := ⟨rfl, rfl, rfl, by decide +kernel, rfl, by decide +kernel, by decide +kernel⟩
theorem ok_is_number (T : Txt P K mg) : Ok P w K mg base 1 (He.ga K "is_number") ["thing", "low", "high"] (spNumber K) := by
  obtain ⟨fd, F⟩ := T.F_is_number
  have b : Binds K fd ["thing", "low", "high"] [] := F.bindsN fun _ _ _ _ _ _ us hl => match us, hl with | [_, _, _], _ => rfl
  refine ok_of F b sc_is_number (fun vs H Q E h => ?_) (fun cdv A outer s H vs Q E hr h => ?_)
  · obtain ⟨a, b, c, rfl, _⟩ := h
    rfl
  · obtain ⟨x, lo, hi, rfl, k⟩ := h
    refine ⟨_, (pss_one (ps_ret (pe_and (pe_callB call_isi (by rfl) T.f_isinstance (by decide +kernel) (pa_cons (pv 0) (pa_cons (pe_bltn (v := .ty "int") (u := .type "int") (by rfl) T.f_int (by decide +kernel) rfl) pa_nil))) (pe_and (pe_not (pe_callB call_isi (by rfl) T.f_isinstance (by decide +kernel) (pa_cons (pv 0) (pa_cons (pe_bltn (v := .ty "bool") (u := .type "bool") (by rfl) T.f_bool (by decide +kernel) rfl) pa_nil)))) (pe_one (pe_chain op_le op_le (pv 1) (pv 0) (pv 2))))))), ?_⟩
    rcases k with ⟨x, rfl, k⟩ | ⟨(⟨t, ty, e⟩ | ⟨b, rfl⟩), k⟩
    · walk_at "rd"
      refine r_isi (.base (.int x)) kit_int ?_
      refine r_bl (r_iT ?_)
      walk_at "rd"
      refine r_isi (.base (.int x)) kit_ib ?_
      refine r_bl ?_
      refine r_bl (r_iT ?_)
      refine r_chain ?_
      walk_at "rd"
      refine r_ifd (fun h => ?_) (fun h => ?_)
      · walk_at "rd"
        rw [show decide (lo ≤ x ∧ x ≤ hi) = decide (x ≤ hi) by simp [h]] at k
        exact k
      · rw [show decide (lo ≤ x ∧ x ≤ hi) = false by simp [h]] at k
        exact k
    · walk_at "rd"
      refine r_isi ty e ?_
      exact r_bl (r_iF k)
    · walk_at "rd"
      refine r_isi (.base (.bl b)) (b := true) rfl ?_
      refine r_bl (r_iT ?_)
      walk_at "rd"
      refine r_isi (.base (.bl b)) (b := true) rfl ?_
      refine r_bl ?_
      exact r_bl (r_iF k)
theorem sc_is_list : FnScope ["thing"] ["thing"] (defScope s_is_list) := ⟨rfl, rfl, rfl, by decide +kernel, rfl, by decide +kernel, by decide +kernel⟩
theorem ok_is_list (T : Txt P K mg) : Ok P w K mg base 1 (He.ga K "is_list") ["thing"] (spIsList K) := by
  obtain ⟨fd, F⟩ := T.F_is_list
  have b : Binds K fd ["thing"] [] := F.bindsN fun _ _ _ _ _ _ us hl => match us, hl with | [_], _ => rfl
  refine ok_of F b sc_is_list (fun vs H Q E h => ?_) (fun cdv A outer s H vs Q E hr h => ?_)
  · obtain ⟨a, b, rfl, _⟩ := h
    rfl
  · obtain ⟨a, xs, rfl, hs, k⟩ := h
    refine ⟨_, (pss_one (ps_ret (pe_callB call_isiT (by rfl) T.f_isinstance (by decide +kernel) (pa_cons (pv 0) (pa_cons (pe_tup (pa_cons (pe_bltn (v := .ty "list") (u := .type "list") (by rfl) T.f_list (by decide +kernel) rfl) (pa_cons (pe_bltn (v := .ty "tuple") (u := .type "tuple") (by rfl) T.f_tuple (by decide +kernel) rfl) pa_nil))) pa_nil))))), ?_⟩
    walk_at "rd"
    refine ⟨by show 2 ≤ sizeLine; decide, fun p hp => ?_⟩
    have s0 : Same H (upd H p (.tup [.ty "list", .ty "tuple"])) := Same.upd hp
    walk_at "rd"
    rcases hs with hs | hs
    · exact r_isLT upd_same (ty_L (Same.seq s0 hs)) kit_l (k _ s0)
    · exact r_isLT upd_same (ty_T (Sd.tup (Sd.of s0) hs)) kit_t (k _ s0)
theorem sc_are_signs : FnScope ["thing", "signs", "many", "sign"] ["thing", "signs", "many"] (defScope s_are_signs) := ⟨rfl, rfl, rfl, by decide +kernel, rfl, by decide +kernel, by decide +kernel⟩
theorem ok_are_signs (T : Txt P K mg) : Ok P w K mg base 2 (He.ga K "are_signs") ["thing", "signs", "many"] (spSigns K) := by
  obtain ⟨fd, F⟩ := T.F_are_signs
  have b : Binds K fd ["thing", "signs", "many"] [] := F.bindsN fun _ _ _ _ _ _ us hl => match us, hl with | [_, _, _], _ => rfl
  refine ok_of F b sc_are_signs (fun vs H Q E h => ?_) (fun cdv A outer s H vs Q E hr h => ?_)
  · obtain ⟨a, ts, m, n, rfl, _⟩ := h
    rfl
  · obtain ⟨a, ts, m, n, rfl, hs, hn, k⟩ := h
    refine ⟨_, (pss_one (ps_ret (pe_and (pk (ok_is_list T) hr rfl T.g_is_list (pa_cons (pv 0) pa_nil)) (pe_and (pe_cmpR op_eq (pe_callB call_len_seq (by rfl) T.f_len (by decide +kernel) (pa_cons (pv 0) pa_nil)) (pv 2) (by first | exact nomark _ | rfl)) (pe_one (pe_callB (cr_all rfl) (by rfl) T.f_all (by decide +kernel) (pa_cons (pe_lc (own := [("sign", 3)]) rfl sc_are_signs.nd (pi_tup (pv 0)) (blkOk_by (own := [("sign", 3)]) (N := ["thing", "signs", "many", "sign"]) (sc := defScope s_are_signs) (by decide +kernel)) (fun _ _ _ _ _ => (pg_name (i := 3) sc_are_signs.nd rfl (Or.inl rfl))) (fun _ _ _ _ _ => pts_nil) (fun _ _ _ _ _ => (pk (ok_is_number T) hr rfl T.g_is_number (pa_cons (pv 3) (pa_cons pe_int (pa_cons (pe_op op_sub (pv 1) pe_int) pa_nil)))))) pa_nil))))))), ?_⟩
    walk_at "rd"
    refine r_isList (.inr hs) fun H1 s1 => ?_
    refine r_bl (r_iT ?_)
    have hs1 := Sd.tup (Sd.of s1) hs
    walk_at "rd"
    refine ⟨_, _, rfl, .inr hs1, ?_⟩
    rw [List.length_map]
    walk_at "rd"
    refine r_eq rfl ?_
    refine r_bl ?_
    refine r_ifd (fun h => ?_) (fun h => ?_)
    · have h : (ts.length : Int) = n := by simpa using h
      walk_at "rd"
      refine lcT (P := fun i v _ => ∃ t, ts[i]? = some t ∧ v = .bl (decide (0 ≤ t ∧ t ≤ m - 1))) way_same (Same.refl _) hs1 (by rw [List.length_map]; omega) (fun _ _ _ _ _ p => p) (fun i x H3 hi e2 Qe q => ?_) fun D H3 ys hD e3 hy hl hp => ?_
      · rw [List.getElem?_map] at hi
        obtain ⟨t, ht, rfl⟩ := Option.map_eq_some_iff.mp hi
        refine r_name ⟨rfl, ?_⟩
        walk_at "rd"
        refine r_number ?_
        exact q _ _ (Same.refl _) ⟨t, ht, rfl⟩
      rw [List.length_map] at hl
      have hys := map_read (f := fun t : Int => V.bl (decide (0 ≤ t ∧ t ≤ m - 1))) hl hp
      subst hys
      walk_at "rd"
      refine r_all (bs := ts.map fun t => decide (0 ≤ t ∧ t ≤ m - 1)) (by rw [List.map_map]; exact SqL.of hy) ?_
      have := k H3 (s1.trans e3)
      rw [InS, decide_eq_true h, Bool.true_and] at this
      exact this
    · have h : ¬ (ts.length : Int) = n := fun e => h (by simp [e])
      have := k H1 s1
      rw [InS, decide_eq_false h, Bool.false_and] at this
      exact this
end
end Tx

/-! ## Pr2 -/
set_option maxHeartbeats 4000000
/-! Names, digits. -/
namespace Tx
open PySem PySem.Spec PyProof.Rows L2 Gd
local macro_rules | `(tactic| walk_at "rd1") => `(tactic| first
  | ((with_reducible show tVar _ _ _ _); refine r_var (by rfl) ?_)
  | with_reducible refine r_c ?_
  | with_reducible refine r_seq ?_
  | with_reducible refine r_asg ?_
  | with_reducible refine r_name ?_
  | with_reducible refine r_op ?_
  | with_reducible refine r_I0 ?_
  | with_reducible refine r_cons ?_
  | with_reducible refine r_nil ?_
  | with_reducible refine r_call ?_
  | with_reducible refine r_ret ?_
  | with_reducible refine r_cb ?_
  | with_reducible refine r_ifS ?_
  | with_reducible refine r_test ?_
  | with_reducible refine r_bl ?_
  | with_reducible refine r_dget ?_
  | with_reducible refine r_dput ?_
  | ((with_reducible show (∃ k, [V.int _] = [V.int k] ∧ _) ∨ _); refine Or.inl ⟨_, rfl, ?_⟩)
  | with_reducible refine r_lcR ?_
  | with_reducible refine r_lcL ?_
  | with_reducible refine r_lcT ?_
  | with_reducible refine r_m1 ?_
  | with_reducible refine r_gSub ?_
  | with_reducible refine r_forR ?_
  | with_reducible refine r_forL ?_
  | with_reducible refine r_forT ?_
  | with_reducible refine r_bm ?_
  | with_reducible refine r_next ?_
  | with_reducible refine r_B ?_
  | with_reducible refine r_not ?_
  | with_reducible refine r_and ?_
  | with_reducible refine r_or ?_
  | with_reducible refine r_andV ?_
  | with_reducible refine r_orV ?_
  | with_reducible refine r_notV ?_
  | with_reducible refine r_ifE ?_
  | with_reducible refine r_drop ?_
  | with_reducible refine r_tup ?_
  | with_reducible refine r_lst ?_
  | with_reducible refine r_un ?_
  | with_reducible refine r_U ?_)
local macro_rules | `(tactic| walk_at "rd") => `(tactic| repeat walk_at "rd1")
local macro_rules | `(tactic| walk_at "rd1") => `(tactic| first
  | with_reducible refine r_lcS ?_
  | with_reducible refine r_sl ?_
  | with_reducible refine r_noPart ?_
  | with_reducible refine r_partE ?_
  | with_reducible refine r_chain ?_)
/-- digits -/
def dig (ts : List Int) : Str := ⟨(ts.map fun t => 48 + t.toNat).toArray⟩
theorem dig1 {t : Int} (h0 : 0 ≤ t) (h1 : t < 3) : (toString t : Str) = ⟨#[48 + t.toNat]⟩ := by
  have : t = 0 ∨ t = 1 ∨ t = 2 := by omega
  rcases this with rfl | rfl | rfl <;> decide +kernel
theorem cps_inj {s t : Str} (h : s.cps.toList = t.cps.toList) : s = t := by
  cases s with
  | mk a =>
    cases t with
    | mk b =>
      have : a = b := Array.ext' h
      rw [this]
theorem dig_join {ts : List Int} (h : In 3 ts) : Txt.join Str.empty (ts.map fun t => (⟨#[48 + t.toNat]⟩ : Str)) = dig ts := by
  refine cps_inj ?_
  rw [tl_join0, List.map_map]
  show _ = ts.map _
  induction ts with
  | nil => rfl
  | cons t r ih =>
    rw [List.map_cons, List.flatten_cons, ih fun u hu => h u (List.mem_cons_of_mem _ hu)]
    rfl
theorem sum_ones {ts : List Int} : ((ts.map fun t => (⟨#[48 + t.toNat]⟩ : Str)).map fun x => x.length).sum = ts.length := by
  induction ts with
  | nil => rfl
  | cons t r ih =>
    rw [List.map_cons, List.map_cons, List.sum_cons, ih, List.length_cons]
    show 1 + r.length = r.length + 1
    omega
theorem lt_a {c : Nat} (h : 97 ≤ c) : decide ([c] < (Str.ofString "a").cps.toList) = false := by
  have e : (Str.ofString "a").cps.toList = [97] := by decide +kernel
  rw [e]
  simp [List.cons_lt_cons_iff]
  omega
theorem lt_z {c : Nat} (h : c ≤ 122) : decide ((Str.ofString "z").cps.toList < [c]) = false := by
  have e : (Str.ofString "z").cps.toList = [122] := by decide +kernel
  rw [e]
  simp [List.cons_lt_cons_iff]
  omega
theorem all_true {n : Nat} : (List.replicate n true).all id = true := by
  induction n with
  | zero => rfl
  | succ n ih => rw [List.replicate_succ, List.all_cons, ih]; rfl
theorem trues {ys : List V} (h : ∀ (i : Nat) y, ys[i]? = some y → y = .bl true) : ys = (List.replicate ys.length true).map V.bl := by
  refine List.ext_getElem (by simp) fun i h1 h2 => ?_
  rw [h i _ (List.getElem?_eq_getElem h1)]
  simp
theorem words_v {K : Frg} : v_WORDS.map (He.Dv.v K) = wordsL.map V.str := rfl
def spDiff (K : Frg) : Sp := fun vs H Q _ => ∃ (a : Addr) (ls : List Str), vs = [.ref a] ∧ SqL K H a (ls.map V.str) ∧ ls.length ≤ 1000 ∧ ls.Nodup ∧ ∀ H', Same H H' → Q (.bl true) H'
theorem r_diff {K : Frg} {H : Hp} {Q : VK} {E : XK} {a : Addr} {ls : List Str} (hs : SqL K H a (ls.map V.str)) (hn : ls.length ≤ 1000) (nd : ls.Nodup) (h : ∀ H', Same H H' → Q (.bl true) H') : spDiff K ([.ref a] ++ []) H Q E := ⟨a, ls, rfl, hs, hn, nd, h⟩
def spName : Sp := fun vs H Q _ => ∃ s, vs = [.str s] ∧ GoodN s ∧ ∀ H', Same H H' → Q (.bl true) H'
theorem r_isName {H : Hp} {Q : VK} {E : XK} {s : Str} (hs : GoodN s) (h : ∀ H', Same H H' → Q (.bl true) H') : spName ([.str s] ++ []) H Q E := ⟨s, rfl, hs, h⟩
def spDigits (K : Frg) : Sp := fun vs H Q _ => ∃ (a : Addr) (ts : List Int), vs = [.ref a] ∧ SqT K H a (ts.map V.int) ∧ ts.length ≤ 1000 ∧ In 3 ts ∧ ∀ H', Same H H' → Q (.str (dig ts)) H'
theorem r_digits {K : Frg} {H : Hp} {Q : VK} {E : XK} {a : Addr} {ts : List Int} (hs : SqT K H a (ts.map V.int)) (hn : ts.length ≤ 1000) (hin : In 3 ts) (h : ∀ H', Same H H' → Q (.str (dig ts)) H') : spDigits K ([.ref a] ++ []) H Q E :=
  ⟨a, ts, rfl, hs, hn, hin, h⟩
section
variable {P : Program} {w : World} {K : Frg} {mg : Str → Option Value} {base : Heap}
theorem sc_are_different : FnScope ["things", "at"] ["things"] (defScope s_are_different) := ⟨rfl, rfl, rfl, by decide +kernel, rfl, by decide +kernel, by decide +kernel⟩
theorem ok_are_different (T : Txt P K mg) : Ok P w K mg base 1 (He.ga K "are_different") ["things"] (spDiff K) := by
  obtain ⟨fd, F⟩ := T.F_are_different
  have b : Binds K fd ["things"] [] := F.bindsN fun _ _ _ _ _ _ us hl => match us, hl with | [_], _ => rfl
  refine ok_of F b sc_are_different (fun vs H Q E h => ?_) (fun cdv A outer s H vs Q E hr h => ?_)
  · obtain ⟨a, ls, rfl, _⟩ := h
    rfl
  · obtain ⟨a, ls, rfl, hs, hn, nd, k⟩ := h
    refine ⟨_, (pss_one (ps_ret (pe_callB (cr_all rfl) (by rfl) T.f_all (by decide +kernel) (pa_cons (pe_lc (own := [("at", 1)]) rfl sc_are_different.nd (pi_range1 rfl T.f_range (pa_cons (pe_callB call_len_seq (by rfl) T.f_len (by decide +kernel) (pa_cons (pv 0) pa_nil)) pa_nil)) (blkOk_by (own := [("at", 1)]) (N := ["things", "at"]) (sc := defScope s_are_different) (by decide +kernel)) (fun _ _ _ _ _ => (pg_name (i := 1) sc_are_different.nd rfl (Or.inl rfl))) (fun _ _ _ _ _ => pts_nil) (fun _ _ _ _ _ => (pe_cmpR (op_notIn_seqB (K := K) rfl) (pe_ix (ix_listB (K := K) rfl) (pv 0) (pv 1) (fun _ _ => rfl)) (pe_slice (sl_listB (K := K) rfl) (pv 0) po_none (po_some (pv 1))) (by first | exact nomark _ | rfl)))) pa_nil)))), ?_⟩
    walk_at "rd"
    refine ⟨_, _, rfl, .inl hs, ?_⟩
    rw [List.length_map]
    walk_at "rd"
    refine lcR (P := fun i v _ => v = .bl true) way_same (Same.refl _) ⟨by omega, by omega⟩ (fun _ _ _ _ _ p => p) (fun i H1 hi e1 Qe q => ?_) fun D H1 ys hD e1 hy hl hp => ?_
    · refine r_name ⟨rfl, ?_⟩
      walk_at "rd"
      have hi : i < ls.length := by omega
      have hs1 := Same.seq e1 hs
      refine r_ixL hs1 (v := .str ls[i]) (atI_nat (by rw [List.getElem?_map, List.getElem?_eq_getElem hi]; rfl)) ?_
      walk_at "rd"
      refine ⟨_, rfl, r_slL hs1 fun p hp => ?_⟩
      have ec : cutV (ls.map V.str) none (some (i : Int)) = (ls.take i).map V.str := by
        unfold cutV
        rw [HT.sIx_none, HT.sIx_nat, List.length_map, Nat.min_eq_left (by omega), Nat.sub_zero, List.drop_zero, List.map_take]
      rw [ec]
      refine r_notIn (.inl (SqL.of upd_same)) ?_
      have hno : ls[i] ∉ ls.take i := fun hm => by
        obtain ⟨j, hj, e⟩ := List.mem_take_iff_getElem.mp hm
        have := (List.getElem_inj (h₀ := by omega) (h₁ := hi) nd).mp e
        omega
      rw [decide_eq_false hno]
      exact q _ _ (Same.upd hp) rfl
    · refine r_all (bs := List.replicate ys.length true) (by rw [← trues hp]; exact SqL.of hy) ?_
      rw [all_true]
      exact k _ e1
theorem sc_is_name : FnScope ["thing", "letter"] ["thing"] (defScope s_is_name) := ⟨rfl, rfl, rfl, by decide +kernel, rfl, by decide +kernel, by decide +kernel⟩
theorem ok_is_name (T : Txt P K mg) : Ok P w K mg base 1 (He.ga K "is_name") ["thing"] spName := by
  obtain ⟨fd, F⟩ := T.F_is_name
  have b : Binds K fd ["thing"] [] := F.bindsN fun _ _ _ _ _ _ us hl => match us, hl with | [_], _ => rfl
  refine ok_of F b sc_is_name (fun vs H Q E h => ?_) (fun cdv A outer s H vs Q E hr h => ?_)
  · obtain ⟨s, rfl, _⟩ := h
    rfl
  · obtain ⟨s, rfl, G, k⟩ := h
    refine ⟨_, (pss_cons (ps_if (PW.pt (pw_or (pt_not (pt_val (pe_callB call_isi (by rfl) T.f_isinstance (by decide +kernel) (pa_cons (pv 0) (pa_cons (pe_bltn (v := .ty "str") (u := .type "str") (by rfl) T.f_str (by decide +kernel) rfl) pa_nil))))) (pw_or (pt_not (pt_chain op_le op_le pe_int (pe_callB call_len_str (by rfl) T.f_len (by decide +kernel) (pa_cons (pv 0) pa_nil)) pe_int)) (pw_or1 (pt_cmpR op_in_seq (pv 0) (pe_glob (v := .ref (He.ga K "WORDS")) rfl T.g_WORDS rfl) (by first | exact nomark _ | rfl)))))) (pss_one (ps_ret pe_bl)) pss_nil)
  (pss_one (ps_ret (pe_callB (cr_all rfl) (by rfl) T.f_all (by decide +kernel) (pa_cons (pe_lc (own := [("letter", 1)]) rfl sc_is_name.nd (pi_str (pv 0)) (blkOk_by (own := [("letter", 1)]) (N := ["thing", "letter"]) (sc := defScope s_is_name) (by decide +kernel)) (fun _ _ _ _ _ => (pg_name (i := 1) sc_is_name.nd rfl (Or.inl rfl))) (fun _ _ _ _ _ => pts_nil) (fun _ _ _ _ _ => (pe_chain op_le_str op_le_str pe_str (pv 1) pe_str))) pa_nil))))), ?_⟩
    walk_at "rd"
    refine r_isi (.base (.str s)) kit_str ?_
    refine r_bl (r_iF ?_)
    walk_at "rd"
    have l1 : 1 ≤ s.length := G.lo
    have l8 : s.length ≤ 8 := G.hi
    refine ⟨_, rfl, Nat.le_trans l8 (by decide), ?_⟩
    walk_at "rd"
    refine r_ifd (fun _ => ?_) (fun h => absurd (by omega : (1 : Int) ≤ (s.length : Int)) h)
    walk_at "rd"
    rw [decide_eq_true (by omega : (s.length : Int) ≤ 8)]
    refine r_iF ?_
    walk_at "rd"
    refine r_in (ls := wordsL) (.inr (T.t_WORDS _)) ?_
    rw [decide_eq_false G.no]
    refine r_bl (r_iF ?_)
    walk_at "rd"
    refine lcS (P := fun i v _ => v = .bl true) way_same (Same.refl _) (by omega) (fun _ _ _ _ _ p => p) (fun i c H1 hi e1 Qe q => ?_) fun D H1 ys hD e1 hy hl hp => ?_
    · refine r_name ⟨rfl, ?_⟩
      obtain ⟨c0, c1⟩ := G.low c (List.mem_of_getElem? hi)
      walk_at "rd"
      refine ⟨_, _, rfl, rfl, ?_⟩
      rw [show decide (([c] : List Nat) < (Str.ofString "a").cps.toList) = false from lt_a c0]
      refine r_bl (r_iT ?_)
      walk_at "rd"
      refine ⟨_, _, rfl, rfl, ?_⟩
      rw [show decide ((Str.ofString "z").cps.toList < ([c] : List Nat)) = false from lt_z c1]
      exact q _ _ (Same.refl _) rfl
    · refine r_all (bs := List.replicate ys.length true) (by rw [← trues hp]; exact SqL.of hy) ?_
      rw [all_true]
      exact k _ e1
end
end Tx

/-! ## Pr3 -/
set_option maxHeartbeats 4000000
/-! Tables and ways judged. -/
namespace Tx
open PySem PySem.Spec PyProof.Rows L2 Gd
local macro_rules | `(tactic| walk_at "rd1") => `(tactic| first
  | ((with_reducible show tVar _ _ _ _); refine r_var (by rfl) ?_)
  | with_reducible refine r_c ?_
  | with_reducible refine r_seq ?_
  | with_reducible refine r_asg ?_
  | with_reducible refine r_name ?_
  | with_reducible refine r_op ?_
  | with_reducible refine r_I0 ?_
  | with_reducible refine r_cons ?_
  | with_reducible refine r_nil ?_
  | with_reducible refine r_call ?_
  | with_reducible refine r_ret ?_
  | with_reducible refine r_cb ?_
  | with_reducible refine r_ifS ?_
  | with_reducible refine r_test ?_
  | with_reducible refine r_bl ?_
  | with_reducible refine r_dget ?_
  | with_reducible refine r_dput ?_
  | ((with_reducible show (∃ k, [V.int _] = [V.int k] ∧ _) ∨ _); refine Or.inl ⟨_, rfl, ?_⟩)
  | with_reducible refine r_lcR ?_
  | with_reducible refine r_lcL ?_
  | with_reducible refine r_lcT ?_
  | with_reducible refine r_m1 ?_
  | with_reducible refine r_gSub ?_
  | with_reducible refine r_forR ?_
  | with_reducible refine r_forL ?_
  | with_reducible refine r_forT ?_
  | with_reducible refine r_bm ?_
  | with_reducible refine r_next ?_
  | with_reducible refine r_B ?_
  | with_reducible refine r_not ?_
  | with_reducible refine r_and ?_
  | with_reducible refine r_or ?_
  | with_reducible refine r_andV ?_
  | with_reducible refine r_orV ?_
  | with_reducible refine r_notV ?_
  | with_reducible refine r_ifE ?_
  | with_reducible refine r_drop ?_
  | with_reducible refine r_tup ?_
  | with_reducible refine r_lst ?_
  | with_reducible refine r_un ?_
  | with_reducible refine r_U ?_)
local macro_rules | `(tactic| walk_at "rd") => `(tactic| repeat walk_at "rd1")
local macro_rules | `(tactic| walk_at "rd1") => `(tactic| first
  | with_reducible refine r_lcS ?_
  | with_reducible refine r_sl ?_
  | with_reducible refine r_noPart ?_
  | with_reducible refine r_partE ?_
  | with_reducible refine r_chain ?_)
theorem way_at {K : Frg} {H : Hp} {v : V} {w : WD} (h : Dp K H v w.data) : ∃ a b : Addr, v = .ref a ∧ SqT K H a [.str w.word, .str w.name, .ref b] ∧ SqT K H b (w.table.map V.int) := by
  unfold WD.data at h
  cases h with
  | tup h1 h2 =>
    cases h2 with
    | cons g1 h2 =>
      cases h2 with
      | cons g2 h2 =>
        cases h2 with
        | cons g3 h2 =>
          cases h2
          cases g1
          cases g2
          obtain ⟨b, rfl, hb⟩ := ints_at g3
          exact ⟨_, b, rfl, h1, hb⟩
theorem in_sf {w : Str} (h : w = Str.ofString "stands" ∨ w = Str.ofString "flees") : w ∈ [Str.ofString "stands", Str.ofString "flees"] := by
  rcases h with rfl | rfl
  · exact List.mem_cons_self ..
  · exact List.mem_cons_of_mem _ (List.mem_cons_self ..)
def spIsTable (K : Frg) : Sp := fun vs H Q _ => ∃ (m : Int) (i : Nat) (st : Option Int) (a : Addr) (ts : List Int), vs = [.int m, .int i, startV st, .ref a] ∧ Mm m ∧ i ≤ 2 ∧ (∀ s, st = some s → 0 ≤ s ∧ s < m) ∧ SqT K H a (ts.map V.int) ∧
  (ts.length : Int) = szOf m i st.isSome ∧ In m ts ∧ ∀ H', Same H H' → Q (.bl true) H'
def spIsWay (K : Frg) : Sp := fun vs H Q _ => ∃ (v : V) (wd : WD) (m : Int) (a : Addr) (ts : List Int), vs = [v, .int m, .ref a] ∧ Dp K H v wd.data ∧ SqT K H a (ts.map V.int) ∧ ts.length ≤ 1000 ∧ GoodW m ts wd ∧ ∀ H', Same H H' → Q (.bl true) H'
def spAreWays (K : Frg) : Sp := fun vs H Q _ => ∃ (p : Addr) (us : List V) (wl : List WD) (m : Int) (a : Addr) (ts : List Int), vs = [.ref p, .int m, .ref a] ∧ (SqL K H p us ∨ SqT K H p us) ∧ DpAll K H us (wl.map WD.data) ∧ SqT K H a (ts.map V.int) ∧ ts.length ≤ 1000 ∧
  wl.length ≤ 6 ∧ (wl.map WD.name).Nodup ∧ (∀ w ∈ wl, GoodW m ts w) ∧ ∀ H', Same H H' → Q (.bl true) H'
section
variable {P : Program} {w : World} {K : Frg} {mg : Str → Option Value} {base : Heap}
theorem sc_is_table : FnScope ["signs", "inputs", "start", "table", "size", "_"] ["signs", "inputs", "start", "table"] (defScope s_is_table) := ⟨rfl, rfl, rfl, by decide +kernel, rfl, by decide +kernel, by decide +kernel⟩
theorem ok_is_table (T : Txt P K mg) : Ok P w K mg base 3 (He.ga K "_is_table") ["signs", "inputs", "start", "table"] (spIsTable K) := by
  obtain ⟨fd, F⟩ := T.F_is_table
  have b : Binds K fd ["signs", "inputs", "start", "table"] [] := F.bindsN fun _ _ _ _ _ _ us hl => match us, hl with | [_, _, _, _], _ => rfl
  refine ok_of F b sc_is_table (fun vs H Q E h => ?_) (fun cdv A outer s H vs Q E hr h => ?_)
  · obtain ⟨m, i, st, a, ts, rfl, _⟩ := h
    rfl
  · obtain ⟨m, i, st, a, ts, rfl, hm, hi, hst, hs, hl, hin, k⟩ := h
    have m2 : 2 ≤ m := by rcases hm with rfl | rfl <;> decide
    have m3 : m ≤ 3 := by rcases hm with rfl | rfl <;> decide
    have l27 : ts.length ≤ 27 := by have := sz_hi (b := st.isSome) hm hi; omega
    refine ⟨_, (pss_cons (ps_if (PW.pt (pw_or (pt_not (pt_val (pk (ok_is_number T) hr rfl T.g_is_number (pa_cons (pv 1) (pa_cons pe_int (pa_cons pe_int pa_nil)))))) (pw_or1 (pt_not (PW.pt (pw_or (pt_cmpR op_isN (pv 2) pe_non (by first | exact nomark _ | rfl)) (pw_or1 (pt_val (pk (ok_is_number T) hr rfl T.g_is_number (pa_cons (pv 2) (pa_cons pe_int (pa_cons (pe_op op_sub (pv 0) pe_int) pa_nil)))))))))))) (pss_one (ps_ret pe_bl)) pss_nil)
  (pss_cons (ps_set (i := 4) sc_is_table.nd rfl (Or.inl rfl) (pe_ifExp (pt_cmpR op_isN (pv 2) pe_non (by first | exact nomark _ | rfl)) pe_int (pv 0)))
  (pss_cons (ps_for PassesOwn.never rfl (pi_range1 rfl T.f_range (pa_cons (pv 1) pa_nil)) (pg_name (i := 5) sc_is_table.nd rfl (Or.inl rfl)) (pss_one (ps_set (i := 4) sc_is_table.nd rfl (Or.inl rfl) (pe_op op_mul (pv 4) (pv 0)))))
  (pss_one (ps_ret (pk (ok_are_signs T) hr rfl T.g_are_signs (pa_cons (pv 3) (pa_cons (pv 0) (pa_cons (pv 4) pa_nil))))))))), ?_⟩
    walk_at "rd"
    refine r_number ?_
    rw [decide_eq_true (⟨by omega, by omega⟩ : (0 : Int) ≤ (i : Int) ∧ (i : Int) ≤ 2)]
    refine r_bl (r_iF ?_)
    walk_at "rd"
    refine ⟨rfl, ?_⟩
    -- the start
    have body : ∀ b : Int, b = (if st.isSome then m else 1) → fR (gName 5) (tAsg (tOp (rI CMul fun i j => V.int (i * j)) (tVar 4) (tVar 0)) (gName 4)) [.int i]
        { nx := tRet (tCall (spSigns K) [] E0 (tCons (tVar 3) (tCons (tVar 0) (tCons (tVar 4) tNil)))) { nx := fun x H' => Q V.non H', rt := Q }, rt := Q }
        [some (.int m), some (.int i), some (startV st), some (.ref a), some (.int b), none] H := by
      intro b hb
      have hsz : ∀ j, m ^ j * b = szOf m j st.isSome := fun j => by rw [hb]; rfl
      refine forR (fun j σ' H' => ∃ o : Option V, σ' = [some (.int m), some (.int i), some (startV st), some (.ref a), some (.int (m ^ j * b)), o] ∧ H' = H) ⟨by omega, by omega⟩ ⟨none, by rw [Int.pow_zero, Int.one_mul], rfl⟩ ?_ ?_
      · rintro j σ' H' hj ⟨o, rfl, rfl⟩
        walk_at "rd"
        refine r_I (.inr ⟨by omega, by omega⟩) ?_
        walk_at "rd"
        exact ⟨some (.int j), by rw [Int.pow_succ, Int.mul_right_comm]; rfl, rfl⟩
      · rintro σ' H' ⟨o, rfl, rfl⟩
        rw [Int.toNat_natCast, hsz]
        walk_at "rd"
        refine r_signs hs (by omega) fun H1 s1 => ?_
        rw [inS_in hl hin]
        exact k H1 s1
    cases st with
    | none =>
      refine r_bl (r_iT (r_iF ?_))
      walk_at "rd"
      refine ⟨rfl, ?_⟩
      refine r_bl (r_iT ?_)
      walk_at "rd"
      exact body 1 rfl
    | some x =>
      obtain ⟨x0, x1⟩ := hst x rfl
      refine r_bl (r_iF ?_)
      walk_at "rd"
      refine r_number ?_
      rw [decide_eq_true (⟨x0, by omega⟩ : (0 : Int) ≤ x ∧ x ≤ m - 1)]
      refine r_bl (r_iF ?_)
      walk_at "rd"
      refine ⟨rfl, ?_⟩
      refine r_bl (r_iF ?_)
      walk_at "rd"
      exact body m rfl
theorem sc_is_way : FnScope ["way", "signs", "table"] ["way", "signs", "table"] (defScope s_is_way) := ⟨rfl, rfl, rfl, by decide +kernel, rfl, by decide +kernel, by decide +kernel⟩
theorem ok_is_way (T : Txt P K mg) : Ok P w K mg base 3 (He.ga K "_is_way") ["way", "signs", "table"] (spIsWay K) := by
  obtain ⟨fd, F⟩ := T.F_is_way
  have b : Binds K fd ["way", "signs", "table"] [] := F.bindsN fun _ _ _ _ _ _ us hl => match us, hl with | [_, _, _], _ => rfl
  refine ok_of F b sc_is_way (fun vs H Q E h => ?_) (fun cdv A outer s H vs Q E hr h => ?_)
  · obtain ⟨v, wd, m, a, ts, rfl, _⟩ := h
    rfl
  · obtain ⟨v, wd, m, a, ts, rfl, hd, hs, hn, G, k⟩ := h
    refine ⟨_, (pss_cons (ps_if (PW.pt (pw_or (pt_not (pt_val (pk (ok_is_list T) hr rfl T.g_is_list (pa_cons (pv 0) pa_nil)))) (pw_or (pt_cmpR op_ne (pe_callB call_len_seq (by rfl) T.f_len (by decide +kernel) (pa_cons (pv 0) pa_nil)) pe_int (by first | exact nomark _ | rfl)) (pw_or (pt_not (pt_val (pk (ok_is_name T) hr rfl T.g_is_name (pa_cons (pe_ix ix_tup (pv 0) pe_int (fun _ _ => rfl)) pa_nil)))) (pw_or1 (pt_not (pt_val (pk (ok_are_signs T) hr rfl T.g_are_signs (pa_cons (pe_ix ix_tup (pv 0) pe_int (fun _ _ => rfl)) (pa_cons (pv 1) (pa_cons (pe_callB call_len_seq (by rfl) T.f_len (by decide +kernel) (pa_cons (pv 2) pa_nil)) pa_nil))))))))))) (pss_one (ps_ret pe_bl)) pss_nil)
  (pss_one (ps_ret (pe_and (pe_cmpR op_in_seq (pe_ix ix_tup (pv 0) pe_int (fun _ _ => rfl)) (pe_tup (pa_cons pe_str (pa_cons pe_str pa_nil))) (by first | exact nomark _ | rfl)) (pe_one (pe_cmpR (op_neD hr.units) (pe_callTy call_tuple_of (by rfl) T.f_tuple (by decide +kernel) (pa_cons (pe_ix ix_tup (pv 0) pe_int (fun _ _ => rfl)) pa_nil)) (pv 2) (by first | exact nomark _ | rfl))))))), ?_⟩
    obtain ⟨wa, wt, rfl, hw, hwt⟩ := way_at hd
    walk_at "rd"
    refine r_isList (.inr hw) fun H1 s1 => ?_
    have hw1 := Sd.tup (Sd.of s1) hw
    refine r_bl (r_iF ?_)
    walk_at "rd"
    refine ⟨_, _, rfl, .inr hw1, ?_⟩
    walk_at "rd"
    refine r_ne rfl ?_
    refine r_bl (r_iF ?_)
    walk_at "rd"
    refine r_ixT hw1 (v := .str wd.name) (atI_nat (j := 1) rfl) ?_
    walk_at "rd"
    refine r_isName G.name fun H2 s2 => ?_
    have s12 := s1.trans s2
    have hw2 := Sd.tup (Sd.of s12) hw
    refine r_bl (r_iF ?_)
    walk_at "rd"
    refine r_ixT hw2 (v := .ref wt) (atI_nat (j := 2) rfl) ?_
    walk_at "rd"
    refine ⟨_, _, rfl, .inr (Sd.tup (Sd.of s12) hs), ?_⟩
    rw [List.length_map]
    walk_at "rd"
    refine r_signs (Sd.tup (Sd.of s12) hwt) (by rw [G.len]; omega) fun H3 s3 => ?_
    rw [inS_in (by rw [G.len]) G.in_]
    have s13 := s12.trans s3
    have hw3 := Sd.tup (Sd.of s13) hw
    refine r_bl (r_iF ?_)
    walk_at "rd"
    refine r_ixT hw3 (v := .str wd.word) (atI_nat (j := 0) rfl) ?_
    walk_at "rd"
    refine ⟨by show 2 ≤ sizeLine; decide, fun q hq => ?_⟩
    have s14 := s13.trans (Same.upd (o := .tup [V.str (Str.ofString "stands"), V.str (Str.ofString "flees")]) hq)
    refine r_in (ls := [Str.ofString "stands", Str.ofString "flees"]) (.inr (SqT.of upd_same)) ?_
    rw [decide_eq_true (in_sf G.word)]
    refine r_bl (r_iT ?_)
    walk_at "rd"
    refine r_ixT (Sd.tup (Sd.of s14) hw) (v := .ref wt) (atI_nat (j := 2) rfl) ?_
    walk_at "rd"
    refine ⟨_, _, rfl, .inr ⟨Sd.tup (Sd.of s14) hwt, ?_⟩⟩
    walk_at "rd"
    refine r_neD (ints_of (Sd.tup (Sd.of s14) hwt)) (ints_of (Sd.tup (Sd.of s14) hs)) shaped_ints shaped_ints ?_
    rw [eqv_intsD, decide_eq_false G.ne]
    exact k _ s14
theorem sc_are_ways : FnScope ["ways", "signs", "table", "way"] ["ways", "signs", "table"] (defScope s_are_ways) := ⟨rfl, rfl, rfl, by decide +kernel, rfl, by decide +kernel, by decide +kernel⟩
theorem ok_are_ways (T : Txt P K mg) : Ok P w K mg base 4 (He.ga K "_are_ways") ["ways", "signs", "table"] (spAreWays K) := by
  obtain ⟨fd, F⟩ := T.F_are_ways
  have b : Binds K fd ["ways", "signs", "table"] [] := F.bindsN fun _ _ _ _ _ _ us hl => match us, hl with | [_, _, _], _ => rfl
  refine ok_of F b sc_are_ways (fun vs H Q E h => ?_) (fun cdv A outer s H vs Q E hr h => ?_)
  · obtain ⟨p, us, wl, m, a, ts, rfl, _⟩ := h
    rfl
  · obtain ⟨p, us, wl, m, a, ts, rfl, hp, hd, hs, hn, l6, nd, G, k⟩ := h
    have hul : us.length = wl.length := by rw [DpAll.len hd, List.length_map]
    have item : ∀ {i : Nat} {x : V} {H1 : Hp}, Same H H1 → us[i]? = some x → ∃ wd, wl[i]? = some wd ∧ Dp K H1 x wd.data ∧ GoodW m ts wd := by
      intro i x H1 s1 hi
      obtain ⟨d, h1, h2⟩ := DpAll.at_ hd hi
      rw [List.getElem?_map] at h1
      obtain ⟨wd, hw, rfl⟩ := Option.map_eq_some_iff.mp h1
      exact ⟨wd, hw, Dp.sd (Sd.of s1) _ _ (flat_wd wd) h2, G wd (List.mem_of_getElem? hw)⟩
    rcases hp with hp | hp
    · refine ⟨_, (pss_cons (ps_if (PW.pt (pw_or (pt_not (pt_val (pk (ok_is_list T) hr rfl T.g_is_list (pa_cons (pv 0) pa_nil)))) (pw_or1 (pt_cmpR op_gt (pe_callB call_len_seq (by rfl) T.f_len (by decide +kernel) (pa_cons (pv 0) pa_nil)) (pe_glob (v := .int 6) rfl (T.i_MOST_WAYS).choose_spec ⟨_, rfl⟩) (by first | exact nomark _ | rfl))))) (pss_one (ps_ret pe_bl)) pss_nil)
  (pss_cons (ps_if (pt_not (pt_val (pe_callB (cr_all rfl) (by rfl) T.f_all (by decide +kernel) (pa_cons (pe_lc (own := [("way", 3)]) rfl sc_are_ways.nd (pi_list (pv 0)) (blkOk_by (own := [("way", 3)]) (N := ["ways", "signs", "table", "way"]) (sc := defScope s_are_ways) (by decide +kernel)) (fun _ _ _ _ _ => (pg_name (i := 3) sc_are_ways.nd rfl (Or.inl rfl))) (fun _ _ _ _ _ => pts_nil) (fun _ _ _ _ _ => (pk (ok_is_way T) hr rfl T.g_is_way (pa_cons (pv 3) (pa_cons (pv 1) (pa_cons (pv 2) pa_nil)))))) pa_nil)))) (pss_one (ps_ret pe_bl)) pss_nil)
  (pss_one (ps_ret (pk (ok_are_different T) hr rfl T.g_are_different (pa_cons (pe_lc (own := [("way", 3)]) rfl sc_are_ways.nd (pi_list (pv 0)) (blkOk_by (own := [("way", 3)]) (N := ["ways", "signs", "table", "way"]) (sc := defScope s_are_ways) (by decide +kernel)) (fun _ _ _ _ _ => (pg_name (i := 3) sc_are_ways.nd rfl (Or.inl rfl))) (fun _ _ _ _ _ => pts_nil) (fun _ _ _ _ _ => (pe_ix (ix_tupB (K := K) rfl) (pv 3) pe_int (fun _ _ => rfl)))) pa_nil)))))), ?_⟩
      walk_at "rd"
      refine r_isList (.inl hp) fun H1 s1 => ?_
      have hp1 := Same.seq s1 hp
      refine r_bl (r_iF ?_)
      walk_at "rd"
      refine ⟨_, _, rfl, .inl hp1, ?_⟩
      walk_at "rd"
      rw [decide_eq_false (by omega : ¬ (6 : Int) < (us.length : Int))]
      refine r_iF ?_
      walk_at "rd"
      refine lcL (P := fun i v _ => v = .bl true) way_same (Same.refl _) hp1 (by omega) (fun _ _ _ _ _ p => p) (fun i x H2 hi e2 Qe q => ?_) fun D H2 ys hD e2 hy hl hq => ?_
      · refine r_name ⟨rfl, ?_⟩
        walk_at "rd"
        obtain ⟨wd, hw, hx, Gw⟩ := item (s1.trans e2) hi
        exact ⟨_, wd, m, a, ts, rfl, hx, Sd.tup (Sd.of (s1.trans e2)) hs, hn, Gw, fun H3 s3 => q _ _ s3 rfl⟩
      · walk_at "rd"
        refine r_all (K := K) (bs := List.replicate ys.length true) (by rw [← trues hq]; exact SqL.of hy) ?_
        rw [all_true]
        refine r_bl (r_iF ?_)
        have s2 := s1.trans e2
        walk_at "rd"
        refine lcL (P := fun i v _ => ∃ wd, wl[i]? = some wd ∧ v = .str wd.name) way_same (Same.refl _) (Same.seq s2 hp) (by omega) (fun _ _ _ _ _ p => p) (fun i x H3 hi e3 Qe q => ?_) fun D3 H3 ys3 hD3 e3 hy3 hl3 hq3 => ?_
        · refine r_name ⟨rfl, ?_⟩
          walk_at "rd"
          obtain ⟨wd, hw, hx, Gw⟩ := item (s2.trans e3) hi
          obtain ⟨wa, wt, rfl, hwa, hwt⟩ := way_at hx
          refine r_ixT hwa (v := .str wd.name) (atI_nat (j := 1) rfl) ?_
          exact q _ _ (Same.refl _) ⟨wd, hw, rfl⟩
        · have hys := map_read (f := fun w : WD => V.str w.name) (by omega) hq3
          rw [show (wl.map fun w : WD => V.str w.name) = (wl.map WD.name).map V.str by rw [List.map_map]; rfl] at hys
          subst hys
          exact r_diff (E := E0) (SqL.of hy3) (by rw [List.length_map]; omega) nd fun H4 s4 => k _ ((s2.trans e3).trans s4)
    · refine ⟨_, (pss_cons (ps_if (PW.pt (pw_or (pt_not (pt_val (pk (ok_is_list T) hr rfl T.g_is_list (pa_cons (pv 0) pa_nil)))) (pw_or1 (pt_cmpR op_gt (pe_callB call_len_seq (by rfl) T.f_len (by decide +kernel) (pa_cons (pv 0) pa_nil)) (pe_glob (v := .int 6) rfl (T.i_MOST_WAYS).choose_spec ⟨_, rfl⟩) (by first | exact nomark _ | rfl))))) (pss_one (ps_ret pe_bl)) pss_nil)
  (pss_cons (ps_if (pt_not (pt_val (pe_callB (cr_all rfl) (by rfl) T.f_all (by decide +kernel) (pa_cons (pe_lc (own := [("way", 3)]) rfl sc_are_ways.nd (pi_tup (pv 0)) (blkOk_by (own := [("way", 3)]) (N := ["ways", "signs", "table", "way"]) (sc := defScope s_are_ways) (by decide +kernel)) (fun _ _ _ _ _ => (pg_name (i := 3) sc_are_ways.nd rfl (Or.inl rfl))) (fun _ _ _ _ _ => pts_nil) (fun _ _ _ _ _ => (pk (ok_is_way T) hr rfl T.g_is_way (pa_cons (pv 3) (pa_cons (pv 1) (pa_cons (pv 2) pa_nil)))))) pa_nil)))) (pss_one (ps_ret pe_bl)) pss_nil)
  (pss_one (ps_ret (pk (ok_are_different T) hr rfl T.g_are_different (pa_cons (pe_lc (own := [("way", 3)]) rfl sc_are_ways.nd (pi_tup (pv 0)) (blkOk_by (own := [("way", 3)]) (N := ["ways", "signs", "table", "way"]) (sc := defScope s_are_ways) (by decide +kernel)) (fun _ _ _ _ _ => (pg_name (i := 3) sc_are_ways.nd rfl (Or.inl rfl))) (fun _ _ _ _ _ => pts_nil) (fun _ _ _ _ _ => (pe_ix (ix_tupB (K := K) rfl) (pv 3) pe_int (fun _ _ => rfl)))) pa_nil)))))), ?_⟩
      walk_at "rd"
      refine r_isList (.inr hp) fun H1 s1 => ?_
      have hp1 := Sd.tup (Sd.of s1) hp
      refine r_bl (r_iF ?_)
      walk_at "rd"
      refine ⟨_, _, rfl, .inr hp1, ?_⟩
      walk_at "rd"
      rw [decide_eq_false (by omega : ¬ (6 : Int) < (us.length : Int))]
      refine r_iF ?_
      walk_at "rd"
      refine lcT (P := fun i v _ => v = .bl true) way_same (Same.refl _) hp1 (by omega) (fun _ _ _ _ _ p => p) (fun i x H2 hi e2 Qe q => ?_) fun D H2 ys hD e2 hy hl hq => ?_
      · refine r_name ⟨rfl, ?_⟩
        walk_at "rd"
        obtain ⟨wd, hw, hx, Gw⟩ := item (s1.trans e2) hi
        exact ⟨_, wd, m, a, ts, rfl, hx, Sd.tup (Sd.of (s1.trans e2)) hs, hn, Gw, fun H3 s3 => q _ _ s3 rfl⟩
      · walk_at "rd"
        refine r_all (K := K) (bs := List.replicate ys.length true) (by rw [← trues hq]; exact SqL.of hy) ?_
        rw [all_true]
        refine r_bl (r_iF ?_)
        have s2 := s1.trans e2
        walk_at "rd"
        refine lcT (P := fun i v _ => ∃ wd, wl[i]? = some wd ∧ v = .str wd.name) way_same (Same.refl _) (Sd.tup (Sd.of s2) hp) (by omega) (fun _ _ _ _ _ p => p) (fun i x H3 hi e3 Qe q => ?_) fun D3 H3 ys3 hD3 e3 hy3 hl3 hq3 => ?_
        · refine r_name ⟨rfl, ?_⟩
          walk_at "rd"
          obtain ⟨wd, hw, hx, Gw⟩ := item (s2.trans e3) hi
          obtain ⟨wa, wt, rfl, hwa, hwt⟩ := way_at hx
          refine r_ixT hwa (v := .str wd.name) (atI_nat (j := 1) rfl) ?_
          exact q _ _ (Same.refl _) ⟨wd, hw, rfl⟩
        · have hys := map_read (f := fun w : WD => V.str w.name) (by omega) hq3
          rw [show (wl.map fun w : WD => V.str w.name) = (wl.map WD.name).map V.str by rw [List.map_map]; rfl] at hys
          subst hys
          exact r_diff (E := E0) (SqL.of hy3) (by rw [List.length_map]; omega) nd fun H4 s4 => k _ ((s2.trans e3).trans s4)
end
end Tx

/-! ## Pr4 -/
set_option maxHeartbeats 4000000
/-! Kinds made. -/
namespace Tx
open PySem PySem.Spec PyProof.Rows L2 Gd
local macro_rules | `(tactic| walk_at "rd1") => `(tactic| first
  | ((with_reducible show tVar _ _ _ _); refine r_var (by rfl) ?_)
  | with_reducible refine r_c ?_
  | with_reducible refine r_seq ?_
  | with_reducible refine r_asg ?_
  | with_reducible refine r_name ?_
  | with_reducible refine r_op ?_
  | with_reducible refine r_I0 ?_
  | with_reducible refine r_cons ?_
  | with_reducible refine r_nil ?_
  | with_reducible refine r_call ?_
  | with_reducible refine r_ret ?_
  | with_reducible refine r_cb ?_
  | with_reducible refine r_ifS ?_
  | with_reducible refine r_test ?_
  | with_reducible refine r_bl ?_
  | with_reducible refine r_dget ?_
  | with_reducible refine r_dput ?_
  | ((with_reducible show (∃ k, [V.int _] = [V.int k] ∧ _) ∨ _); refine Or.inl ⟨_, rfl, ?_⟩)
  | with_reducible refine r_lcR ?_
  | with_reducible refine r_lcL ?_
  | with_reducible refine r_lcT ?_
  | with_reducible refine r_m1 ?_
  | with_reducible refine r_gSub ?_
  | with_reducible refine r_forR ?_
  | with_reducible refine r_forL ?_
  | with_reducible refine r_forT ?_
  | with_reducible refine r_bm ?_
  | with_reducible refine r_next ?_
  | with_reducible refine r_B ?_
  | with_reducible refine r_not ?_
  | with_reducible refine r_and ?_
  | with_reducible refine r_or ?_
  | with_reducible refine r_andV ?_
  | with_reducible refine r_orV ?_
  | with_reducible refine r_notV ?_
  | with_reducible refine r_ifE ?_
  | with_reducible refine r_drop ?_
  | with_reducible refine r_tup ?_
  | with_reducible refine r_lst ?_
  | with_reducible refine r_un ?_
  | with_reducible refine r_U ?_)
local macro_rules | `(tactic| walk_at "rd") => `(tactic| repeat walk_at "rd1")
theorem r_sfld {K : Frg} {ta tv : TE} {f : Str} {D : Ends} {σ : L2.St} {H : Hp} (h : tv σ H fun y H1 => ta σ H1 fun x H2 => ∃ a C dx fs, x = .ref a ∧ H2 a = some (.ins C dx fs) ∧ Cls K C ∧ NoAttr K C f ∧ fs.length < 1000 ∧
  D.nx σ (upd H2 a (.ins C dx (putF f y fs)))) : sFld K ta tv f D σ H := h
theorem r_tupG {K : Frg} {n : Nat} {t : TGs} {a : Addr} {xs : List V} {σ : L2.St} {H : Hp} {R : L2.St → Hp → Prop} (hs : SqT K H a xs) (hl : xs.length = n) (h : t xs σ H R) : gTup K n t (.ref a) σ H R := ⟨a, xs, rfl, hs, hl, h⟩
theorem r_gc {t : TG} {u : TGs} {v : V} {r : List V} {σ : L2.St} {H : Hp} {R : L2.St → Hp → Prop} (h : t v σ H fun σ' H' => u r σ' H' R) : gCons t u (v :: r) σ H R := ⟨v, r, rfl, h⟩
theorem r_gn {σ : L2.St} {H : Hp} {R : L2.St → Hp → Prop} (h : R σ H) : gNil [] σ H R := ⟨rfl, h⟩
theorem call_tuple_ofB {X : Cx} {K : Frg} (h : X.K = K) : CallR X (.type "tuple") (fun xs H Q => ∃ p ys, xs = [.ref p] ∧ ((SqL K H p ys ∧ ∀ l, H l = none → Q (.ref l) (upd H l (.tup ys))) ∨ (SqT K H p ys ∧ Q (.ref p) H))) := h ▸ call_tuple_of
local macro_rules | `(tactic| walk_at "rd1") => `(tactic| first
  | with_reducible refine r_lcS ?_
  | with_reducible refine r_sl ?_
  | with_reducible refine r_noPart ?_
  | with_reducible refine r_partE ?_
  | with_reducible refine r_sfld ?_
  | with_reducible refine r_gc ?_
  | with_reducible refine r_gn ?_
  | with_reducible refine r_chain ?_)
theorem putF_new {f : Str} {v : V} : ∀ {fs : List (Str × V)}, f ∉ fs.map Prod.fst → putF f v fs = fs ++ [(f, v)]
  | [], _ => rfl
  | (g, x) :: r, h => by
    have h1 : ¬ g = f := fun e => h (by rw [e]; exact List.mem_cons_self ..)
    rw [putF, if_neg h1, putF_new fun m => h (List.mem_cons_of_mem _ m)]
    rfl
/-- all but the thing at x stands -/
def Td (x : Addr) (H H' : Hp) : Prop := ∀ a o, a ≠ x → H a = some o → H' a = some o
section
variable {K : Frg} {H H' H'' : Hp} {x a C dx : Addr} {fs : List (Str × V)} {xs : List V}
theorem Td.trans (e : Td x H H') (f : Td x H' H'') : Td x H H'' := fun a o n h => f a o n (e a o n h)
theorem Td.same (e : Same H H') : Td x H H' := fun a o _ h => e a o h
theorem Td.put {o : HO} : Td x H (upd H x o) := fun a u n h => by rw [upd_ne n]; exact h
theorem Td.tup (e : Td x H H') (hx : H x = some (.ins C dx fs)) (h : SqT K H a xs) : SqT K H' a xs := by
  rcases h with h | h
  · refine .inl ?_
    rcases h with h | ⟨o, h⟩
    · exact .inl (e a _ (fun z => by rw [z, hx] at h; cases h) h)
    · exact .inr ⟨o, e a _ (fun z => by rw [z, hx] at h; cases h) h⟩
  · exact .inr h
theorem Td.seq (e : Td x H H') (hx : H x = some (.ins C dx fs)) (h : SqL K H a xs) : SqL K H' a xs := by
  rcases h with h | h
  · refine .inl ?_
    rcases h with h | ⟨o, h⟩
    · exact .inl (e a _ (fun z => by rw [z, hx] at h; cases h) h)
    · exact .inr ⟨o, e a _ (fun z => by rw [z, hx] at h; cases h) h⟩
  · exact .inr h
/-- a new thing is made, and only it is changed: all that was there stands -/
theorem Td.made {dx : Addr} {o : HO} (nx : H x = none) (nd : H dx = none) (e : Td x (upd (upd H dx (.own x)) x o) H') : Same H H' := fun a u h => by
  have n1 := ne_of_none h nx
  have n2 := ne_of_none h nd
  refine e a u n1 ?_
  rw [upd_ne n1, upd_ne n2]
  exact h
end
def kindL (m : Int) (k : KD) (vt vw : V) : List (Str × V) :=
  [(Str.ofString "signs", .int m), (Str.ofString "name", .str k.name), (Str.ofString "inputs", .int k.inputs), (Str.ofString "table", vt), (Str.ofString "start", startV k.start), (Str.ofString "ways", vw), (Str.ofString "price", .int k.price)]
/-- a kind stands there -/
structure KindAt (K : Frg) (H : Hp) (x : Addr) (m : Int) (k : KD) : Prop where
  ex : ∃ (dx : Addr) (vt vw : V), H x = some (.ins (He.ga K "Kind") dx (kindL m k vt vw)) ∧ Dp K H vt (intsD k.table) ∧ Dp K H vw (waysD k.ways)
def spKind (K : Frg) : Sp := fun vs H Q _ => ∃ (x dx ta p : Addr) (m : Int) (k : KD) (us : List V), vs = [.ref x, .int m, .str k.name, .int k.inputs, .ref ta, startV k.start, .ref p, .int k.price] ∧ H x = some (.ins (He.ga K "Kind") dx []) ∧
  SqT K H ta (k.table.map V.int) ∧ (SqL K H p us ∨ SqT K H p us) ∧ DpAll K H us (k.ways.map WD.data) ∧ GoodK m k ∧ ∀ H', Td x H H' → KindAt K H' x m k → Q .non H'
section
variable {P : Program} {w : World} {K : Frg} {mg : Str → Option Value} {base : Heap}
theorem sc_Kind_init : FnScope ["self", "signs", "name", "inputs", "table", "start", "ways", "price", "word", "label", "broken"] ["self", "signs", "name", "inputs", "table", "start", "ways", "price"] (defScope s_Kind_init) := ⟨rfl, rfl, rfl, by decide +kernel, rfl, by decide +kernel, by decide +kernel⟩
theorem ok_Kind_init (T : Txt P K mg) : OkK P w K mg base 5 (He.ma K (He.ga K "Kind") "__init__") ["self", "signs", "name", "inputs", "table", "start", "ways", "price"] (spKind K) 5 ["start", "ways", "price"] := by
  obtain ⟨fd, F⟩ := T.F_Kind_init
  have b : KB K fd ["self", "signs", "name", "inputs", "table", "start", "ways", "price"] 5 ["start", "ways", "price"] := kb_of F (by simp [DefA.kws, d_Kind_init]) fun D doc pm an cdv ct us ws l1 l2 => match us, ws, l1, l2 with | [_, _, _, _, _], [_, _, _], _, _ => rfl
  refine okK_of F b sc_Kind_init (fun vs H Q E h => ?_) (fun cdv A outer s H vs Q E hr h => ?_)
  · obtain ⟨x, dx, ta, p, m, k, us, rfl, _⟩ := h
    rfl
  · obtain ⟨x, dx, ta, p, m, kd, us, rfl, hx, hta, hp, hus, G, k⟩ := h
    have hm := G.m_
    have m2 : 2 ≤ m := by rcases hm with rfl | rfl <;> decide
    have m3 : m ≤ 3 := by rcases hm with rfl | rfl <;> decide
    have l27 : kd.table.length ≤ 27 := by have := sz_hi (b := kd.start.isSome) hm G.inputs; have := G.len; omega
    have p0 := G.p0
    have p1 := G.p1
    have hul : us.length = kd.ways.length := by rw [DpAll.len hus, List.length_map]
    have l6 := G.most
    have item : ∀ {i : Nat} {v : V}, us[i]? = some v → ∃ wd, kd.ways[i]? = some wd ∧ ∃ a b : Addr, v = .ref a ∧ SqT K H a [.str wd.word, .str wd.name, .ref b] ∧ SqT K H b (wd.table.map V.int) := by
      intro i v hi
      obtain ⟨d, h1, h2⟩ := DpAll.at_ hus hi
      rw [List.getElem?_map] at h1
      obtain ⟨wd, hw, rfl⟩ := Option.map_eq_some_iff.mp h1
      exact ⟨wd, hw, way_at h2⟩
    rcases hp with hp | hp
    · refine ⟨_, (pss_cons (ps_if (pt_not (pt_val (pk (ok_is_number T) hr rfl T.g_is_number (pa_cons (pv 1) (pa_cons pe_int (pa_cons pe_int pa_nil)))))) (pss_one ps_never) pss_nil)
  (pss_cons (ps_if (pt_not (pt_val (pk (ok_is_name T) hr rfl T.g_is_name (pa_cons (pv 2) pa_nil)))) (pss_one ps_never) pss_nil)
  (pss_cons (ps_if (PW.pt (pw_or (pt_not (pt_val (pk (ok_is_table T) hr rfl T.g_is_table (pa_cons (pv 1) (pa_cons (pv 3) (pa_cons (pv 5) (pa_cons (pv 4) pa_nil))))))) (pw_or1 (pt_not (pt_val (pk (ok_is_number T) hr rfl T.g_is_number (pa_cons (pv 7) (pa_cons pe_int (pa_cons (pe_glob (v := .int 600) rfl (T.i_MOST_PRICE).choose_spec ⟨_, rfl⟩) pa_nil))))))))) (pss_one ps_never) pss_nil)
  (pss_cons (ps_if (pt_not (pt_val (pk (ok_are_ways T) hr rfl T.g_are_ways (pa_cons (pv 6) (pa_cons (pv 1) (pa_cons (pe_callTy call_tuple_of (by rfl) T.f_tuple (by decide +kernel) (pa_cons (pv 4) pa_nil)) pa_nil)))))) (pss_one ps_never) pss_nil)
  (pss_cons (ps_fld (pv 0) (pv 1) rfl)
  (pss_cons (ps_fld (pv 0) (pv 2) rfl)
  (pss_cons (ps_fld (pv 0) (pv 3) rfl)
  (pss_cons (ps_fld (pv 0) (pe_callTy call_tuple_of (by rfl) T.f_tuple (by decide +kernel) (pa_cons (pv 4) pa_nil)) rfl)
  (pss_cons (ps_fld (pv 0) (pv 5) rfl)
  (pss_cons (ps_fld (pv 0) (pe_callTy call_tuple_of (by rfl) T.f_tuple (by decide +kernel) (pa_cons (pe_lc (own := [("word", 8), ("label", 9), ("broken", 10)]) rfl sc_Kind_init.nd (pi_list (pv 6)) (blkOk_by (own := [("word", 8), ("label", 9), ("broken", 10)]) (N := ["self", "signs", "name", "inputs", "table", "start", "ways", "price", "word", "label", "broken"]) (sc := defScope s_Kind_init) (by decide +kernel)) (fun _ _ _ _ _ => (pg_tupB (K := K) (n := 3) rfl (by rfl) (pgs_cons (pg_name (i := 8) sc_Kind_init.nd rfl (Or.inl rfl)) (pgs_cons (pg_name (i := 9) sc_Kind_init.nd rfl (Or.inl rfl)) (pgs_cons (pg_name (i := 10) sc_Kind_init.nd rfl (Or.inl rfl)) pgs_nil))))) (fun _ _ _ _ _ => pts_nil) (fun _ _ _ _ _ => (pe_tup (pa_cons (pv 8) (pa_cons (pv 9) (pa_cons (pe_callTy (call_tuple_ofB (K := K) rfl) (by rfl) T.f_tuple (by decide +kernel) (pa_cons (pv 10) pa_nil)) pa_nil)))))) pa_nil)) rfl)
  (pss_one (ps_fld (pv 0) (pv 7) rfl)))))))))))), ?_⟩
      walk_at "rd"
      refine r_number ?_
      rw [decide_eq_true (⟨by omega, by omega⟩ : (2 : Int) ≤ m ∧ m ≤ 3)]
      refine r_bl (r_iF ?_)
      walk_at "rd"
      refine r_isName G.name fun H1 s1 => ?_
      refine r_bl (r_iF ?_)
      walk_at "rd"
      refine ⟨m, kd.inputs, kd.start, ta, kd.table, rfl, hm, G.inputs, G.start, Sd.tup (Sd.of s1) hta, G.len, G.in_, fun H2 s2 => ?_⟩
      have s2 := s1.trans s2
      refine r_bl (r_iF ?_)
      walk_at "rd"
      refine r_number ?_
      rw [decide_eq_true (⟨by omega, by omega⟩ : (0 : Int) ≤ kd.price ∧ kd.price ≤ 600)]
      refine r_bl (r_iF ?_)
      walk_at "rd"
      refine ⟨_, _, rfl, .inr ⟨Sd.tup (Sd.of s2) hta, ?_⟩⟩
      walk_at "rd"
      refine ⟨p, us, kd.ways, m, ta, kd.table, rfl, .inl (Same.seq s2 hp), DpAll.sd (Sd.of s2) _ _ (flat_wds _) hus, Sd.tup (Sd.of s2) hta, by omega, l6, G.nd, G.ways, fun H3 s3 => ?_⟩
      have s3 := s2.trans s3
      refine r_bl (r_iF ?_)
      have e3 : Td x H H3 := Td.same s3
      have hx3 := s3 _ _ hx
      walk_at "rd"
      refine ⟨x, _, dx, [], rfl, hx3, T.c_Kind, T.n_Kind_signs, by show 0 < 1000; decide, ?_⟩
      rw [show putF (Str.ofString "signs") (.int m) [] = [(Str.ofString "signs", .int m)] from putF_new (by show Str.ofString "signs" ∉ ([] : List Str); decide +kernel)]
      have ea := e3.trans (Td.put (H := H3) (o := .ins (He.ga K "Kind") dx [(Str.ofString "signs", .int m)]))
      have hxa := (upd_same : upd H3 x (.ins (He.ga K "Kind") dx [(Str.ofString "signs", .int m)]) x = _)
      generalize upd H3 x (.ins (He.ga K "Kind") dx [(Str.ofString "signs", .int m)]) = HXa at ea hxa ⊢
      walk_at "rd"
      refine ⟨x, _, dx, [(Str.ofString "signs", .int m)], rfl, hxa, T.c_Kind, T.n_Kind_name, by show 1 < 1000; decide, ?_⟩
      rw [show putF (Str.ofString "name") (.str kd.name) [(Str.ofString "signs", .int m)] = [(Str.ofString "signs", .int m), (Str.ofString "name", .str kd.name)] from putF_new (by show Str.ofString "name" ∉ ([Str.ofString "signs"] : List Str); decide +kernel)]
      have eb := ea.trans (Td.put (H := HXa) (o := .ins (He.ga K "Kind") dx [(Str.ofString "signs", .int m), (Str.ofString "name", .str kd.name)]))
      have hxb := (upd_same : upd HXa x (.ins (He.ga K "Kind") dx [(Str.ofString "signs", .int m), (Str.ofString "name", .str kd.name)]) x = _)
      generalize upd HXa x (.ins (He.ga K "Kind") dx [(Str.ofString "signs", .int m), (Str.ofString "name", .str kd.name)]) = HXb at eb hxb ⊢
      walk_at "rd"
      refine ⟨x, _, dx, [(Str.ofString "signs", .int m), (Str.ofString "name", .str kd.name)], rfl, hxb, T.c_Kind, T.n_Kind_inputs, by show 2 < 1000; decide, ?_⟩
      rw [show putF (Str.ofString "inputs") (.int kd.inputs) [(Str.ofString "signs", .int m), (Str.ofString "name", .str kd.name)] = [(Str.ofString "signs", .int m), (Str.ofString "name", .str kd.name), (Str.ofString "inputs", .int kd.inputs)] from putF_new (by show Str.ofString "inputs" ∉ ([Str.ofString "signs", Str.ofString "name"] : List Str); decide +kernel)]
      have ec := eb.trans (Td.put (H := HXb) (o := .ins (He.ga K "Kind") dx [(Str.ofString "signs", .int m), (Str.ofString "name", .str kd.name), (Str.ofString "inputs", .int kd.inputs)]))
      have hxc := (upd_same : upd HXb x (.ins (He.ga K "Kind") dx [(Str.ofString "signs", .int m), (Str.ofString "name", .str kd.name), (Str.ofString "inputs", .int kd.inputs)]) x = _)
      generalize upd HXb x (.ins (He.ga K "Kind") dx [(Str.ofString "signs", .int m), (Str.ofString "name", .str kd.name), (Str.ofString "inputs", .int kd.inputs)]) = HXc at ec hxc ⊢
      walk_at "rd"
      have ht3 := ec.tup hx hta
      refine ⟨_, _, rfl, .inr ⟨ht3, ?_⟩⟩
      walk_at "rd"
      refine ⟨x, _, dx, [(Str.ofString "signs", .int m), (Str.ofString "name", .str kd.name), (Str.ofString "inputs", .int kd.inputs)], rfl, hxc, T.c_Kind, T.n_Kind_table, by show 3 < 1000; decide, ?_⟩
      rw [show putF (Str.ofString "table") (.ref ta) [(Str.ofString "signs", .int m), (Str.ofString "name", .str kd.name), (Str.ofString "inputs", .int kd.inputs)] = [(Str.ofString "signs", .int m), (Str.ofString "name", .str kd.name), (Str.ofString "inputs", .int kd.inputs), (Str.ofString "table", .ref ta)] from putF_new (by show Str.ofString "table" ∉ ([Str.ofString "signs", Str.ofString "name", Str.ofString "inputs"] : List Str); decide +kernel)]
      have ed := ec.trans (Td.put (H := HXc) (o := .ins (He.ga K "Kind") dx [(Str.ofString "signs", .int m), (Str.ofString "name", .str kd.name), (Str.ofString "inputs", .int kd.inputs), (Str.ofString "table", .ref ta)]))
      have hxd := (upd_same : upd HXc x (.ins (He.ga K "Kind") dx [(Str.ofString "signs", .int m), (Str.ofString "name", .str kd.name), (Str.ofString "inputs", .int kd.inputs), (Str.ofString "table", .ref ta)]) x = _)
      generalize upd HXc x (.ins (He.ga K "Kind") dx [(Str.ofString "signs", .int m), (Str.ofString "name", .str kd.name), (Str.ofString "inputs", .int kd.inputs), (Str.ofString "table", .ref ta)]) = HXd at ed hxd ⊢
      walk_at "rd"
      refine ⟨x, _, dx, [(Str.ofString "signs", .int m), (Str.ofString "name", .str kd.name), (Str.ofString "inputs", .int kd.inputs), (Str.ofString "table", .ref ta)], rfl, hxd, T.c_Kind, T.n_Kind_start, by show 4 < 1000; decide, ?_⟩
      rw [show putF (Str.ofString "start") (startV kd.start) [(Str.ofString "signs", .int m), (Str.ofString "name", .str kd.name), (Str.ofString "inputs", .int kd.inputs), (Str.ofString "table", .ref ta)] = [(Str.ofString "signs", .int m), (Str.ofString "name", .str kd.name), (Str.ofString "inputs", .int kd.inputs), (Str.ofString "table", .ref ta), (Str.ofString "start", startV kd.start)] from putF_new (by show Str.ofString "start" ∉ ([Str.ofString "signs", Str.ofString "name", Str.ofString "inputs", Str.ofString "table"] : List Str); decide +kernel)]
      have e5 := ed.trans (Td.put (H := HXd) (o := .ins (He.ga K "Kind") dx [(Str.ofString "signs", .int m), (Str.ofString "name", .str kd.name), (Str.ofString "inputs", .int kd.inputs), (Str.ofString "table", .ref ta), (Str.ofString "start", startV kd.start)]))
      have hx5 := (upd_same : upd HXd x (.ins (He.ga K "Kind") dx [(Str.ofString "signs", .int m), (Str.ofString "name", .str kd.name), (Str.ofString "inputs", .int kd.inputs), (Str.ofString "table", .ref ta), (Str.ofString "start", startV kd.start)]) x = _)
      generalize upd HXd x (.ins (He.ga K "Kind") dx [(Str.ofString "signs", .int m), (Str.ofString "name", .str kd.name), (Str.ofString "inputs", .int kd.inputs), (Str.ofString "table", .ref ta), (Str.ofString "start", startV kd.start)]) = HX5 at e5 hx5 ⊢
      walk_at "rd"
      have hp5 := e5.seq hx hp
      refine lcL (P := fun i v H' => ∃ wd a b, kd.ways[i]? = some wd ∧ v = .ref a ∧ SqT K H' a [.str wd.word, .str wd.name, .ref b] ∧ SqT K H' b (wd.table.map V.int)) way_same (Same.refl _) hp5 (by omega) (fun i v A B sd ⟨wd, a, b, h1, h2, h3, h4⟩ => ⟨wd, a, b, h1, h2, sd.tup h3, sd.tup h4⟩) (fun i v H6 hi e6 Qe q => ?_) fun D H6 ys hD e6 hy hl hq => ?_
      · obtain ⟨wd, hw, a, b, rfl, ha, hb⟩ := item hi
        have ha := Sd.tup (Sd.of e6) (e5.tup hx ha)
        have hb := Sd.tup (Sd.of e6) (e5.tup hx hb)
        refine r_tupG ha rfl ?_
        walk_at "rd"
        refine ⟨rfl, ?_⟩
        walk_at "rd"
        refine ⟨_, _, rfl, .inr ⟨hb, ?_⟩⟩
        walk_at "rd"
        refine ⟨by show 3 ≤ sizeLine; decide, fun p3 hp3 => ?_⟩
        have up := Same.upd (o := .tup [V.str wd.word, V.str wd.name, V.ref b]) hp3
        exact q _ _ up ⟨wd, p3, b, hw, rfl, SqT.of upd_same, Sd.tup (Sd.of up) hb⟩
      walk_at "rd"
      refine ⟨_, _, rfl, .inl ⟨SqL.of hy, fun q hq2 => ?_⟩⟩
      have up6 := e6.trans (Same.upd (o := .tup ys) hq2)
      have hx6 := up6 _ _ hx5
      have e6 := e5.trans (Td.same up6)
      have hq6 : SqT K (upd H6 q (.tup ys)) q ys := SqT.of upd_same
      have hy6 : ∀ (i : Nat) v, ys[i]? = some v → ∃ wd a b, kd.ways[i]? = some wd ∧ v = .ref a ∧ SqT K (upd H6 q (.tup ys)) a [.str wd.word, .str wd.name, .ref b] ∧ SqT K (upd H6 q (.tup ys)) b (wd.table.map V.int) := fun i v hi => by
        obtain ⟨wd, a, b, h1, h2, h3, h4⟩ := hq i v hi
        exact ⟨wd, a, b, h1, h2, (Sd.new hq2).tup h3, (Sd.new hq2).tup h4⟩
      generalize upd H6 q (.tup ys) = H6' at hx6 e6 hq6 hy6 ⊢
      walk_at "rd"
      refine ⟨x, _, dx, [(Str.ofString "signs", .int m), (Str.ofString "name", .str kd.name), (Str.ofString "inputs", .int kd.inputs), (Str.ofString "table", .ref ta), (Str.ofString "start", startV kd.start)], rfl, hx6, T.c_Kind, T.n_Kind_ways, by show 5 < 1000; decide, ?_⟩
      rw [show putF (Str.ofString "ways") (.ref q) [(Str.ofString "signs", .int m), (Str.ofString "name", .str kd.name), (Str.ofString "inputs", .int kd.inputs), (Str.ofString "table", .ref ta), (Str.ofString "start", startV kd.start)] = [(Str.ofString "signs", .int m), (Str.ofString "name", .str kd.name), (Str.ofString "inputs", .int kd.inputs), (Str.ofString "table", .ref ta), (Str.ofString "start", startV kd.start), (Str.ofString "ways", .ref q)] from putF_new (by show Str.ofString "ways" ∉ ([Str.ofString "signs", Str.ofString "name", Str.ofString "inputs", Str.ofString "table", Str.ofString "start"] : List Str); decide +kernel)]
      have e7 := e6.trans (Td.put (H := H6') (o := .ins (He.ga K "Kind") dx [(Str.ofString "signs", .int m), (Str.ofString "name", .str kd.name), (Str.ofString "inputs", .int kd.inputs), (Str.ofString "table", .ref ta), (Str.ofString "start", startV kd.start), (Str.ofString "ways", .ref q)]))
      have hx7 := (upd_same : upd H6' x (.ins (He.ga K "Kind") dx [(Str.ofString "signs", .int m), (Str.ofString "name", .str kd.name), (Str.ofString "inputs", .int kd.inputs), (Str.ofString "table", .ref ta), (Str.ofString "start", startV kd.start), (Str.ofString "ways", .ref q)]) x = _)
      have t7 := (Td.put (x := x) (H := H6') (o := .ins (He.ga K "Kind") dx [(Str.ofString "signs", .int m), (Str.ofString "name", .str kd.name), (Str.ofString "inputs", .int kd.inputs), (Str.ofString "table", .ref ta), (Str.ofString "start", startV kd.start), (Str.ofString "ways", .ref q)]))
      generalize upd H6' x (.ins (He.ga K "Kind") dx [(Str.ofString "signs", .int m), (Str.ofString "name", .str kd.name), (Str.ofString "inputs", .int kd.inputs), (Str.ofString "table", .ref ta), (Str.ofString "start", startV kd.start), (Str.ofString "ways", .ref q)]) = HX7 at e7 hx7 t7 ⊢
      walk_at "rd"
      refine ⟨x, _, dx, [(Str.ofString "signs", .int m), (Str.ofString "name", .str kd.name), (Str.ofString "inputs", .int kd.inputs), (Str.ofString "table", .ref ta), (Str.ofString "start", startV kd.start), (Str.ofString "ways", .ref q)], rfl, hx7, T.c_Kind, T.n_Kind_price, by show 6 < 1000; decide, ?_⟩
      rw [show putF (Str.ofString "price") (.int kd.price) [(Str.ofString "signs", .int m), (Str.ofString "name", .str kd.name), (Str.ofString "inputs", .int kd.inputs), (Str.ofString "table", .ref ta), (Str.ofString "start", startV kd.start), (Str.ofString "ways", .ref q)] = [(Str.ofString "signs", .int m), (Str.ofString "name", .str kd.name), (Str.ofString "inputs", .int kd.inputs), (Str.ofString "table", .ref ta), (Str.ofString "start", startV kd.start), (Str.ofString "ways", .ref q), (Str.ofString "price", .int kd.price)] from putF_new (by show Str.ofString "price" ∉ ([Str.ofString "signs", Str.ofString "name", Str.ofString "inputs", Str.ofString "table", Str.ofString "start", Str.ofString "ways"] : List Str); decide +kernel)]
      have e8 := e7.trans (Td.put (H := HX7) (o := .ins (He.ga K "Kind") dx [(Str.ofString "signs", .int m), (Str.ofString "name", .str kd.name), (Str.ofString "inputs", .int kd.inputs), (Str.ofString "table", .ref ta), (Str.ofString "start", startV kd.start), (Str.ofString "ways", .ref q), (Str.ofString "price", .int kd.price)]))
      have hx8 := (upd_same : upd HX7 x (.ins (He.ga K "Kind") dx [(Str.ofString "signs", .int m), (Str.ofString "name", .str kd.name), (Str.ofString "inputs", .int kd.inputs), (Str.ofString "table", .ref ta), (Str.ofString "start", startV kd.start), (Str.ofString "ways", .ref q), (Str.ofString "price", .int kd.price)]) x = _)
      walk_at "rd"
      have t8 := t7.trans (Td.put (H := HX7) (o := .ins (He.ga K "Kind") dx (kindL m kd (.ref ta) (.ref q))))
      refine k _ e8 ⟨dx, .ref ta, .ref q, hx8, ints_of (e8.tup hx hta), .tup (t8.tup hx6 hq6) (DpAll.of_at (by rw [List.length_map]; omega) fun i v d hv hd => ?_)⟩
      rw [List.getElem?_map] at hd
      obtain ⟨wd, hw, rfl⟩ := Option.map_eq_some_iff.mp hd
      obtain ⟨wd2, a, b, h1, rfl, h3, h4⟩ := hy6 i v hv
      rw [hw] at h1
      cases h1
      exact .tup (t8.tup hx6 h3) (.cons (.str _) (.cons (.str _) (.cons (ints_of (t8.tup hx6 h4)) .nil)))
    · refine ⟨_, (pss_cons (ps_if (pt_not (pt_val (pk (ok_is_number T) hr rfl T.g_is_number (pa_cons (pv 1) (pa_cons pe_int (pa_cons pe_int pa_nil)))))) (pss_one ps_never) pss_nil)
  (pss_cons (ps_if (pt_not (pt_val (pk (ok_is_name T) hr rfl T.g_is_name (pa_cons (pv 2) pa_nil)))) (pss_one ps_never) pss_nil)
  (pss_cons (ps_if (PW.pt (pw_or (pt_not (pt_val (pk (ok_is_table T) hr rfl T.g_is_table (pa_cons (pv 1) (pa_cons (pv 3) (pa_cons (pv 5) (pa_cons (pv 4) pa_nil))))))) (pw_or1 (pt_not (pt_val (pk (ok_is_number T) hr rfl T.g_is_number (pa_cons (pv 7) (pa_cons pe_int (pa_cons (pe_glob (v := .int 600) rfl (T.i_MOST_PRICE).choose_spec ⟨_, rfl⟩) pa_nil))))))))) (pss_one ps_never) pss_nil)
  (pss_cons (ps_if (pt_not (pt_val (pk (ok_are_ways T) hr rfl T.g_are_ways (pa_cons (pv 6) (pa_cons (pv 1) (pa_cons (pe_callTy call_tuple_of (by rfl) T.f_tuple (by decide +kernel) (pa_cons (pv 4) pa_nil)) pa_nil)))))) (pss_one ps_never) pss_nil)
  (pss_cons (ps_fld (pv 0) (pv 1) rfl)
  (pss_cons (ps_fld (pv 0) (pv 2) rfl)
  (pss_cons (ps_fld (pv 0) (pv 3) rfl)
  (pss_cons (ps_fld (pv 0) (pe_callTy call_tuple_of (by rfl) T.f_tuple (by decide +kernel) (pa_cons (pv 4) pa_nil)) rfl)
  (pss_cons (ps_fld (pv 0) (pv 5) rfl)
  (pss_cons (ps_fld (pv 0) (pe_callTy call_tuple_of (by rfl) T.f_tuple (by decide +kernel) (pa_cons (pe_lc (own := [("word", 8), ("label", 9), ("broken", 10)]) rfl sc_Kind_init.nd (pi_tup (pv 6)) (blkOk_by (own := [("word", 8), ("label", 9), ("broken", 10)]) (N := ["self", "signs", "name", "inputs", "table", "start", "ways", "price", "word", "label", "broken"]) (sc := defScope s_Kind_init) (by decide +kernel)) (fun _ _ _ _ _ => (pg_tupB (K := K) (n := 3) rfl (by rfl) (pgs_cons (pg_name (i := 8) sc_Kind_init.nd rfl (Or.inl rfl)) (pgs_cons (pg_name (i := 9) sc_Kind_init.nd rfl (Or.inl rfl)) (pgs_cons (pg_name (i := 10) sc_Kind_init.nd rfl (Or.inl rfl)) pgs_nil))))) (fun _ _ _ _ _ => pts_nil) (fun _ _ _ _ _ => (pe_tup (pa_cons (pv 8) (pa_cons (pv 9) (pa_cons (pe_callTy (call_tuple_ofB (K := K) rfl) (by rfl) T.f_tuple (by decide +kernel) (pa_cons (pv 10) pa_nil)) pa_nil)))))) pa_nil)) rfl)
  (pss_one (ps_fld (pv 0) (pv 7) rfl)))))))))))), ?_⟩
      walk_at "rd"
      refine r_number ?_
      rw [decide_eq_true (⟨by omega, by omega⟩ : (2 : Int) ≤ m ∧ m ≤ 3)]
      refine r_bl (r_iF ?_)
      walk_at "rd"
      refine r_isName G.name fun H1 s1 => ?_
      refine r_bl (r_iF ?_)
      walk_at "rd"
      refine ⟨m, kd.inputs, kd.start, ta, kd.table, rfl, hm, G.inputs, G.start, Sd.tup (Sd.of s1) hta, G.len, G.in_, fun H2 s2 => ?_⟩
      have s2 := s1.trans s2
      refine r_bl (r_iF ?_)
      walk_at "rd"
      refine r_number ?_
      rw [decide_eq_true (⟨by omega, by omega⟩ : (0 : Int) ≤ kd.price ∧ kd.price ≤ 600)]
      refine r_bl (r_iF ?_)
      walk_at "rd"
      refine ⟨_, _, rfl, .inr ⟨Sd.tup (Sd.of s2) hta, ?_⟩⟩
      walk_at "rd"
      refine ⟨p, us, kd.ways, m, ta, kd.table, rfl, .inr (Sd.tup (Sd.of s2) hp), DpAll.sd (Sd.of s2) _ _ (flat_wds _) hus, Sd.tup (Sd.of s2) hta, by omega, l6, G.nd, G.ways, fun H3 s3 => ?_⟩
      have s3 := s2.trans s3
      refine r_bl (r_iF ?_)
      have e3 : Td x H H3 := Td.same s3
      have hx3 := s3 _ _ hx
      walk_at "rd"
      refine ⟨x, _, dx, [], rfl, hx3, T.c_Kind, T.n_Kind_signs, by show 0 < 1000; decide, ?_⟩
      rw [show putF (Str.ofString "signs") (.int m) [] = [(Str.ofString "signs", .int m)] from putF_new (by show Str.ofString "signs" ∉ ([] : List Str); decide +kernel)]
      have ea := e3.trans (Td.put (H := H3) (o := .ins (He.ga K "Kind") dx [(Str.ofString "signs", .int m)]))
      have hxa := (upd_same : upd H3 x (.ins (He.ga K "Kind") dx [(Str.ofString "signs", .int m)]) x = _)
      generalize upd H3 x (.ins (He.ga K "Kind") dx [(Str.ofString "signs", .int m)]) = HXa at ea hxa ⊢
      walk_at "rd"
      refine ⟨x, _, dx, [(Str.ofString "signs", .int m)], rfl, hxa, T.c_Kind, T.n_Kind_name, by show 1 < 1000; decide, ?_⟩
      rw [show putF (Str.ofString "name") (.str kd.name) [(Str.ofString "signs", .int m)] = [(Str.ofString "signs", .int m), (Str.ofString "name", .str kd.name)] from putF_new (by show Str.ofString "name" ∉ ([Str.ofString "signs"] : List Str); decide +kernel)]
      have eb := ea.trans (Td.put (H := HXa) (o := .ins (He.ga K "Kind") dx [(Str.ofString "signs", .int m), (Str.ofString "name", .str kd.name)]))
      have hxb := (upd_same : upd HXa x (.ins (He.ga K "Kind") dx [(Str.ofString "signs", .int m), (Str.ofString "name", .str kd.name)]) x = _)
      generalize upd HXa x (.ins (He.ga K "Kind") dx [(Str.ofString "signs", .int m), (Str.ofString "name", .str kd.name)]) = HXb at eb hxb ⊢
      walk_at "rd"
      refine ⟨x, _, dx, [(Str.ofString "signs", .int m), (Str.ofString "name", .str kd.name)], rfl, hxb, T.c_Kind, T.n_Kind_inputs, by show 2 < 1000; decide, ?_⟩
      rw [show putF (Str.ofString "inputs") (.int kd.inputs) [(Str.ofString "signs", .int m), (Str.ofString "name", .str kd.name)] = [(Str.ofString "signs", .int m), (Str.ofString "name", .str kd.name), (Str.ofString "inputs", .int kd.inputs)] from putF_new (by show Str.ofString "inputs" ∉ ([Str.ofString "signs", Str.ofString "name"] : List Str); decide +kernel)]
      have ec := eb.trans (Td.put (H := HXb) (o := .ins (He.ga K "Kind") dx [(Str.ofString "signs", .int m), (Str.ofString "name", .str kd.name), (Str.ofString "inputs", .int kd.inputs)]))
      have hxc := (upd_same : upd HXb x (.ins (He.ga K "Kind") dx [(Str.ofString "signs", .int m), (Str.ofString "name", .str kd.name), (Str.ofString "inputs", .int kd.inputs)]) x = _)
      generalize upd HXb x (.ins (He.ga K "Kind") dx [(Str.ofString "signs", .int m), (Str.ofString "name", .str kd.name), (Str.ofString "inputs", .int kd.inputs)]) = HXc at ec hxc ⊢
      walk_at "rd"
      have ht3 := ec.tup hx hta
      refine ⟨_, _, rfl, .inr ⟨ht3, ?_⟩⟩
      walk_at "rd"
      refine ⟨x, _, dx, [(Str.ofString "signs", .int m), (Str.ofString "name", .str kd.name), (Str.ofString "inputs", .int kd.inputs)], rfl, hxc, T.c_Kind, T.n_Kind_table, by show 3 < 1000; decide, ?_⟩
      rw [show putF (Str.ofString "table") (.ref ta) [(Str.ofString "signs", .int m), (Str.ofString "name", .str kd.name), (Str.ofString "inputs", .int kd.inputs)] = [(Str.ofString "signs", .int m), (Str.ofString "name", .str kd.name), (Str.ofString "inputs", .int kd.inputs), (Str.ofString "table", .ref ta)] from putF_new (by show Str.ofString "table" ∉ ([Str.ofString "signs", Str.ofString "name", Str.ofString "inputs"] : List Str); decide +kernel)]
      have ed := ec.trans (Td.put (H := HXc) (o := .ins (He.ga K "Kind") dx [(Str.ofString "signs", .int m), (Str.ofString "name", .str kd.name), (Str.ofString "inputs", .int kd.inputs), (Str.ofString "table", .ref ta)]))
      have hxd := (upd_same : upd HXc x (.ins (He.ga K "Kind") dx [(Str.ofString "signs", .int m), (Str.ofString "name", .str kd.name), (Str.ofString "inputs", .int kd.inputs), (Str.ofString "table", .ref ta)]) x = _)
      generalize upd HXc x (.ins (He.ga K "Kind") dx [(Str.ofString "signs", .int m), (Str.ofString "name", .str kd.name), (Str.ofString "inputs", .int kd.inputs), (Str.ofString "table", .ref ta)]) = HXd at ed hxd ⊢
      walk_at "rd"
      refine ⟨x, _, dx, [(Str.ofString "signs", .int m), (Str.ofString "name", .str kd.name), (Str.ofString "inputs", .int kd.inputs), (Str.ofString "table", .ref ta)], rfl, hxd, T.c_Kind, T.n_Kind_start, by show 4 < 1000; decide, ?_⟩
      rw [show putF (Str.ofString "start") (startV kd.start) [(Str.ofString "signs", .int m), (Str.ofString "name", .str kd.name), (Str.ofString "inputs", .int kd.inputs), (Str.ofString "table", .ref ta)] = [(Str.ofString "signs", .int m), (Str.ofString "name", .str kd.name), (Str.ofString "inputs", .int kd.inputs), (Str.ofString "table", .ref ta), (Str.ofString "start", startV kd.start)] from putF_new (by show Str.ofString "start" ∉ ([Str.ofString "signs", Str.ofString "name", Str.ofString "inputs", Str.ofString "table"] : List Str); decide +kernel)]
      have e5 := ed.trans (Td.put (H := HXd) (o := .ins (He.ga K "Kind") dx [(Str.ofString "signs", .int m), (Str.ofString "name", .str kd.name), (Str.ofString "inputs", .int kd.inputs), (Str.ofString "table", .ref ta), (Str.ofString "start", startV kd.start)]))
      have hx5 := (upd_same : upd HXd x (.ins (He.ga K "Kind") dx [(Str.ofString "signs", .int m), (Str.ofString "name", .str kd.name), (Str.ofString "inputs", .int kd.inputs), (Str.ofString "table", .ref ta), (Str.ofString "start", startV kd.start)]) x = _)
      generalize upd HXd x (.ins (He.ga K "Kind") dx [(Str.ofString "signs", .int m), (Str.ofString "name", .str kd.name), (Str.ofString "inputs", .int kd.inputs), (Str.ofString "table", .ref ta), (Str.ofString "start", startV kd.start)]) = HX5 at e5 hx5 ⊢
      walk_at "rd"
      have hp5 := e5.tup hx hp
      refine lcT (P := fun i v H' => ∃ wd a b, kd.ways[i]? = some wd ∧ v = .ref a ∧ SqT K H' a [.str wd.word, .str wd.name, .ref b] ∧ SqT K H' b (wd.table.map V.int)) way_same (Same.refl _) hp5 (by omega) (fun i v A B sd ⟨wd, a, b, h1, h2, h3, h4⟩ => ⟨wd, a, b, h1, h2, sd.tup h3, sd.tup h4⟩) (fun i v H6 hi e6 Qe q => ?_) fun D H6 ys hD e6 hy hl hq => ?_
      · obtain ⟨wd, hw, a, b, rfl, ha, hb⟩ := item hi
        have ha := Sd.tup (Sd.of e6) (e5.tup hx ha)
        have hb := Sd.tup (Sd.of e6) (e5.tup hx hb)
        refine r_tupG ha rfl ?_
        walk_at "rd"
        refine ⟨rfl, ?_⟩
        walk_at "rd"
        refine ⟨_, _, rfl, .inr ⟨hb, ?_⟩⟩
        walk_at "rd"
        refine ⟨by show 3 ≤ sizeLine; decide, fun p3 hp3 => ?_⟩
        have up := Same.upd (o := .tup [V.str wd.word, V.str wd.name, V.ref b]) hp3
        exact q _ _ up ⟨wd, p3, b, hw, rfl, SqT.of upd_same, Sd.tup (Sd.of up) hb⟩
      walk_at "rd"
      refine ⟨_, _, rfl, .inl ⟨SqL.of hy, fun q hq2 => ?_⟩⟩
      have up6 := e6.trans (Same.upd (o := .tup ys) hq2)
      have hx6 := up6 _ _ hx5
      have e6 := e5.trans (Td.same up6)
      have hq6 : SqT K (upd H6 q (.tup ys)) q ys := SqT.of upd_same
      have hy6 : ∀ (i : Nat) v, ys[i]? = some v → ∃ wd a b, kd.ways[i]? = some wd ∧ v = .ref a ∧ SqT K (upd H6 q (.tup ys)) a [.str wd.word, .str wd.name, .ref b] ∧ SqT K (upd H6 q (.tup ys)) b (wd.table.map V.int) := fun i v hi => by
        obtain ⟨wd, a, b, h1, h2, h3, h4⟩ := hq i v hi
        exact ⟨wd, a, b, h1, h2, (Sd.new hq2).tup h3, (Sd.new hq2).tup h4⟩
      generalize upd H6 q (.tup ys) = H6' at hx6 e6 hq6 hy6 ⊢
      walk_at "rd"
      refine ⟨x, _, dx, [(Str.ofString "signs", .int m), (Str.ofString "name", .str kd.name), (Str.ofString "inputs", .int kd.inputs), (Str.ofString "table", .ref ta), (Str.ofString "start", startV kd.start)], rfl, hx6, T.c_Kind, T.n_Kind_ways, by show 5 < 1000; decide, ?_⟩
      rw [show putF (Str.ofString "ways") (.ref q) [(Str.ofString "signs", .int m), (Str.ofString "name", .str kd.name), (Str.ofString "inputs", .int kd.inputs), (Str.ofString "table", .ref ta), (Str.ofString "start", startV kd.start)] = [(Str.ofString "signs", .int m), (Str.ofString "name", .str kd.name), (Str.ofString "inputs", .int kd.inputs), (Str.ofString "table", .ref ta), (Str.ofString "start", startV kd.start), (Str.ofString "ways", .ref q)] from putF_new (by show Str.ofString "ways" ∉ ([Str.ofString "signs", Str.ofString "name", Str.ofString "inputs", Str.ofString "table", Str.ofString "start"] : List Str); decide +kernel)]
      have e7 := e6.trans (Td.put (H := H6') (o := .ins (He.ga K "Kind") dx [(Str.ofString "signs", .int m), (Str.ofString "name", .str kd.name), (Str.ofString "inputs", .int kd.inputs), (Str.ofString "table", .ref ta), (Str.ofString "start", startV kd.start), (Str.ofString "ways", .ref q)]))
      have hx7 := (upd_same : upd H6' x (.ins (He.ga K "Kind") dx [(Str.ofString "signs", .int m), (Str.ofString "name", .str kd.name), (Str.ofString "inputs", .int kd.inputs), (Str.ofString "table", .ref ta), (Str.ofString "start", startV kd.start), (Str.ofString "ways", .ref q)]) x = _)
      have t7 := (Td.put (x := x) (H := H6') (o := .ins (He.ga K "Kind") dx [(Str.ofString "signs", .int m), (Str.ofString "name", .str kd.name), (Str.ofString "inputs", .int kd.inputs), (Str.ofString "table", .ref ta), (Str.ofString "start", startV kd.start), (Str.ofString "ways", .ref q)]))
      generalize upd H6' x (.ins (He.ga K "Kind") dx [(Str.ofString "signs", .int m), (Str.ofString "name", .str kd.name), (Str.ofString "inputs", .int kd.inputs), (Str.ofString "table", .ref ta), (Str.ofString "start", startV kd.start), (Str.ofString "ways", .ref q)]) = HX7 at e7 hx7 t7 ⊢
      walk_at "rd"
      refine ⟨x, _, dx, [(Str.ofString "signs", .int m), (Str.ofString "name", .str kd.name), (Str.ofString "inputs", .int kd.inputs), (Str.ofString "table", .ref ta), (Str.ofString "start", startV kd.start), (Str.ofString "ways", .ref q)], rfl, hx7, T.c_Kind, T.n_Kind_price, by show 6 < 1000; decide, ?_⟩
      rw [show putF (Str.ofString "price") (.int kd.price) [(Str.ofString "signs", .int m), (Str.ofString "name", .str kd.name), (Str.ofString "inputs", .int kd.inputs), (Str.ofString "table", .ref ta), (Str.ofString "start", startV kd.start), (Str.ofString "ways", .ref q)] = [(Str.ofString "signs", .int m), (Str.ofString "name", .str kd.name), (Str.ofString "inputs", .int kd.inputs), (Str.ofString "table", .ref ta), (Str.ofString "start", startV kd.start), (Str.ofString "ways", .ref q), (Str.ofString "price", .int kd.price)] from putF_new (by show Str.ofString "price" ∉ ([Str.ofString "signs", Str.ofString "name", Str.ofString "inputs", Str.ofString "table", Str.ofString "start", Str.ofString "ways"] : List Str); decide +kernel)]
      have e8 := e7.trans (Td.put (H := HX7) (o := .ins (He.ga K "Kind") dx [(Str.ofString "signs", .int m), (Str.ofString "name", .str kd.name), (Str.ofString "inputs", .int kd.inputs), (Str.ofString "table", .ref ta), (Str.ofString "start", startV kd.start), (Str.ofString "ways", .ref q), (Str.ofString "price", .int kd.price)]))
      have hx8 := (upd_same : upd HX7 x (.ins (He.ga K "Kind") dx [(Str.ofString "signs", .int m), (Str.ofString "name", .str kd.name), (Str.ofString "inputs", .int kd.inputs), (Str.ofString "table", .ref ta), (Str.ofString "start", startV kd.start), (Str.ofString "ways", .ref q), (Str.ofString "price", .int kd.price)]) x = _)
      walk_at "rd"
      have t8 := t7.trans (Td.put (H := HX7) (o := .ins (He.ga K "Kind") dx (kindL m kd (.ref ta) (.ref q))))
      refine k _ e8 ⟨dx, .ref ta, .ref q, hx8, ints_of (e8.tup hx hta), .tup (t8.tup hx6 hq6) (DpAll.of_at (by rw [List.length_map]; omega) fun i v d hv hd => ?_)⟩
      rw [List.getElem?_map] at hd
      obtain ⟨wd, hw, rfl⟩ := Option.map_eq_some_iff.mp hd
      obtain ⟨wd2, a, b, h1, rfl, h3, h4⟩ := hy6 i v hv
      rw [hw] at h1
      cases h1
      exact .tup (t8.tup hx6 h3) (.cons (.str _) (.cons (.str _) (.cons (ints_of (t8.tup hx6 h4)) .nil)))
end
end Tx

/-! ## Er -/
set_option maxHeartbeats 4000000
/-! Errors made. -/
namespace Tx
open PySem PySem.Spec PyProof.Rows L2 Gd NdefX
local macro_rules | `(tactic| walk_at "rd1") => `(tactic| first
  | ((with_reducible show tVar _ _ _ _); refine r_var (by rfl) ?_)
  | with_reducible refine r_c ?_
  | with_reducible refine r_seq ?_
  | with_reducible refine r_asg ?_
  | with_reducible refine r_name ?_
  | with_reducible refine r_op ?_
  | with_reducible refine r_I0 ?_
  | with_reducible refine r_cons ?_
  | with_reducible refine r_nil ?_
  | with_reducible refine r_call ?_
  | with_reducible refine r_ret ?_
  | with_reducible refine r_cb ?_
  | with_reducible refine r_ifS ?_
  | with_reducible refine r_test ?_
  | with_reducible refine r_bl ?_
  | with_reducible refine r_dget ?_
  | with_reducible refine r_dput ?_
  | ((with_reducible show (∃ k, [V.int _] = [V.int k] ∧ _) ∨ _); refine Or.inl ⟨_, rfl, ?_⟩)
  | with_reducible refine r_lcR ?_
  | with_reducible refine r_lcL ?_
  | with_reducible refine r_lcT ?_
  | with_reducible refine r_m1 ?_
  | with_reducible refine r_gSub ?_
  | with_reducible refine r_forR ?_
  | with_reducible refine r_forL ?_
  | with_reducible refine r_forT ?_
  | with_reducible refine r_bm ?_
  | with_reducible refine r_next ?_
  | with_reducible refine r_B ?_
  | with_reducible refine r_not ?_
  | with_reducible refine r_and ?_
  | with_reducible refine r_or ?_
  | with_reducible refine r_andV ?_
  | with_reducible refine r_orV ?_
  | with_reducible refine r_notV ?_
  | with_reducible refine r_ifE ?_
  | with_reducible refine r_drop ?_
  | with_reducible refine r_tup ?_
  | with_reducible refine r_lst ?_
  | with_reducible refine r_un ?_
  | with_reducible refine r_U ?_)
local macro_rules | `(tactic| walk_at "rd") => `(tactic| repeat walk_at "rd1")
local macro_rules | `(tactic| walk_at "rd1") => `(tactic| first
  | with_reducible refine r_lcS ?_
  | with_reducible refine r_sl ?_
  | with_reducible refine r_noPart ?_
  | with_reducible refine r_partE ?_
  | with_reducible refine r_sfld ?_
  | with_reducible refine r_gc ?_
  | with_reducible refine r_gn ?_
  | with_reducible refine r_forE ?_
  | with_reducible refine r_makeK ?_
  | with_reducible refine r_make ?_
  | with_reducible refine r_fld ?_
  | with_reducible refine r_prop ?_
  | with_reducible refine r_meth ?_
  | with_reducible refine r_js ?_
  | with_reducible refine r_jn ?_
  | with_reducible refine r_fmt ?_
  | with_reducible refine r_chain ?_)
local macro_rules | `(tactic| walk_at "rd1") => `(tactic| first
  | with_reducible refine r_sfa ?_
  | with_reducible refine r_methR ?_)
theorem line_big : 1000000 ≤ sizeLine := by rw [sizeLine_eq]; decide
theorem len_add (a b : Str) : (a ++ b).length = a.length + b.length := by rw [TL.len_tl, TL.len_tl, TL.len_tl, TL.tl_append, List.length_append]
theorem r_fmtR {te : TE} {σ : L2.St} {H : Hp} {QV : VK} (h : te σ H fun x H1 => (∃ y : Str, x = .str y ∧ (reprText y).length ≤ sizeLine ∧ QV (.str (reprText y)) H1) ∨ ∃ i : Int, x = .int i ∧ i.natAbs.log2 < 1920 ∧ QV (.str (toString i)) H1) : tFmtR te σ H QV := h
/-- what may stand in an error's text -/
def Msg (v : V) : Prop := ∃ y : Str, v = .str y ∧ y.length ≤ 1000 ∧ (reprText y).length ≤ 10000
section
variable {P : Program} {w : World} {K : Frg} {mg : Str → Option Value} {base : Heap}
theorem ok_BadSigns_init (T : Txt P K mg) : OkE P w K mg base 1 e_BadSigns (fun _ => True) := by
  refine okE_of (x := "signs") T.E_BadSigns (err_fn (k := 0) (N := ["self", "signs", "__class__"]) T.E_BadSigns (nscope_by (by decide +kernel)) rfl rfl rfl rfl rfl ⟨_, rfl, rfl⟩ T.top (fun _ => rfl) (fun _ => ⟨_, rfl⟩) (fun _ => rfl)
    (hm := fun X hK hN hs hg => pe_str) (bnd := fun _ _ _ _ _ _ us hl => match us, hl with | [_, _], _ => rfl)) (fun v a H Qm m q => ?_)
  · exact q _
theorem ok_BadName_init (T : Txt P K mg) : OkE P w K mg base 1 e_BadName (fun _ => True) := by
  refine okE_of (x := "name") T.E_BadName (err_fn (k := 0) (N := ["self", "name", "__class__"]) T.E_BadName (nscope_by (by decide +kernel)) rfl rfl rfl rfl rfl ⟨_, rfl, rfl⟩ T.top (fun _ => rfl) (fun _ => ⟨_, rfl⟩) (fun _ => rfl)
    (hm := fun X hK hN hs hg => pe_str) (bnd := fun _ _ _ _ _ _ us hl => match us, hl with | [_, _], _ => rfl)) (fun v a H Qm m q => ?_)
  · exact q _
theorem ok_BadKind_init (T : Txt P K mg) : OkE P w K mg base 1 e_BadKind (Msg) := by
  refine okE_of (x := "name") T.E_BadKind (err_fn (k := 0) (N := ["self", "name", "__class__"]) T.E_BadKind (nscope_by (by decide +kernel)) rfl rfl rfl rfl rfl ⟨_, rfl, rfl⟩ T.top (fun _ => rfl) (fun _ => ⟨_, rfl⟩) (fun _ => rfl)
    (hm := fun X hK hN hs hg => (pe_joined (.cons pe_str (.cons (pe_fmt (pv 1 (by rw [hN]; rfl) (by show Vis X.env.scope _; rw [hs]; exact .inl rfl))) (.cons pe_str .nil))))) (bnd := fun _ _ _ _ _ _ us hl => match us, hl with | [_, _], _ => rfl)) (fun v a H Qm m q => ?_)
  · obtain ⟨y, rfl, h1, h2⟩ := m
    have hs := line_big
    have l0 : (Str.empty).length = 0 := rfl
    have lc : (Str.ofString "the kind ").length = 9 ∧ (Str.ofString " is not as told").length = 15 := by decide +kernel
    refine r_js ?_
    refine r_c ⟨_, rfl, by simp only [len_add, l0, lc]; omega, ?_⟩
    refine r_js ?_
    refine r_fmt (r_var (by rfl) (.inl ⟨y, rfl, by omega, ⟨_, rfl, by simp only [len_add, l0, lc]; omega, ?_⟩⟩))
    refine r_js ?_
    refine r_c ⟨_, rfl, by simp only [len_add, l0, lc]; omega, ?_⟩
    exact r_jn (q _)
theorem ok_TooMany_init (T : Txt P K mg) : OkE P w K mg base 1 e_TooMany (Msg) := by
  refine okE_of (x := "word") T.E_TooMany (err_fn (k := 0) (N := ["self", "word", "__class__"]) T.E_TooMany (nscope_by (by decide +kernel)) rfl rfl rfl rfl rfl ⟨_, rfl, rfl⟩ T.top (fun _ => rfl) (fun _ => ⟨_, rfl⟩) (fun _ => rfl)
    (hm := fun X hK hN hs hg => (pe_joined (.cons pe_str (.cons (pe_fmt (pv 1 (by rw [hN]; rfl) (by show Vis X.env.scope _; rw [hs]; exact .inl rfl))) .nil)))) (bnd := fun _ _ _ _ _ _ us hl => match us, hl with | [_, _], _ => rfl)) (fun v a H Qm m q => ?_)
  · obtain ⟨y, rfl, h1, h2⟩ := m
    have hs := line_big
    have l0 : (Str.empty).length = 0 := rfl
    have lc : (Str.ofString "too many: ").length = 10 := by decide +kernel
    refine r_js ?_
    refine r_c ⟨_, rfl, by simp only [len_add, l0, lc]; omega, ?_⟩
    refine r_js ?_
    refine r_fmt (r_var (by rfl) (.inl ⟨y, rfl, by omega, ⟨_, rfl, by simp only [len_add, l0, lc]; omega, ?_⟩⟩))
    exact r_jn (q _)
theorem ok_Twice_init (T : Txt P K mg) : OkE P w K mg base 1 e_Twice (Msg) := by
  refine okE_of (x := "name") T.E_Twice (err_fn (k := 0) (N := ["self", "name", "__class__"]) T.E_Twice (nscope_by (by decide +kernel)) rfl rfl rfl rfl rfl ⟨_, rfl, rfl⟩ T.top (fun _ => rfl) (fun _ => ⟨_, rfl⟩) (fun _ => rfl)
    (hm := fun X hK hN hs hg => (pe_joined (.cons (pe_fmtR (pv 1 (by rw [hN]; rfl) (by show Vis X.env.scope _; rw [hs]; exact .inl rfl))) (.cons pe_str .nil)))) (bnd := fun _ _ _ _ _ _ us hl => match us, hl with | [_, _], _ => rfl)) (fun v a H Qm m q => ?_)
  · obtain ⟨y, rfl, h1, h2⟩ := m
    have hs := line_big
    have l0 : (Str.empty).length = 0 := rfl
    have lc : (Str.ofString " is there already").length = 17 := by decide +kernel
    refine r_js ?_
    refine r_fmtR (r_var (by rfl) (.inl ⟨y, rfl, by omega, ⟨_, rfl, by simp only [len_add, l0, lc]; omega, ?_⟩⟩))
    refine r_js ?_
    refine r_c ⟨_, rfl, by simp only [len_add, l0, lc]; omega, ?_⟩
    exact r_jn (q _)
theorem ok_Unknown_init (T : Txt P K mg) : OkE P w K mg base 1 e_Unknown (Msg) := by
  refine okE_of (x := "name") T.E_Unknown (err_fn (k := 0) (N := ["self", "name", "__class__"]) T.E_Unknown (nscope_by (by decide +kernel)) rfl rfl rfl rfl rfl ⟨_, rfl, rfl⟩ T.top (fun _ => rfl) (fun _ => ⟨_, rfl⟩) (fun _ => rfl)
    (hm := fun X hK hN hs hg => (pe_joined (.cons (pe_fmtR (pv 1 (by rw [hN]; rfl) (by show Vis X.env.scope _; rw [hs]; exact .inl rfl))) (.cons pe_str .nil)))) (bnd := fun _ _ _ _ _ _ us hl => match us, hl with | [_, _], _ => rfl)) (fun v a H Qm m q => ?_)
  · obtain ⟨y, rfl, h1, h2⟩ := m
    have hs := line_big
    have l0 : (Str.empty).length = 0 := rfl
    have lc : (Str.ofString " is not there").length = 13 := by decide +kernel
    refine r_js ?_
    refine r_fmtR (r_var (by rfl) (.inl ⟨y, rfl, by omega, ⟨_, rfl, by simp only [len_add, l0, lc]; omega, ?_⟩⟩))
    refine r_js ?_
    refine r_c ⟨_, rfl, by simp only [len_add, l0, lc]; omega, ?_⟩
    exact r_jn (q _)
theorem ok_Unlike_init (T : Txt P K mg) : OkE P w K mg base 1 e_Unlike (Msg) := by
  refine okE_of (x := "word") T.E_Unlike (err_fn (k := 0) (N := ["self", "word", "__class__"]) T.E_Unlike (nscope_by (by decide +kernel)) rfl rfl rfl rfl rfl ⟨_, rfl, rfl⟩ T.top (fun _ => rfl) (fun _ => ⟨_, rfl⟩) (fun _ => rfl)
    (hm := fun X hK hN hs hg => (pe_joined (.cons pe_str (.cons (pe_fmt (pv 1 (by rw [hN]; rfl) (by show Vis X.env.scope _; rw [hs]; exact .inl rfl))) .nil)))) (bnd := fun _ _ _ _ _ _ us hl => match us, hl with | [_, _], _ => rfl)) (fun v a H Qm m q => ?_)
  · obtain ⟨y, rfl, h1, h2⟩ := m
    have hs := line_big
    have l0 : (Str.empty).length = 0 := rfl
    have lc : (Str.ofString "they are unlike: ").length = 17 := by decide +kernel
    refine r_js ?_
    refine r_c ⟨_, rfl, by simp only [len_add, l0, lc]; omega, ?_⟩
    refine r_js ?_
    refine r_fmt (r_var (by rfl) (.inl ⟨y, rfl, by omega, ⟨_, rfl, by simp only [len_add, l0, lc]; omega, ?_⟩⟩))
    exact r_jn (q _)
end
end Tx

/-! ## Pr5 -/
set_option maxHeartbeats 4000000
/-! Catalogues made. -/
namespace Tx
open PySem PySem.Spec PyProof.Rows L2 Gd
local macro_rules | `(tactic| walk_at "rd1") => `(tactic| first
  | ((with_reducible show tVar _ _ _ _); refine r_var (by rfl) ?_)
  | with_reducible refine r_c ?_
  | with_reducible refine r_seq ?_
  | with_reducible refine r_asg ?_
  | with_reducible refine r_name ?_
  | with_reducible refine r_op ?_
  | with_reducible refine r_I0 ?_
  | with_reducible refine r_cons ?_
  | with_reducible refine r_nil ?_
  | with_reducible refine r_call ?_
  | with_reducible refine r_ret ?_
  | with_reducible refine r_cb ?_
  | with_reducible refine r_ifS ?_
  | with_reducible refine r_test ?_
  | with_reducible refine r_bl ?_
  | with_reducible refine r_dget ?_
  | with_reducible refine r_dput ?_
  | ((with_reducible show (∃ k, [V.int _] = [V.int k] ∧ _) ∨ _); refine Or.inl ⟨_, rfl, ?_⟩)
  | with_reducible refine r_lcR ?_
  | with_reducible refine r_lcL ?_
  | with_reducible refine r_lcT ?_
  | with_reducible refine r_m1 ?_
  | with_reducible refine r_gSub ?_
  | with_reducible refine r_forR ?_
  | with_reducible refine r_forL ?_
  | with_reducible refine r_forT ?_
  | with_reducible refine r_bm ?_
  | with_reducible refine r_next ?_
  | with_reducible refine r_B ?_
  | with_reducible refine r_not ?_
  | with_reducible refine r_and ?_
  | with_reducible refine r_or ?_
  | with_reducible refine r_andV ?_
  | with_reducible refine r_orV ?_
  | with_reducible refine r_notV ?_
  | with_reducible refine r_ifE ?_
  | with_reducible refine r_drop ?_
  | with_reducible refine r_tup ?_
  | with_reducible refine r_lst ?_
  | with_reducible refine r_un ?_
  | with_reducible refine r_U ?_)
local macro_rules | `(tactic| walk_at "rd") => `(tactic| repeat walk_at "rd1")
theorem pe_fldB {X : Cx} {K : Frg} (h : X.K = K) {e : Expr} {ta : TE} {f : Str} {pos : Pos} (he : PE X e ta) (hb : attributeBase e f X.env (eval e X.env) = eval e X.env) : PE X (.Attribute e f pos) (tFld K ta f) := h ▸ pe_fld he hb
local macro_rules | `(tactic| walk_at "rd1") => `(tactic| first
  | with_reducible refine r_lcS ?_
  | with_reducible refine r_sl ?_
  | with_reducible refine r_noPart ?_
  | with_reducible refine r_partE ?_
  | with_reducible refine r_sfld ?_
  | with_reducible refine r_gc ?_
  | with_reducible refine r_gn ?_
  | with_reducible refine r_forE ?_
  | with_reducible refine r_makeK ?_
  | with_reducible refine r_make ?_
  | with_reducible refine r_fld ?_
  | with_reducible refine r_prop ?_
  | with_reducible refine r_meth ?_
  | with_reducible refine r_chain ?_)
section
variable {K : Frg} {H H' : Hp} {x c : Addr} {m : Int} {k : KD} {ks : List KD} {as : List Addr}
theorem flat_ways (k : KD) : flatD (waysD k.ways) = true := by simp [waysD, flatD, flat_wds]
theorem KindAt.sd (h : KindAt K H x m k) (e : Sd H H') : KindAt K H' x m k := by
  obtain ⟨dx, vt, vw, a, b, c⟩ := h.ex
  exact ⟨dx, vt, vw, e _ _ trivial a, Dp.sd e _ _ flat_intsD b, Dp.sd e _ _ (flat_ways k) c⟩
theorem KindAt.td {C dx : Addr} {fs : List (Str × V)} (h : KindAt K H x m k) (e : Td c H H') (hc : H c = some (.ins C dx fs)) (n : x ≠ c) : KindAt K H' x m k := by
  obtain ⟨dx, vt, vw, a, b, d⟩ := h.ex
  exact ⟨dx, vt, vw, e _ _ n a, Dp.ts (fun _ _ z => e.tup hc z) _ _ flat_intsD b, Dp.ts (fun _ _ z => e.tup hc z) _ _ (flat_ways k) d⟩
/-- kinds stand there -/
structure KindsAt (K : Frg) (H : Hp) (as : List Addr) (m : Int) (ks : List KD) : Prop where
  len : as.length = ks.length
  at_ : ∀ (i : Nat) a k, as[i]? = some a → ks[i]? = some k → KindAt K H a m k
theorem KindsAt.sd (h : KindsAt K H as m ks) (e : Sd H H') : KindsAt K H' as m ks := ⟨h.len, fun i a k x y => (h.at_ i a k x y).sd e⟩
theorem KindsAt.get (h : KindsAt K H as m ks) {i : Nat} {v : V} (e : (as.map V.ref)[i]? = some v) : ∃ a k, as[i]? = some a ∧ ks[i]? = some k ∧ v = .ref a ∧ KindAt K H a m k := by
  rw [List.getElem?_map] at e
  obtain ⟨a, ha, rfl⟩ := Option.map_eq_some_iff.mp e
  have hi : i < ks.length := by rw [← h.len]; exact (List.getElem?_eq_some_iff.mp ha).1
  exact ⟨a, ks[i], ha, List.getElem?_eq_getElem hi, rfl, h.at_ i a _ ha (List.getElem?_eq_getElem hi)⟩
end
def catL (m : Int) (p q : Addr) : List (Str × V) := [(Str.ofString "signs", .int m), (Str.ofString "kinds", .ref p), (Str.ofString "_names", .ref q)]
/-- a catalogue stands there -/
structure CatAt (K : Frg) (H : Hp) (c : Addr) (m : Int) (ks : List KD) : Prop where
  ex : ∃ (dx p q : Addr) (as : List Addr), H c = some (.ins (He.ga K "Catalogue") dx (catL m p q)) ∧ SqT K H p (as.map V.ref) ∧ SqT K H q ((ks.map KD.name).map V.str) ∧ KindsAt K H as m ks
theorem CatAt.sd {K : Frg} {H H' : Hp} {c : Addr} {m : Int} {ks : List KD} (h : CatAt K H c m ks) (e : Sd H H') : CatAt K H' c m ks := by
  obtain ⟨dx, p, q, as, a, b, g, d⟩ := h.ex
  exact ⟨dx, p, q, as, e _ _ trivial a, e.tup b, e.tup g, d.sd e⟩
def spKeeps (K : Frg) : Sp := fun vs H Q _ => ∃ x m k, vs = [.ref x] ∧ KindAt K H x m k ∧ Q (.bl k.start.isSome) H
/-! ### what is due -/
def firstAt {α : Type} (p : Nat → Option α) : Nat → Option α
  | 0 => none
  | n + 1 => match firstAt p n with
    | some a => some a
    | none => p n
section
variable {α : Type} {p : Nat → Option α} {n m : Nat} {a : α}
theorem firstAt_none (h : firstAt p n = none) (e : p n = none) : firstAt p (n + 1) = none := by
  unfold firstAt
  rw [h]
  exact e
theorem firstAt_up (h : firstAt p n = some a) (l : n ≤ m) : firstAt p m = some a := by
  induction m with
  | zero =>
    obtain rfl : n = 0 := by omega
    exact h
  | succ m ih =>
    rcases Nat.lt_or_ge n (m + 1) with c | c
    · unfold firstAt
      rw [ih (by omega)]
    · obtain rfl : n = m + 1 := by omega
      exact h
theorem firstAt_hit (h : firstAt p n = none) (e : p n = some a) (l : n < m) : firstAt p m = some a := by
  refine firstAt_up (n := n + 1) ?_ l
  unfold firstAt
  rw [h]
  exact e
end
theorem firstAt_all {α : Type} {p : Nat → Option α} {n i : Nat} (h : firstAt p n = none) (hi : i < n) : p i = none := by
  cases e : p i with
  | none => rfl
  | some a =>
    have z : firstAt p i = none := by
      cases e2 : firstAt p i with
      | none => rfl
      | some b => rw [firstAt_up e2 (by omega)] at h; cases h
    rw [firstAt_hit z e hi] at h
    cases h
abbrev Row := List (Int × KD)
def unl (m : Int) (rows : Row) (i : Nat) : Option Str := match rows[i]? with
  | some r => if r.1 = m then none else some r.2.name
  | none => none
def twi (ns : List Str) (i : Nat) : Option Str := match ns[i]? with
  | some n => if n ∈ ns.take i then some n else none
  | none => none
inductive Due where
  | ok | bad | many | unlike (n : Str) | twice (n : Str)
def rowNames (rows : Row) : List Str := rows.map fun r => r.2.name
def dueRow (m : Int) (rows : Row) : Due :=
  if 8 < rows.length then .many else match firstAt (unl m rows) rows.length with
    | some n => .unlike n
    | none => match firstAt (twi (rowNames rows)) rows.length with
      | some n => .twice n
      | none => .ok
def dueOf (sg : V) (rows : Row) : Due := match sg with
  | .int m => if 2 ≤ m ∧ m ≤ 3 then dueRow m rows else .bad
  | _ => .bad
/-- the error that is due: its class, what it keeps -/
def dueE (K : Frg) (sg : V) : Due → Option (Addr × Str × V)
  | .ok => none
  | .bad => some (e_BadSigns.C K, "signs", sg)
  | .many => some (e_TooMany.C K, "word", .str "kind")
  | .unlike n => some (e_Unlike.C K, "word", .str n)
  | .twice n => some (e_Twice.C K, "name", .str n)
/-- kinds stand there, each with its own signs -/
structure KsAt (K : Frg) (H : Hp) (as : List Addr) (rows : Row) : Prop where
  len : as.length = rows.length
  at_ : ∀ (i : Nat) a r, as[i]? = some a → rows[i]? = some r → KindAt K H a r.1 r.2
theorem KsAt.sd {K : Frg} {H H' : Hp} {as : List Addr} {rows : Row} (h : KsAt K H as rows) (e : Sd H H') : KsAt K H' as rows := ⟨h.len, fun i a k x y => (h.at_ i a k x y).sd e⟩
theorem KsAt.get {K : Frg} {H : Hp} {as : List Addr} {rows : Row} (h : KsAt K H as rows) {i : Nat} {v : V} (e : (as.map V.ref)[i]? = some v) : ∃ a r, as[i]? = some a ∧ rows[i]? = some r ∧ v = .ref a ∧ KindAt K H a r.1 r.2 := by
  rw [List.getElem?_map] at e
  obtain ⟨a, ha, rfl⟩ := Option.map_eq_some_iff.mp e
  have hi : i < rows.length := by rw [← h.len]; exact (List.getElem?_eq_some_iff.mp ha).1
  exact ⟨a, rows[i], ha, List.getElem?_eq_getElem hi, rfl, h.at_ i a _ ha (List.getElem?_eq_getElem hi)⟩
/-- how the making ends -/
def catEnds (K : Frg) (H : Hp) (x : Addr) (sg : V) (rows : Row) (Q : VK) (E : XK) : Prop :=
  (∀ m, sg = .int m → dueOf sg rows = .ok → ∀ H', Td x H H' → CatAt K H' x m (rows.map Prod.snd) → Q .non H') ∧
  ∀ C f v, dueE K sg (dueOf sg rows) = some (C, f, v) → ∀ H' d, Same H H' → H' d = some (.xd [(f, v)]) → E (.ref C) (some d) H'
def spCat (K : Frg) : Sp := fun vs H Q E => ∃ (x dx p : Addr) (sg : V) (as : List Addr) (rows : Row), vs = [.ref x, sg, .ref p] ∧ H x = some (.ins (He.ga K "Catalogue") dx []) ∧ (SqL K H p (as.map V.ref) ∨ SqT K H p (as.map V.ref)) ∧ KsAt K H as rows ∧
  (∀ r ∈ rows, GoodK r.1 r.2) ∧ rows.length ≤ 1000 ∧ ((∃ m, sg = .int m) ∨ OddV K H sg) ∧ x ∉ as ∧ catEnds K H x sg rows Q E
theorem r_sErr {C : Addr} {f : Str} {msg : V → Prop} {W : WX} {ta : TA} {D : Ends} {σ : L2.St} {H : Hp} (h : ta σ H fun vs H1 => atErr C f msg vs H1 fun cls d H' => W cls d σ H') : sErr C f msg W ta D σ H := h
theorem repr_low {s : Str} (h : GoodN s) : (reprText s).length ≤ 10000 := by
  have e := PySem.StrLaws.reprText_len s fun c hc => by have := (h.low c hc).2; omega
  have := h.hi
  omega
theorem odd_bad {K : Frg} {H : Hp} {sg : V} {rows : Row} (h : OddV K H sg) : dueOf sg rows = .bad := by
  cases sg with
  | int i =>
    rcases h with ⟨t, ty, e⟩ | ⟨b, z⟩
    · cases ty with
      | base ty => cases ty; cases e
    · cases z
  | _ => rfl
theorem msg_kind : Msg (.str "kind") := ⟨_, rfl, by decide +kernel, by decide +kernel⟩
theorem msg_name {s : Str} (h : GoodN s) : Msg (.str s) := ⟨s, rfl, by have := h.hi; omega, repr_low h⟩
local macro_rules | `(tactic| walk_at "rd1") => `(tactic| first
  | with_reducible refine r_lcS ?_
  | with_reducible refine r_sl ?_
  | with_reducible refine r_noPart ?_
  | with_reducible refine r_partE ?_
  | with_reducible refine r_sfld ?_
  | with_reducible refine r_gc ?_
  | with_reducible refine r_gn ?_
  | with_reducible refine r_forE ?_
  | with_reducible refine r_makeK ?_
  | with_reducible refine r_make ?_
  | with_reducible refine r_fld ?_
  | with_reducible refine r_prop ?_
  | with_reducible refine r_meth ?_
  | with_reducible refine r_chain ?_
  | with_reducible refine r_sErr ?_)
section
variable {P : Program} {w : World} {K : Frg} {mg : Str → Option Value} {base : Heap}
theorem sc_Kind_keeps : FnScope ["self"] ["self"] (defScope s_Kind_keeps) := ⟨rfl, rfl, rfl, by decide +kernel, rfl, by decide +kernel, by decide +kernel⟩
theorem ok_Kind_keeps (T : Txt P K mg) : Ok P w K mg base 1 (getA "Kind" "keeps" K) ["self"] (spKeeps K) := by
  obtain ⟨fd, F⟩ := T.F_Kind_keeps
  have b : Binds K fd ["self"] [] := F.bindsN fun _ _ _ _ _ _ us hl => match us, hl with | [_], _ => rfl
  refine ok_of F b sc_Kind_keeps (fun vs H Q E h => ?_) (fun cdv A outer s H vs Q E hr h => ?_)
  · obtain ⟨x, m, k, rfl, _⟩ := h
    rfl
  · obtain ⟨x, m, kd, rfl, hx, k⟩ := h
    obtain ⟨dx, vt, vw, hx, _⟩ := hx.ex
    refine ⟨_, (pss_one (ps_ret (pe_cmpR op_notN (pe_fld (pv 0) rfl) pe_non (by first | exact nomark _ | rfl)))), ?_⟩
    walk_at "rd"
    refine ⟨_, _, _, _, _, rfl, hx, T.c_Kind, T.n_Kind_start, rfl, ?_⟩
    walk_at "rd"
    refine ⟨rfl, ?_⟩
    cases hs : kd.start with
    | none => rw [hs] at k; exact k
    | some s => rw [hs] at k; exact k
theorem sc_Catalogue_init : FnScope ["self", "signs", "kinds", "kind", "names", "at", "name"] ["self", "signs", "kinds"] (defScope s_Catalogue_init) := ⟨rfl, rfl, rfl, by decide +kernel, rfl, by decide +kernel, by decide +kernel⟩
theorem fn_Catalogue_init (T : Txt P K mg) {fd : FuncData} (F : FunD K d_Catalogue_init.name d_Catalogue_init.qual (defArgs s_Catalogue_init) (defBody s_Catalogue_init) (defScope s_Catalogue_init) (d_Catalogue_init.dvs K) (d_Catalogue_init.kws K) (He.ma K (He.ga K "Catalogue") "__init__") fd) : FnOk P w K mg base (L2.CX P w) 3 (He.ma K (He.ga K "Catalogue") "__init__") fd ["self", "signs", "kinds"] (spCat K) := by
  refine F.ok sc_Catalogue_init (fun vs H Q E h => ?_) (fun cdv A outer s H vs Q E hr h => ?_)
  · obtain ⟨x, dx, p, sg, as, rows, rfl, _⟩ := h
    rfl
  · obtain ⟨x, dx, p, sg, as, rows, rfl, hx, hs, hk, gk, l8, hsg, nin, kN, kE⟩ := h
    have hl := hk.len
    rcases hs with hp | hp
    · refine ⟨_, (pss_cons (ps_if (pt_not (pt_val (pk (ok_is_number T) hr rfl T.g_is_number (pa_cons (pv 1) (pa_cons pe_int (pa_cons pe_int pa_nil)))))) (pss_one (ps_err rfl (takes_of rfl rfl rfl rfl) (ok_BadSigns_init T) hr rfl T.g_BadSigns (pa_cons (pv 1) pa_nil))) pss_nil)
  (pss_cons (ps_if (pt_cmpR op_gt (pe_callB call_len_seq (by rfl) T.f_len (by decide +kernel) (pa_cons (pv 2) pa_nil)) (pe_glob (v := .int 8) rfl (T.i_MOST_KINDS).choose_spec ⟨_, rfl⟩) (by first | exact nomark _ | rfl)) (pss_one (ps_err rfl (takes_of rfl rfl rfl rfl) (ok_TooMany_init T) hr rfl T.g_TooMany (pa_cons pe_str pa_nil))) pss_nil)
  (pss_cons (ps_for (passes_of rfl) rfl (pi_list (pv 2)) (pg_name (i := 3) sc_Catalogue_init.nd rfl (Or.inl rfl)) (pss_one (ps_if (pt_cmpR op_ne (pe_fld (pv 3) rfl) (pv 1) (by first | exact nomark _ | rfl)) (pss_one (ps_err rfl (takes_of rfl rfl rfl rfl) (ok_Unlike_init T) hr rfl T.g_Unlike (pa_cons (pe_fld (pv 3) rfl) pa_nil))) pss_nil)))
  (pss_cons (ps_setLc (i := 4) (own := [("kind", 3)]) rfl sc_Catalogue_init.nd rfl rfl (sw_true rfl rfl rfl (by decide +kernel)) (pi_list (pv 2)) (blkOk_by (own := [("kind", 3)]) (N := ["self", "signs", "kinds", "kind", "names", "at", "name"]) (sc := defScope s_Catalogue_init) (by decide +kernel)) (fun _ _ _ _ _ => (pg_name (i := 3) sc_Catalogue_init.nd rfl (Or.inl rfl))) (fun _ _ _ _ _ => pts_nil) (fun _ _ _ _ _ => (pe_fldB (K := K) rfl (pv 3) rfl)))
  (pss_cons (ps_for (passes_of rfl) rfl (pi_enum (by rfl) T.f_enumerate (pa_cons (pv 4) pa_nil)) (pg_tup (by rfl) (pgs_cons (pg_name (i := 5) sc_Catalogue_init.nd rfl (Or.inl rfl)) (pgs_cons (pg_name (i := 6) sc_Catalogue_init.nd rfl (Or.inl rfl)) pgs_nil))) (pss_one (ps_if (pt_cmpR op_in_seq (pv 6) (pe_slice sl_list (pv 4) po_none (po_some (pv 5))) (by first | exact nomark _ | rfl)) (pss_one (ps_err rfl (takes_of rfl rfl rfl rfl) (ok_Twice_init T) hr rfl T.g_Twice (pa_cons (pv 6) pa_nil))) pss_nil)))
  (pss_cons (ps_fld (pv 0) (pv 1) rfl)
  (pss_cons (ps_fld (pv 0) (pe_callTy call_tuple_of (by rfl) T.f_tuple (by decide +kernel) (pa_cons (pv 2) pa_nil)) rfl)
  (pss_one (ps_fld (pv 0) (pe_callTy call_tuple_of (by rfl) T.f_tuple (by decide +kernel) (pa_cons (pv 4) pa_nil)) rfl))))))))), ?_⟩
      walk_at "rd"
      have nob : ∀ {b : Bool}, b = false → dueOf sg rows = .bad → ∀ d, H d = none → E (.ref (e_BadSigns.C K)) (some d) (upd H d (.xd [("signs", sg)])) := fun _ e d hd => kE _ _ _ (by rw [e]; rfl) _ d (Same.upd hd) upd_same
      rcases hsg with ⟨m, rfl⟩ | hodd
      case inr =>
        refine r_numberO hodd ?_
        refine r_bl (r_iT ?_)
        walk_at "rd"
        exact r_err trivial (nob rfl (odd_bad hodd))
      refine r_number ?_
      by_cases hm23 : (2 : Int) ≤ m ∧ m ≤ 3
      case neg =>
        rw [decide_eq_false hm23]
        refine r_bl (r_iT ?_)
        walk_at "rd"
        exact r_err trivial (nob rfl (by unfold dueOf; simp only [if_neg hm23]))
      rw [decide_eq_true hm23]
      refine r_bl (r_iF ?_)
      have due1 : dueOf (.int m) rows = dueRow m rows := by unfold dueOf; simp only [if_pos hm23]
      walk_at "rd"
      refine ⟨_, _, rfl, .inl hp, ?_⟩
      rw [List.length_map]
      walk_at "rd"
      refine r_ifd (fun h8 => ?_) (fun h8 => ?_)
      · have h8 : 8 < rows.length := by omega
        walk_at "rd"
        exact r_err msg_kind fun d hd => kE _ _ _ (by rw [due1, dueRow, if_pos h8]; rfl) _ d (Same.upd hd) upd_same
      have h8 : ¬ 8 < rows.length := by omega
      walk_at "rd"
      refine forL (fun j σ' H' => ∃ o : Option V, σ' = [some (.ref x), some (.int m), some (.ref p), o, none, none, none] ∧ H' = H ∧ firstAt (unl m rows) j = none) hp ⟨none, rfl, rfl, rfl⟩ (fun j σ' H' _ z => ?_) ?_ ?_
      · obtain ⟨_, _, rfl, _⟩ := z
        exact hp
      · rintro j v σ' H' hv ⟨o, rfl, rfl, fj⟩
        obtain ⟨a, r, _, hr', rfl, hK⟩ := hk.get hv
        obtain ⟨dk, vt, vw, ha, _⟩ := hK.ex
        have hj : j < rows.length := (List.getElem?_eq_some_iff.mp hr').1
        walk_at "rd"
        refine ⟨_, _, _, _, _, rfl, ha, T.c_Kind, T.n_Kind_signs, rfl, ?_⟩
        walk_at "rd"
        refine r_ne rfl ?_
        refine r_bl ?_
        by_cases em : r.1 = m
        · rw [em, decide_eq_true rfl]
          refine r_iF ?_
          walk_at "rd"
          exact ⟨_, rfl, rfl, firstAt_none fj (by unfold unl; rw [hr']; simp only [if_pos em])⟩
        · rw [decide_eq_false (fun z => em (by injection z))]
          refine r_iT ?_
          walk_at "rd"
          refine ⟨_, _, _, _, _, rfl, ha, T.c_Kind, T.n_Kind_name, rfl, ?_⟩
          refine r_err (msg_name (gk r (List.mem_of_getElem? hr')).name) fun d hd => kE _ _ _ ?_ _ d (Same.upd hd) upd_same
          have f1 : firstAt (unl m rows) rows.length = some r.2.name := firstAt_hit fj (by unfold unl; rw [hr']; simp only [if_neg em]) hj
          rw [due1, dueRow, if_neg h8, f1]
          rfl
      rintro σ' H' ⟨o, rfl, rfl, fu⟩
      rw [List.length_map, hl] at fu
      walk_at "rd"
      refine lcL (P := fun i v _ => ∃ r, rows[i]? = some r ∧ v = .str r.2.name) way_same (Same.refl _) hp (by rw [List.length_map]; omega) (fun _ _ _ _ _ p => p) (fun i v H1 hi e1 Qe q => ?_) fun D H1 ys hD e1 hy hyl hq => ?_
      · refine r_name ⟨rfl, ?_⟩
        obtain ⟨a, r, _, hr', rfl, hK⟩ := hk.get hi
        obtain ⟨dk, vt, vw, ha, _⟩ := hK.ex
        walk_at "rd"
        refine ⟨_, _, _, _, _, rfl, e1 _ _ ha, T.c_Kind, T.n_Kind_name, rfl, ?_⟩
        exact q _ _ (Same.refl _) ⟨r, hr', rfl⟩
      rw [List.length_map] at hyl
      have hys := map_read (f := fun r : Int × KD => V.str r.2.name) (by omega) hq
      rw [show (rows.map fun r : Int × KD => V.str r.2.name) = (rowNames rows).map V.str by unfold rowNames; rw [List.map_map]; rfl] at hys
      subst hys
      have nl : (rowNames rows).length = rows.length := List.length_map _
      walk_at "rd"
      refine forE (fun j σ' H' => ∃ o5 o6 : Option V, σ' = [some (.ref x), some (.int m), some (.ref p), o, some (.ref D), o5, o6] ∧ Same H1 H' ∧ firstAt (twi (rowNames rows)) j = none) (SqL.of hy) ⟨none, none, rfl, Same.refl _, rfl⟩ (fun j σ' H' _ z => ?_) ?_ ?_
      · obtain ⟨_, _, _, z, _⟩ := z
        exact Same.seq z (SqL.of hy)
      · rintro j v σ' H2 A hv ⟨o5, o6, rfl, s2, fj⟩ hA
        rw [List.getElem?_map] at hv
        obtain ⟨nm, hnm, rfl⟩ := Option.map_eq_some_iff.mp hv
        have s3 := s2.trans (Same.upd (o := .tup [.int (j : Int), .str nm]) hA)
        refine r_tupG (SqT.of upd_same) rfl ?_
        walk_at "rd"
        refine ⟨_, rfl, r_slL (Same.seq s3 (SqL.of hy)) fun q hq => ?_⟩
        have hj : j < (rowNames rows).length := (List.getElem?_eq_some_iff.mp hnm).1
        have ec : cutV ((rowNames rows).map V.str) none (some (j : Int)) = ((rowNames rows).take j).map V.str := by
          unfold cutV
          rw [HT.sIx_none, HT.sIx_nat, List.length_map (f := V.str), Nat.min_eq_left (by omega), Nat.sub_zero, List.drop_zero, List.map_take]
        rw [ec]
        have s4 := s3.trans (Same.upd (o := .lst (((rowNames rows).take j).map V.str)) hq)
        refine r_in (.inl (SqL.of upd_same)) ?_
        refine r_bl ?_
        refine r_ifd (fun hmem => ?_) (fun hno => ?_)
        · walk_at "rd"
          have gn : GoodN nm := by
            obtain ⟨r, hr', e⟩ := List.mem_map.mp (List.mem_of_getElem? hnm)
            rw [← e]
            exact (gk r hr').name
          refine r_err (msg_name gn) fun d hd => kE _ _ _ ?_ _ d ((e1.trans s4).trans (Same.upd hd)) upd_same
          have f1 : firstAt (twi (rowNames rows)) rows.length = some nm := firstAt_hit fj (by unfold twi; rw [hnm]; simp only [if_pos hmem]) (by omega)
          rw [due1, dueRow, if_neg h8, fu, f1]
          rfl
        · walk_at "rd"
          exact ⟨_, _, rfl, s4, firstAt_none fj (by unfold twi; rw [hnm]; simp only [if_neg hno])⟩
      rintro σ' H3 ⟨o5, o6, rfl, s3, ft⟩
      rw [List.length_map, nl] at ft
      have hdue : dueOf (.int m) rows = .ok := by rw [due1, dueRow, if_neg h8, fu, ft]
      have kf := kN m rfl hdue
      have allm : ∀ r ∈ rows, r.1 = m := fun r hr' => by
        obtain ⟨i, hi⟩ := List.mem_iff_getElem?.mp hr'
        by_cases e : r.1 = m
        · exact e
        · exact absurd (firstAt_all fu (List.getElem?_eq_some_iff.mp hi).1) (by unfold unl; rw [hi]; simp only [if_neg e]; intro z; cases z)
      have hk1 : KindsAt K H' as m (rows.map Prod.snd) := ⟨by rw [List.length_map]; exact hl, fun i a kd h1 h2 => by
        rw [List.getElem?_map] at h2
        obtain ⟨r, h3, rfl⟩ := Option.map_eq_some_iff.mp h2
        have z := hk.at_ i a r h1 h3
        rw [allm r (List.mem_of_getElem? h3)] at z
        exact z⟩
      have en : (rows.map Prod.snd).map KD.name = rowNames rows := by unfold rowNames; rw [List.map_map]; rfl
      have hyD : SqL K H3 D ((rowNames rows).map V.str) := Same.seq s3 (SqL.of hy)
      have s3 := e1.trans s3
      have e3 : Td x H3 H3 := Td.same (Same.refl _)
      have hx3 := s3 _ _ hx
      have hp3 := Same.seq s3 hp
      have hk3 := hk1.sd (Sd.of s3)
      walk_at "rd"
      refine ⟨x, _, dx, [], rfl, hx3, T.c_Catalogue, T.n_Catalogue_signs, by show 0 < 1000; decide, ?_⟩
      rw [show putF (Str.ofString "signs") (.int m) [] = [(Str.ofString "signs", .int m)] from putF_new (by show Str.ofString "signs" ∉ ([] : List Str); decide +kernel)]
      have ea := e3.trans (Td.put (H := H3) (o := .ins (He.ga K "Catalogue") dx [(Str.ofString "signs", .int m)]))
      have hxa := (upd_same : upd H3 x (.ins (He.ga K "Catalogue") dx [(Str.ofString "signs", .int m)]) x = _)
      generalize upd H3 x (.ins (He.ga K "Catalogue") dx [(Str.ofString "signs", .int m)]) = HXa at ea hxa  ⊢
      walk_at "rd"
      refine ⟨_, _, rfl, .inl ⟨ea.seq hx3 hp3, fun q hq => ?_⟩⟩
      have eq := ea.trans (Td.same (Same.upd (o := .tup (as.map V.ref)) hq))
      have hxq := Same.upd (o := .tup (as.map V.ref)) hq _ _ hxa
      have hq2 : SqT K (upd HXa q (.tup (as.map V.ref))) q (as.map V.ref) := SqT.of upd_same
      generalize upd HXa q (.tup (as.map V.ref)) = HXq at eq hxq hq2 ⊢
      walk_at "rd"
      refine ⟨x, _, dx, [(Str.ofString "signs", .int m)], rfl, hxq, T.c_Catalogue, T.n_Catalogue_kinds, by show 1 < 1000; decide, ?_⟩
      rw [show putF (Str.ofString "kinds") (.ref q) [(Str.ofString "signs", .int m)] = [(Str.ofString "signs", .int m), (Str.ofString "kinds", .ref q)] from putF_new (by show Str.ofString "kinds" ∉ ([Str.ofString "signs"] : List Str); decide +kernel)]
      have eb := eq.trans (Td.put (H := HXq) (o := .ins (He.ga K "Catalogue") dx [(Str.ofString "signs", .int m), (Str.ofString "kinds", .ref q)]))
      have hxb := (upd_same : upd HXq x (.ins (He.ga K "Catalogue") dx [(Str.ofString "signs", .int m), (Str.ofString "kinds", .ref q)]) x = _)
      have tb := Td.put (x := x) (H := HXq) (o := .ins (He.ga K "Catalogue") dx [(Str.ofString "signs", .int m), (Str.ofString "kinds", .ref q)])
      generalize upd HXq x (.ins (He.ga K "Catalogue") dx [(Str.ofString "signs", .int m), (Str.ofString "kinds", .ref q)]) = HXb at eb hxb tb ⊢
      walk_at "rd"
      refine ⟨_, _, rfl, .inl ⟨eb.seq hx3 hyD, fun r hr => ?_⟩⟩
      have er := eb.trans (Td.same (Same.upd (o := .tup ((rowNames rows).map V.str)) hr))
      have tr := tb.trans (Td.same (x := x) (Same.upd (o := .tup ((rowNames rows).map V.str)) hr))
      have hxr := Same.upd (o := .tup ((rowNames rows).map V.str)) hr _ _ hxb
      have hrT : SqT K (upd HXb r (.tup ((rowNames rows).map V.str))) r ((rowNames rows).map V.str) := SqT.of upd_same
      generalize upd HXb r (.tup ((rowNames rows).map V.str)) = HXr at er tr hxr hrT ⊢
      walk_at "rd"
      refine ⟨x, _, dx, [(Str.ofString "signs", .int m), (Str.ofString "kinds", .ref q)], rfl, hxr, T.c_Catalogue, T.n_Catalogue_names, by show 2 < 1000; decide, ?_⟩
      rw [show putF (Str.ofString "_names") (.ref r) [(Str.ofString "signs", .int m), (Str.ofString "kinds", .ref q)] = [(Str.ofString "signs", .int m), (Str.ofString "kinds", .ref q), (Str.ofString "_names", .ref r)] from putF_new (by show Str.ofString "_names" ∉ ([Str.ofString "signs", Str.ofString "kinds"] : List Str); decide +kernel)]
      have ec := er.trans (Td.put (H := HXr) (o := .ins (He.ga K "Catalogue") dx [(Str.ofString "signs", .int m), (Str.ofString "kinds", .ref q), (Str.ofString "_names", .ref r)]))
      have hxc := (upd_same : upd HXr x (.ins (He.ga K "Catalogue") dx [(Str.ofString "signs", .int m), (Str.ofString "kinds", .ref q), (Str.ofString "_names", .ref r)]) x = _)
      walk_at "rd"
      have tc := tr.trans (Td.put (x := x) (H := HXr) (o := .ins (He.ga K "Catalogue") dx (catL m q r)))
      have tn := Td.put (x := x) (H := HXr) (o := .ins (He.ga K "Catalogue") dx (catL m q r))
      refine kf _ ((Td.same s3).trans ec) ⟨dx, q, r, as, hxc, tc.tup hxq hq2, by rw [en]; exact tn.tup hxr hrT, ⟨by rw [List.length_map]; exact hl, fun i a kd h1 h2 => (hk3.at_ i a kd h1 h2).td ec hx3 ?_⟩⟩
      rintro rfl
      exact nin (List.mem_of_getElem? h1)
    · refine ⟨_, (pss_cons (ps_if (pt_not (pt_val (pk (ok_is_number T) hr rfl T.g_is_number (pa_cons (pv 1) (pa_cons pe_int (pa_cons pe_int pa_nil)))))) (pss_one (ps_err rfl (takes_of rfl rfl rfl rfl) (ok_BadSigns_init T) hr rfl T.g_BadSigns (pa_cons (pv 1) pa_nil))) pss_nil)
  (pss_cons (ps_if (pt_cmpR op_gt (pe_callB call_len_seq (by rfl) T.f_len (by decide +kernel) (pa_cons (pv 2) pa_nil)) (pe_glob (v := .int 8) rfl (T.i_MOST_KINDS).choose_spec ⟨_, rfl⟩) (by first | exact nomark _ | rfl)) (pss_one (ps_err rfl (takes_of rfl rfl rfl rfl) (ok_TooMany_init T) hr rfl T.g_TooMany (pa_cons pe_str pa_nil))) pss_nil)
  (pss_cons (ps_for (passes_of rfl) rfl (pi_tup (pv 2)) (pg_name (i := 3) sc_Catalogue_init.nd rfl (Or.inl rfl)) (pss_one (ps_if (pt_cmpR op_ne (pe_fld (pv 3) rfl) (pv 1) (by first | exact nomark _ | rfl)) (pss_one (ps_err rfl (takes_of rfl rfl rfl rfl) (ok_Unlike_init T) hr rfl T.g_Unlike (pa_cons (pe_fld (pv 3) rfl) pa_nil))) pss_nil)))
  (pss_cons (ps_setLc (i := 4) (own := [("kind", 3)]) rfl sc_Catalogue_init.nd rfl rfl (sw_true rfl rfl rfl (by decide +kernel)) (pi_tup (pv 2)) (blkOk_by (own := [("kind", 3)]) (N := ["self", "signs", "kinds", "kind", "names", "at", "name"]) (sc := defScope s_Catalogue_init) (by decide +kernel)) (fun _ _ _ _ _ => (pg_name (i := 3) sc_Catalogue_init.nd rfl (Or.inl rfl))) (fun _ _ _ _ _ => pts_nil) (fun _ _ _ _ _ => (pe_fldB (K := K) rfl (pv 3) rfl)))
  (pss_cons (ps_for (passes_of rfl) rfl (pi_enum (by rfl) T.f_enumerate (pa_cons (pv 4) pa_nil)) (pg_tup (by rfl) (pgs_cons (pg_name (i := 5) sc_Catalogue_init.nd rfl (Or.inl rfl)) (pgs_cons (pg_name (i := 6) sc_Catalogue_init.nd rfl (Or.inl rfl)) pgs_nil))) (pss_one (ps_if (pt_cmpR op_in_seq (pv 6) (pe_slice sl_list (pv 4) po_none (po_some (pv 5))) (by first | exact nomark _ | rfl)) (pss_one (ps_err rfl (takes_of rfl rfl rfl rfl) (ok_Twice_init T) hr rfl T.g_Twice (pa_cons (pv 6) pa_nil))) pss_nil)))
  (pss_cons (ps_fld (pv 0) (pv 1) rfl)
  (pss_cons (ps_fld (pv 0) (pe_callTy call_tuple_of (by rfl) T.f_tuple (by decide +kernel) (pa_cons (pv 2) pa_nil)) rfl)
  (pss_one (ps_fld (pv 0) (pe_callTy call_tuple_of (by rfl) T.f_tuple (by decide +kernel) (pa_cons (pv 4) pa_nil)) rfl))))))))), ?_⟩
      walk_at "rd"
      have nob : ∀ {b : Bool}, b = false → dueOf sg rows = .bad → ∀ d, H d = none → E (.ref (e_BadSigns.C K)) (some d) (upd H d (.xd [("signs", sg)])) := fun _ e d hd => kE _ _ _ (by rw [e]; rfl) _ d (Same.upd hd) upd_same
      rcases hsg with ⟨m, rfl⟩ | hodd
      case inr =>
        refine r_numberO hodd ?_
        refine r_bl (r_iT ?_)
        walk_at "rd"
        exact r_err trivial (nob rfl (odd_bad hodd))
      refine r_number ?_
      by_cases hm23 : (2 : Int) ≤ m ∧ m ≤ 3
      case neg =>
        rw [decide_eq_false hm23]
        refine r_bl (r_iT ?_)
        walk_at "rd"
        exact r_err trivial (nob rfl (by unfold dueOf; simp only [if_neg hm23]))
      rw [decide_eq_true hm23]
      refine r_bl (r_iF ?_)
      have due1 : dueOf (.int m) rows = dueRow m rows := by unfold dueOf; simp only [if_pos hm23]
      walk_at "rd"
      refine ⟨_, _, rfl, .inr hp, ?_⟩
      rw [List.length_map]
      walk_at "rd"
      refine r_ifd (fun h8 => ?_) (fun h8 => ?_)
      · have h8 : 8 < rows.length := by omega
        walk_at "rd"
        exact r_err msg_kind fun d hd => kE _ _ _ (by rw [due1, dueRow, if_pos h8]; rfl) _ d (Same.upd hd) upd_same
      have h8 : ¬ 8 < rows.length := by omega
      walk_at "rd"
      refine forT (fun j σ' H' => ∃ o : Option V, σ' = [some (.ref x), some (.int m), some (.ref p), o, none, none, none] ∧ H' = H ∧ firstAt (unl m rows) j = none) hp ⟨none, rfl, rfl, rfl⟩ (fun j σ' H' _ z => ?_) ?_ ?_
      · obtain ⟨_, _, rfl, _⟩ := z
        exact hp
      · rintro j v σ' H' hv ⟨o, rfl, rfl, fj⟩
        obtain ⟨a, r, _, hr', rfl, hK⟩ := hk.get hv
        obtain ⟨dk, vt, vw, ha, _⟩ := hK.ex
        have hj : j < rows.length := (List.getElem?_eq_some_iff.mp hr').1
        walk_at "rd"
        refine ⟨_, _, _, _, _, rfl, ha, T.c_Kind, T.n_Kind_signs, rfl, ?_⟩
        walk_at "rd"
        refine r_ne rfl ?_
        refine r_bl ?_
        by_cases em : r.1 = m
        · rw [em, decide_eq_true rfl]
          refine r_iF ?_
          walk_at "rd"
          exact ⟨_, rfl, rfl, firstAt_none fj (by unfold unl; rw [hr']; simp only [if_pos em])⟩
        · rw [decide_eq_false (fun z => em (by injection z))]
          refine r_iT ?_
          walk_at "rd"
          refine ⟨_, _, _, _, _, rfl, ha, T.c_Kind, T.n_Kind_name, rfl, ?_⟩
          refine r_err (msg_name (gk r (List.mem_of_getElem? hr')).name) fun d hd => kE _ _ _ ?_ _ d (Same.upd hd) upd_same
          have f1 : firstAt (unl m rows) rows.length = some r.2.name := firstAt_hit fj (by unfold unl; rw [hr']; simp only [if_neg em]) hj
          rw [due1, dueRow, if_neg h8, f1]
          rfl
      rintro σ' H' ⟨o, rfl, rfl, fu⟩
      rw [List.length_map, hl] at fu
      walk_at "rd"
      refine lcT (P := fun i v _ => ∃ r, rows[i]? = some r ∧ v = .str r.2.name) way_same (Same.refl _) hp (by rw [List.length_map]; omega) (fun _ _ _ _ _ p => p) (fun i v H1 hi e1 Qe q => ?_) fun D H1 ys hD e1 hy hyl hq => ?_
      · refine r_name ⟨rfl, ?_⟩
        obtain ⟨a, r, _, hr', rfl, hK⟩ := hk.get hi
        obtain ⟨dk, vt, vw, ha, _⟩ := hK.ex
        walk_at "rd"
        refine ⟨_, _, _, _, _, rfl, e1 _ _ ha, T.c_Kind, T.n_Kind_name, rfl, ?_⟩
        exact q _ _ (Same.refl _) ⟨r, hr', rfl⟩
      rw [List.length_map] at hyl
      have hys := map_read (f := fun r : Int × KD => V.str r.2.name) (by omega) hq
      rw [show (rows.map fun r : Int × KD => V.str r.2.name) = (rowNames rows).map V.str by unfold rowNames; rw [List.map_map]; rfl] at hys
      subst hys
      have nl : (rowNames rows).length = rows.length := List.length_map _
      walk_at "rd"
      refine forE (fun j σ' H' => ∃ o5 o6 : Option V, σ' = [some (.ref x), some (.int m), some (.ref p), o, some (.ref D), o5, o6] ∧ Same H1 H' ∧ firstAt (twi (rowNames rows)) j = none) (SqL.of hy) ⟨none, none, rfl, Same.refl _, rfl⟩ (fun j σ' H' _ z => ?_) ?_ ?_
      · obtain ⟨_, _, _, z, _⟩ := z
        exact Same.seq z (SqL.of hy)
      · rintro j v σ' H2 A hv ⟨o5, o6, rfl, s2, fj⟩ hA
        rw [List.getElem?_map] at hv
        obtain ⟨nm, hnm, rfl⟩ := Option.map_eq_some_iff.mp hv
        have s3 := s2.trans (Same.upd (o := .tup [.int (j : Int), .str nm]) hA)
        refine r_tupG (SqT.of upd_same) rfl ?_
        walk_at "rd"
        refine ⟨_, rfl, r_slL (Same.seq s3 (SqL.of hy)) fun q hq => ?_⟩
        have hj : j < (rowNames rows).length := (List.getElem?_eq_some_iff.mp hnm).1
        have ec : cutV ((rowNames rows).map V.str) none (some (j : Int)) = ((rowNames rows).take j).map V.str := by
          unfold cutV
          rw [HT.sIx_none, HT.sIx_nat, List.length_map (f := V.str), Nat.min_eq_left (by omega), Nat.sub_zero, List.drop_zero, List.map_take]
        rw [ec]
        have s4 := s3.trans (Same.upd (o := .lst (((rowNames rows).take j).map V.str)) hq)
        refine r_in (.inl (SqL.of upd_same)) ?_
        refine r_bl ?_
        refine r_ifd (fun hmem => ?_) (fun hno => ?_)
        · walk_at "rd"
          have gn : GoodN nm := by
            obtain ⟨r, hr', e⟩ := List.mem_map.mp (List.mem_of_getElem? hnm)
            rw [← e]
            exact (gk r hr').name
          refine r_err (msg_name gn) fun d hd => kE _ _ _ ?_ _ d ((e1.trans s4).trans (Same.upd hd)) upd_same
          have f1 : firstAt (twi (rowNames rows)) rows.length = some nm := firstAt_hit fj (by unfold twi; rw [hnm]; simp only [if_pos hmem]) (by omega)
          rw [due1, dueRow, if_neg h8, fu, f1]
          rfl
        · walk_at "rd"
          exact ⟨_, _, rfl, s4, firstAt_none fj (by unfold twi; rw [hnm]; simp only [if_neg hno])⟩
      rintro σ' H3 ⟨o5, o6, rfl, s3, ft⟩
      rw [List.length_map, nl] at ft
      have hdue : dueOf (.int m) rows = .ok := by rw [due1, dueRow, if_neg h8, fu, ft]
      have kf := kN m rfl hdue
      have allm : ∀ r ∈ rows, r.1 = m := fun r hr' => by
        obtain ⟨i, hi⟩ := List.mem_iff_getElem?.mp hr'
        by_cases e : r.1 = m
        · exact e
        · exact absurd (firstAt_all fu (List.getElem?_eq_some_iff.mp hi).1) (by unfold unl; rw [hi]; simp only [if_neg e]; intro z; cases z)
      have hk1 : KindsAt K H' as m (rows.map Prod.snd) := ⟨by rw [List.length_map]; exact hl, fun i a kd h1 h2 => by
        rw [List.getElem?_map] at h2
        obtain ⟨r, h3, rfl⟩ := Option.map_eq_some_iff.mp h2
        have z := hk.at_ i a r h1 h3
        rw [allm r (List.mem_of_getElem? h3)] at z
        exact z⟩
      have en : (rows.map Prod.snd).map KD.name = rowNames rows := by unfold rowNames; rw [List.map_map]; rfl
      have hyD : SqL K H3 D ((rowNames rows).map V.str) := Same.seq s3 (SqL.of hy)
      have s3 := e1.trans s3
      have e3 : Td x H3 H3 := Td.same (Same.refl _)
      have hx3 := s3 _ _ hx
      have hp3 := Sd.tup (Sd.of s3) hp
      have hk3 := hk1.sd (Sd.of s3)
      walk_at "rd"
      refine ⟨x, _, dx, [], rfl, hx3, T.c_Catalogue, T.n_Catalogue_signs, by show 0 < 1000; decide, ?_⟩
      rw [show putF (Str.ofString "signs") (.int m) [] = [(Str.ofString "signs", .int m)] from putF_new (by show Str.ofString "signs" ∉ ([] : List Str); decide +kernel)]
      have ea := e3.trans (Td.put (H := H3) (o := .ins (He.ga K "Catalogue") dx [(Str.ofString "signs", .int m)]))
      have hxa := (upd_same : upd H3 x (.ins (He.ga K "Catalogue") dx [(Str.ofString "signs", .int m)]) x = _)
      generalize upd H3 x (.ins (He.ga K "Catalogue") dx [(Str.ofString "signs", .int m)]) = HXa at ea hxa  ⊢
      walk_at "rd"
      refine ⟨_, _, rfl, .inr ⟨ea.tup hx3 hp3, ?_⟩⟩
      have hq2 := ea.tup hx3 hp3
      walk_at "rd"
      refine ⟨x, _, dx, [(Str.ofString "signs", .int m)], rfl, hxa, T.c_Catalogue, T.n_Catalogue_kinds, by show 1 < 1000; decide, ?_⟩
      rw [show putF (Str.ofString "kinds") (.ref p) [(Str.ofString "signs", .int m)] = [(Str.ofString "signs", .int m), (Str.ofString "kinds", .ref p)] from putF_new (by show Str.ofString "kinds" ∉ ([Str.ofString "signs"] : List Str); decide +kernel)]
      have eb := ea.trans (Td.put (H := HXa) (o := .ins (He.ga K "Catalogue") dx [(Str.ofString "signs", .int m), (Str.ofString "kinds", .ref p)]))
      have hxb := (upd_same : upd HXa x (.ins (He.ga K "Catalogue") dx [(Str.ofString "signs", .int m), (Str.ofString "kinds", .ref p)]) x = _)
      have tb := Td.put (x := x) (H := HXa) (o := .ins (He.ga K "Catalogue") dx [(Str.ofString "signs", .int m), (Str.ofString "kinds", .ref p)])
      generalize upd HXa x (.ins (He.ga K "Catalogue") dx [(Str.ofString "signs", .int m), (Str.ofString "kinds", .ref p)]) = HXb at eb hxb tb ⊢
      walk_at "rd"
      refine ⟨_, _, rfl, .inl ⟨eb.seq hx3 hyD, fun r hr => ?_⟩⟩
      have er := eb.trans (Td.same (Same.upd (o := .tup ((rowNames rows).map V.str)) hr))
      have tr := tb.trans (Td.same (x := x) (Same.upd (o := .tup ((rowNames rows).map V.str)) hr))
      have hxr := Same.upd (o := .tup ((rowNames rows).map V.str)) hr _ _ hxb
      have hrT : SqT K (upd HXb r (.tup ((rowNames rows).map V.str))) r ((rowNames rows).map V.str) := SqT.of upd_same
      generalize upd HXb r (.tup ((rowNames rows).map V.str)) = HXr at er tr hxr hrT ⊢
      walk_at "rd"
      refine ⟨x, _, dx, [(Str.ofString "signs", .int m), (Str.ofString "kinds", .ref p)], rfl, hxr, T.c_Catalogue, T.n_Catalogue_names, by show 2 < 1000; decide, ?_⟩
      rw [show putF (Str.ofString "_names") (.ref r) [(Str.ofString "signs", .int m), (Str.ofString "kinds", .ref p)] = [(Str.ofString "signs", .int m), (Str.ofString "kinds", .ref p), (Str.ofString "_names", .ref r)] from putF_new (by show Str.ofString "_names" ∉ ([Str.ofString "signs", Str.ofString "kinds"] : List Str); decide +kernel)]
      have ec := er.trans (Td.put (H := HXr) (o := .ins (He.ga K "Catalogue") dx [(Str.ofString "signs", .int m), (Str.ofString "kinds", .ref p), (Str.ofString "_names", .ref r)]))
      have hxc := (upd_same : upd HXr x (.ins (He.ga K "Catalogue") dx [(Str.ofString "signs", .int m), (Str.ofString "kinds", .ref p), (Str.ofString "_names", .ref r)]) x = _)
      walk_at "rd"
      have tc := tr.trans (Td.put (x := x) (H := HXr) (o := .ins (He.ga K "Catalogue") dx (catL m p r)))
      have tn := Td.put (x := x) (H := HXr) (o := .ins (He.ga K "Catalogue") dx (catL m p r))
      refine kf _ ((Td.same s3).trans ec) ⟨dx, p, r, as, hxc, tc.tup hxa hq2, by rw [en]; exact tn.tup hxr hrT, ⟨by rw [List.length_map]; exact hl, fun i a kd h1 h2 => (hk3.at_ i a kd h1 h2).td ec hx3 ?_⟩⟩
      rintro rfl
      exact nin (List.mem_of_getElem? h1)
theorem ok_Catalogue_init (T : Txt P K mg) : OkX P w K mg base 3 (He.ma K (He.ga K "Catalogue") "__init__") ["self", "signs", "kinds"] (spCat K) := by
  obtain ⟨fd, F⟩ := T.F_Catalogue_init
  have b : Binds K fd ["self", "signs", "kinds"] [] := by
    obtain ⟨ds, hv, b⟩ := F.binds1 (ps := ["self", "signs", "kinds"]) 3 1 (by simp [DefA.dvs, d_Catalogue_init]) (by simp [DefA.dvs, d_Catalogue_init]) (fun T kV doc pm an cdv ct us its l1 l2 => match us, its, l1, l2 with | [_, _, _], [_], _, _ => ⟨_, rfl, rfl⟩)
    have e : (d_Catalogue_init.dvs K).drop 1 = [] := rfl
    rw [e] at hv
    cases hv
    exact b
  exact okX_fn F (fn_Catalogue_init T F) b
theorem ok0_Catalogue_init (T : Txt P K mg) : ∃ fd ds, FnOk P w K mg base (L2.CX P w) 3 (He.ma K (He.ga K "Catalogue") "__init__") fd ["self", "signs", "kinds"] (spCat K) ∧ Vals (d_Catalogue_init.dvs K) ds ∧ Binds K fd ["self", "signs", "kinds"] ds := by
  obtain ⟨fd, F⟩ := T.F_Catalogue_init
  obtain ⟨ds, hv, b⟩ := F.binds1 (ps := ["self", "signs", "kinds"]) 2 0 (by simp [DefA.dvs, d_Catalogue_init]) (by simp [DefA.dvs, d_Catalogue_init]) (fun T kV doc pm an cdv ct us its l1 l2 => match us, its, l1, l2 with | [_, _], [_], _, _ => ⟨_, rfl, rfl⟩)
  exact ⟨fd, ds, fn_Catalogue_init T F, hv, b⟩
end
end Tx

/-! ## Pr6 -/
set_option maxHeartbeats 4000000
/-! What a catalogue can do. -/
namespace Tx
open PySem PySem.Spec PyProof.Rows L2 Gd
local macro_rules | `(tactic| walk_at "rd1") => `(tactic| first
  | ((with_reducible show tVar _ _ _ _); refine r_var (by rfl) ?_)
  | with_reducible refine r_c ?_
  | with_reducible refine r_seq ?_
  | with_reducible refine r_asg ?_
  | with_reducible refine r_name ?_
  | with_reducible refine r_op ?_
  | with_reducible refine r_I0 ?_
  | with_reducible refine r_cons ?_
  | with_reducible refine r_nil ?_
  | with_reducible refine r_call ?_
  | with_reducible refine r_ret ?_
  | with_reducible refine r_cb ?_
  | with_reducible refine r_ifS ?_
  | with_reducible refine r_test ?_
  | with_reducible refine r_bl ?_
  | with_reducible refine r_dget ?_
  | with_reducible refine r_dput ?_
  | ((with_reducible show (∃ k, [V.int _] = [V.int k] ∧ _) ∨ _); refine Or.inl ⟨_, rfl, ?_⟩)
  | with_reducible refine r_lcR ?_
  | with_reducible refine r_lcL ?_
  | with_reducible refine r_lcT ?_
  | with_reducible refine r_m1 ?_
  | with_reducible refine r_gSub ?_
  | with_reducible refine r_forR ?_
  | with_reducible refine r_forL ?_
  | with_reducible refine r_forT ?_
  | with_reducible refine r_bm ?_
  | with_reducible refine r_next ?_
  | with_reducible refine r_B ?_
  | with_reducible refine r_not ?_
  | with_reducible refine r_and ?_
  | with_reducible refine r_or ?_
  | with_reducible refine r_andV ?_
  | with_reducible refine r_orV ?_
  | with_reducible refine r_notV ?_
  | with_reducible refine r_ifE ?_
  | with_reducible refine r_drop ?_
  | with_reducible refine r_tup ?_
  | with_reducible refine r_lst ?_
  | with_reducible refine r_un ?_
  | with_reducible refine r_U ?_)
local macro_rules | `(tactic| walk_at "rd") => `(tactic| repeat walk_at "rd1")
local macro_rules | `(tactic| walk_at "rd1") => `(tactic| first
  | with_reducible refine r_lcS ?_
  | with_reducible refine r_sl ?_
  | with_reducible refine r_noPart ?_
  | with_reducible refine r_partE ?_
  | with_reducible refine r_sfld ?_
  | with_reducible refine r_gc ?_
  | with_reducible refine r_gn ?_
  | with_reducible refine r_forE ?_
  | with_reducible refine r_makeK ?_
  | with_reducible refine r_make ?_
  | with_reducible refine r_fld ?_
  | with_reducible refine r_prop ?_
  | with_reducible refine r_meth ?_
  | with_reducible refine r_js ?_
  | with_reducible refine r_jn ?_
  | with_reducible refine r_fmt ?_
  | with_reducible refine r_chain ?_)
local macro_rules | `(tactic| walk_at "rd1") => `(tactic| first
  | with_reducible refine r_sfa ?_
  | with_reducible refine r_methR ?_)
local macro_rules | `(tactic| walk_at "rd1") => `(tactic| first
  | with_reducible refine r_sErr ?_)
theorem r_star {K : Frg} {te : TE} {t : TA} {σ : L2.St} {H : Hp} {Q : List V → Hp → Prop} (h : te σ H fun x H1 => ∃ p xs, x = V.ref p ∧ (SqT K H1 p xs ∨ SqL K H1 p xs) ∧ t σ H1 fun ys H2 => Q (xs ++ ys) H2) : StX.tStar K te t σ H Q := h
theorem r_callS {sp : Sp} {E : L2.St → XK} {t : TA} {σ : L2.St} {H : Hp} {Q : VK} (h : t σ H fun vs H1 => sp vs H1 Q (E σ)) : tCallS sp E t σ H Q := h
theorem r_makeX {C : Addr} {sp : Sp} {E : L2.St → XK} {t : TA} {σ : L2.St} {H : Hp} {Q : VK} (h : t σ H fun vs H1 => ∀ x dx, H1 x = none → H1 dx = none → dx ≠ x → sp (.ref x :: (vs ++ [])) (upd (upd H1 dx (.own x)) x (.ins C dx [])) (fun v H2 => v = .non ∧ Q (.ref x) H2) (E σ)) :
    tMakeX C sp E t σ H Q := h
theorem r_ixO {C : Addr} {sp : Sp} {E : L2.St → XK} {ta tb : TE} {σ : L2.St} {H : Hp} {Q : VK} (h : ta σ H fun x H1 => tb σ H1 fun y H2 => ∃ (c dx : Addr) (fs : List (Str × V)), x = .ref c ∧ H2 c = some (.ins C dx fs) ∧ sp [.ref c, y] H2 Q (E σ)) : tIxO C sp E ta tb σ H Q := h
theorem r_addO {C D : Addr} {sp : Sp} {E : L2.St → XK} {ta tb : TE} {σ : L2.St} {H : Hp} {Q : VK} (h : ta σ H fun x H1 => tb σ H1 fun y H2 => ∃ (c dx e dy : Addr) (fs gs : List (Str × V)), x = .ref c ∧ y = .ref e ∧ H2 c = some (.ins C dx fs) ∧ H2 e = some (.ins D dy gs) ∧
  sp [.ref c, y] H2 Q (E σ)) : tAddO C D sp E ta tb σ H Q := h
local macro_rules | `(tactic| walk_at "rd1") => `(tactic| first
  | with_reducible refine r_star ?_
  | with_reducible refine r_callS ?_
  | with_reducible refine r_makeX ?_
  | with_reducible refine r_ixO ?_
  | with_reducible refine r_addO ?_)
/-- the kinds of a catalogue stand at t -/
def DCat (K : Frg) (c t : Addr) (H : Hp) : Prop := ∃ (dx q : Addr) (m : Int) (xs : List V), H c = some (.ins (He.ga K "Catalogue") dx (catL m t q)) ∧ SqT K H t xs
def RKind (K : Frg) (a b : Addr) (H : Hp) : Prop := ∃ m k, GoodK m k ∧ KindAt K H a m k ∧ KindAt K H b m k
def RKindN (K : Frg) (a b : Addr) (H : Hp) : Prop := ∃ m k k', GoodK m k ∧ GoodK m k' ∧ KindAt K H a m k ∧ KindAt K H b m k' ∧ k.name ≠ k'.name
theorem mon_RKind {K : Frg} : ∀ a b H H', Ext H H' → RKind K a b H → RKind K a b H' := fun a b H H' e ⟨m, k, g, x, y⟩ => ⟨m, k, g, x.sd (Sd.of e), y.sd (Sd.of e)⟩
theorem mon_RKindN {K : Frg} : ∀ a b H H', Ext H H' → RKindN K a b H → RKindN K a b H' := fun a b H H' e ⟨m, k, k', g, g', x, y, n⟩ => ⟨m, k, k', g, g', x.sd (Sd.of e), y.sd (Sd.of e), n⟩
theorem low_ok {s : Str} (h : Low s) : PyData.canLay0 (.str s) = true := by
  simp only [PyData.canLay0]
  show (s.cps.all (· < 0x110000)) = true
  rw [Array.all_eq_true']
  intro c hc
  have := (h c (by simpa using hc)).2
  exact decide_eq_true (by omega)
theorem kit_own {K : Frg} {C : Addr} : PySem.W.kitOne K (.ref C) (.ref C) = some true := by
  unfold PySem.W.kitOne
  rw [if_pos (by simp)]
theorem shaped_start (s : Option Int) : SeqAt.shaped (startD s) = true := by cases s <;> rfl
theorem lay_wd {m : Int} {ts : List Int} {w : WD} (G : GoodW m ts w) : PyData.canLay0 w.data = true := by
  have h1 := low_ok G.name.low
  have h2 : PyData.canLay0 (.str w.word) = true := by
    rcases G.word with e | e <;> rw [e] <;> decide +kernel
  have h3 : PyData.canLay0 (intsD w.table) = true := by simp [intsD, PyData.canLay0, lay_ints]
  simp [WD.data, PyData.canLay0, PyData.canLayAll0] at h1 h2 h3 ⊢
  exact ⟨h2, h1, h3⟩
theorem lay_wds {m : Int} {ts : List Int} : ∀ {ws : List WD}, (∀ w ∈ ws, GoodW m ts w) → PyData.canLayAll0 (ws.map WD.data) = true
  | [], _ => by simp [PyData.canLayAll0]
  | w :: r, h => by
    rw [List.map_cons, PyData.canLayAll0, lay_wd (h w (List.mem_cons_self ..)), lay_wds (ws := r) fun x hx => h x (List.mem_cons_of_mem _ hx)]
    rfl
theorem depth_wds : ∀ ws : List WD, PyData.depthAll (ws.map WD.data) ≤ 3
  | [] => by simp [PyData.depthAll]
  | w :: r => by
    have := depth_wds r
    have h2 : PyData.depth w.data ≤ 3 := by simp [WD.data, intsD, PyData.depth, PyData.depthAll, depth_ints]
    simp only [List.map_cons, PyData.depthAll]
    omega
theorem shaped_ways {m : Int} {ts : List Int} {ws : List WD} (h : ∀ w ∈ ws, GoodW m ts w) : SeqAt.shaped (waysD ws) = true := by
  have h1 : PyData.canLay0 (waysD ws) = true := by simp [waysD, PyData.canLay0, lay_wds h]
  have h2 : PyData.depth (waysD ws) ≤ 64 := by
    have := depth_wds ws
    simp only [waysD, PyData.depth]
    omega
  unfold SeqAt.shaped
  rw [h1, decide_eq_true h2]
  rfl
theorem eqv_self {d : PyData} (h : SeqAt.shaped d = true) : PyData.eqv d d = true := SeqAt.eqv_refl d (SeqAt.canLay_of_shaped h)
def RCatT (K : Frg) (a b : Addr) (H : Hp) : Prop := ∃ m ks, GoodT m ks ∧ CatAt K H a m ks ∧ CatAt K H b m ks
/-- kinds that are not the same: the first that differ, or one row ends -/
def Differ (ks ls : List KD) : Prop := ∃ J, J ≤ min ks.length ls.length ∧ (∀ i, i < J → ks[i]? = ls[i]?) ∧ ((∃ k l, ks[J]? = some k ∧ ls[J]? = some l ∧ k.name ≠ l.name) ∨ (J = min ks.length ls.length ∧ ks.length ≠ ls.length))
def RCatN (K : Frg) (a b : Addr) (H : Hp) : Prop := ∃ m m' ks ls, GoodT m ks ∧ GoodT m' ls ∧ CatAt K H a m ks ∧ CatAt K H b m' ls ∧ (m ≠ m' ∨ (m = m' ∧ Differ ks ls))
def spCatEq (K : Frg) : Sp := fun vs H Q _ => ∃ (a : Addr) (y : V), vs = [.ref a, y] ∧ ((∃ b, y = .ref b ∧ RCatT K a b H ∧ ∀ H', Same H H' → Q (.bl true) H') ∨ (∃ b, y = .ref b ∧ RCatN K a b H ∧ ∀ H', Same H H' → Q (.bl false) H') ∨ ∃ t : Str, y = .str t ∧ Q (.bl false) H)
def spItem (K : Frg) : Sp := fun vs H Q E => ∃ (c : Addr) (nm : Str) (m : Int) (ks : List KD), vs = [.ref c, .str nm] ∧ CatAt K H c m ks ∧ ks.length ≤ 1000 ∧ Msg (.str nm) ∧ (∀ a k, k ∈ ks → k.name = nm → KindAt K H a m k → Q (.ref a) H) ∧
  (nm ∉ ks.map KD.name → ∀ d, H d = none → E (.ref (e_Unknown.C K)) (some d) (upd H d (.xd [("name", .str nm)])))
def spHas (K : Frg) : Sp := fun vs H Q _ => ∃ (c : Addr) (nm : Str) (m : Int) (ks : List KD), vs = [.ref c, .str nm] ∧ CatAt K H c m ks ∧ Q (.bl (decide (nm ∈ ks.map KD.name))) H
def spLen (K : Frg) : Sp := fun vs H Q _ => ∃ (c : Addr) (m : Int) (ks : List KD), vs = [.ref c] ∧ CatAt K H c m ks ∧ Q (.int ks.length) H
/-- one more kind -/
def spAdd (K : Frg) : Sp := fun vs H Q E => ∃ (c e : Addr) (m : Int) (ks : List KD) (r : Int × KD), vs = [.ref c, .ref e] ∧ CatAt K H c m ks ∧ GoodT m ks ∧ ks.length ≤ 100 ∧ KindAt K H e r.1 r.2 ∧ GoodK r.1 r.2 ∧
  (dueRow m (ks.map (Prod.mk m) ++ [r]) = .ok → ∀ x H', Same H H' → CatAt K H' x m (ks ++ [r.2]) → Q (.ref x) H') ∧
  ∀ C f v, dueE K (.int m) (dueRow m (ks.map (Prod.mk m) ++ [r])) = some (C, f, v) → ∀ H' d, Same H H' → H' d = some (.xd [(f, v)]) → E (.ref C) (some d) H'
section
variable {P : Program} {w : World} {K : Frg} {mg : Str → Option Value} {base : Heap}
theorem sc_Catalogue_iter : FnScope ["self"] ["self"] (defScope s_Catalogue_iter) := ⟨rfl, rfl, rfl, by decide +kernel, rfl, by decide +kernel, by decide +kernel⟩
theorem ok_Catalogue_iter (T : Txt P K mg) : OkS P w K mg base 1 (He.ma K (He.ga K "Catalogue") "__iter__") ["self"] (spOwnIt (DCat K)) := by
  obtain ⟨fd, F⟩ := T.F_Catalogue_iter
  have b : Binds K fd ["self"] [] := F.bindsN fun _ _ _ _ _ _ us hl => match us, hl with | [_], _ => rfl
  refine ⟨fd, fnS_of F sc_Catalogue_iter (fun n vs H Q E h => ?_) (fun cdv A outer s H vs Q hr h => ?_), b⟩
  · obtain ⟨c, t, rfl, _⟩ := h
    rfl
  · obtain ⟨c, t, rfl, ⟨dx, q, m, xs, hc, ht⟩, k⟩ := h
    refine ⟨_, (pss_one (ps_ret (pe_callB call_iterT (by rfl) T.f_iter (by decide +kernel) (pa_cons (pe_fld (pv 0) rfl) pa_nil)))), ?_⟩
    walk_at "rd"
    refine ⟨_, _, _, _, _, rfl, hc, T.c_Catalogue, T.n_Catalogue_kinds, rfl, ?_⟩
    walk_at "rd"
    exact ⟨t, xs, rfl, ht, fun it h1 h2 => k it h1 h2⟩
theorem sc_Kind_eq : FnScope ["self", "other"] ["self", "other"] (defScope s_Kind_eq) := ⟨rfl, rfl, rfl, by decide +kernel, rfl, by decide +kernel, by decide +kernel⟩
theorem ok_Kind_eq (T : Txt P K mg) : Ok P w K mg base 1 (He.ma K (He.ga K "Kind") "__eq__") ["self", "other"] (spEq2 (RKind K) (RKindN K)) := by
  obtain ⟨fd, F⟩ := T.F_Kind_eq
  have b : Binds K fd ["self", "other"] [] := F.bindsN fun _ _ _ _ _ _ us hl => match us, hl with | [_, _], _ => rfl
  refine ok_of F b sc_Kind_eq (fun vs H Q E h => ?_) (fun cdv A outer s H vs Q E hr h => ?_)
  · obtain ⟨a, b, rfl, _⟩ := h
    rfl
  · obtain ⟨a, b, rfl, (⟨⟨m, kd, G, ha, hb⟩, k⟩ | ⟨⟨m, kd, kd2, G, G2, ha, hb, ne⟩, k⟩)⟩ := h
    · obtain ⟨dx, vt, vw, hxa, hta, hwa⟩ := ha.ex
      obtain ⟨dy, ut, uw, hxb, htb, hwb⟩ := hb.ex
      refine ⟨_, (pss_one (ps_ret (pe_and (pe_callB call_isi (by rfl) T.f_isinstance (by decide +kernel) (pa_cons (pv 1) (pa_cons (pe_glob (v := .ref (He.ga K "Kind")) rfl T.g_Kind rfl) pa_nil))) (pe_and (pe_cmpR op_eq (pe_fld (pv 0) rfl) (pe_fld (pv 1) rfl) (by first | exact nomark _ | rfl)) (pe_and (pe_cmpR op_eq (pe_fld (pv 0) rfl) (pe_fld (pv 1) rfl) (by first | exact nomark _ | rfl)) (pe_and (pe_cmpR op_eq (pe_fld (pv 0) rfl) (pe_fld (pv 1) rfl) (by first | exact nomark _ | rfl)) (pe_and (pe_cmpR (op_eqD hr.units) (pe_fld (pv 0) rfl) (pe_fld (pv 1) rfl) (by first | exact nomark _ | rfl)) (pe_and (pe_cmpR op_eq (pe_fld (pv 0) rfl) (pe_fld (pv 1) rfl) (by first | exact nomark _ | rfl)) (pe_and (pe_cmpR (op_eqD hr.units) (pe_fld (pv 0) rfl) (pe_fld (pv 1) rfl) (by first | exact nomark _ | rfl)) (pe_one (pe_cmpR op_eq (pe_fld (pv 0) rfl) (pe_fld (pv 1) rfl) (by first | exact nomark _ | rfl)))))))))))), ?_⟩
      walk_at "rd"
      refine r_isC (T.s_Kind.ty T.c_Kind hxb) kit_own ?_
      refine r_bl (r_iT ?_)
      walk_at "rd"
      refine ⟨_, _, _, _, _, rfl, hxa, T.c_Kind, T.n_Kind_signs, rfl, ?_⟩
      walk_at "rd"
      refine ⟨_, _, _, _, _, rfl, hxb, T.c_Kind, T.n_Kind_signs, rfl, ?_⟩
      refine r_eq rfl ?_
      rw [decide_eq_true rfl]
      refine r_bl (r_iT ?_)
      walk_at "rd"
      refine ⟨_, _, _, _, _, rfl, hxa, T.c_Kind, T.n_Kind_name, rfl, ?_⟩
      walk_at "rd"
      refine ⟨_, _, _, _, _, rfl, hxb, T.c_Kind, T.n_Kind_name, rfl, ?_⟩
      refine r_eq rfl ?_
      rw [decide_eq_true rfl]
      refine r_bl (r_iT ?_)
      walk_at "rd"
      refine ⟨_, _, _, _, _, rfl, hxa, T.c_Kind, T.n_Kind_inputs, rfl, ?_⟩
      walk_at "rd"
      refine ⟨_, _, _, _, _, rfl, hxb, T.c_Kind, T.n_Kind_inputs, rfl, ?_⟩
      refine r_eq rfl ?_
      rw [decide_eq_true rfl]
      refine r_bl (r_iT ?_)
      walk_at "rd"
      refine ⟨_, _, _, _, _, rfl, hxa, T.c_Kind, T.n_Kind_table, rfl, ?_⟩
      walk_at "rd"
      refine ⟨_, _, _, _, _, rfl, hxb, T.c_Kind, T.n_Kind_table, rfl, ?_⟩
      refine r_eqD hta htb shaped_ints shaped_ints ?_
      rw [eqv_self shaped_ints]
      refine r_bl (r_iT ?_)
      walk_at "rd"
      refine ⟨_, _, _, _, _, rfl, hxa, T.c_Kind, T.n_Kind_start, rfl, ?_⟩
      walk_at "rd"
      refine ⟨_, _, _, _, _, rfl, hxb, T.c_Kind, T.n_Kind_start, rfl, ?_⟩
      refine r_eq (by cases kd.start <;> rfl) ?_
      rw [decide_eq_true rfl]
      refine r_bl (r_iT ?_)
      walk_at "rd"
      refine ⟨_, _, _, _, _, rfl, hxa, T.c_Kind, T.n_Kind_ways, rfl, ?_⟩
      walk_at "rd"
      refine ⟨_, _, _, _, _, rfl, hxb, T.c_Kind, T.n_Kind_ways, rfl, ?_⟩
      refine r_eqD hwa hwb (shaped_ways G.ways) (shaped_ways G.ways) ?_
      rw [eqv_self (shaped_ways G.ways)]
      refine r_bl (r_iT ?_)
      walk_at "rd"
      refine ⟨_, _, _, _, _, rfl, hxa, T.c_Kind, T.n_Kind_price, rfl, ?_⟩
      walk_at "rd"
      refine ⟨_, _, _, _, _, rfl, hxb, T.c_Kind, T.n_Kind_price, rfl, ?_⟩
      refine r_eq rfl ?_
      rw [decide_eq_true rfl]
      exact k H (Same.refl _)
    · obtain ⟨dx, vt, vw, hxa, hta, hwa⟩ := ha.ex
      obtain ⟨dy, ut, uw, hxb, htb, hwb⟩ := hb.ex
      refine ⟨_, (pss_one (ps_ret (pe_and (pe_callB call_isi (by rfl) T.f_isinstance (by decide +kernel) (pa_cons (pv 1) (pa_cons (pe_glob (v := .ref (He.ga K "Kind")) rfl T.g_Kind rfl) pa_nil))) (pe_and (pe_cmpR op_eq (pe_fld (pv 0) rfl) (pe_fld (pv 1) rfl) (by first | exact nomark _ | rfl)) (pe_and (pe_cmpR op_eq (pe_fld (pv 0) rfl) (pe_fld (pv 1) rfl) (by first | exact nomark _ | rfl)) (pe_and (pe_cmpR op_eq (pe_fld (pv 0) rfl) (pe_fld (pv 1) rfl) (by first | exact nomark _ | rfl)) (pe_and (pe_cmpR (op_eqD hr.units) (pe_fld (pv 0) rfl) (pe_fld (pv 1) rfl) (by first | exact nomark _ | rfl)) (pe_and (pe_cmpR op_eq (pe_fld (pv 0) rfl) (pe_fld (pv 1) rfl) (by first | exact nomark _ | rfl)) (pe_and (pe_cmpR (op_eqD hr.units) (pe_fld (pv 0) rfl) (pe_fld (pv 1) rfl) (by first | exact nomark _ | rfl)) (pe_one (pe_cmpR op_eq (pe_fld (pv 0) rfl) (pe_fld (pv 1) rfl) (by first | exact nomark _ | rfl)))))))))))), ?_⟩
      walk_at "rd"
      refine r_isC (T.s_Kind.ty T.c_Kind hxb) kit_own ?_
      refine r_bl (r_iT ?_)
      walk_at "rd"
      refine ⟨_, _, _, _, _, rfl, hxa, T.c_Kind, T.n_Kind_signs, rfl, ?_⟩
      walk_at "rd"
      refine ⟨_, _, _, _, _, rfl, hxb, T.c_Kind, T.n_Kind_signs, rfl, ?_⟩
      refine r_eq rfl ?_
      rw [decide_eq_true rfl]
      refine r_bl (r_iT ?_)
      walk_at "rd"
      refine ⟨_, _, _, _, _, rfl, hxa, T.c_Kind, T.n_Kind_name, rfl, ?_⟩
      walk_at "rd"
      refine ⟨_, _, _, _, _, rfl, hxb, T.c_Kind, T.n_Kind_name, rfl, ?_⟩
      refine r_eq rfl ?_
      rw [decide_eq_false (fun z => ne (by injection z))]
      exact r_bl (r_iF (k H (Same.refl _)))

theorem k_eqT_Kind {X : Cx} {n : Nat} (T : Txt P K mg) (hr : Room n X.A) (e : X.prog = P ∧ X.K = K ∧ X.mg = mg := by exact ⟨rfl, rfl, rfl⟩) (hk : 2 ≤ n := by decide) : OpR X (compareOp .Eq) (rEqT K (DIns (He.ga K "Kind") (RKind K)) (DIns (He.ga K "Kind") (RKindN K))) := by
  obtain ⟨rfl, rfl, rfl⟩ := e
  obtain ⟨fd, F, b, _⟩ := ok_Kind_eq (w := X.w) (base := X.base) T
  refine op_eqT (mon_ins mon_RKind) (mon_ins mon_RKindN) ((rcT_ins F T.m_Kind_eq b).eqG fun _ _ _ d => let ⟨a, b, _, _, _, _, hx, hy, _⟩ := d; ⟨a, b, hx, hy⟩) ((rcN_ins (k := 0) F T.m_Kind_eq b).eqN fun x y H d => ?_) hr hk
  obtain ⟨a, b, dx, dy, fs, gs, rfl, rfl, ha, hb, m, k, k', G, G', ka, kb, ne⟩ := d
  refine ⟨a, b, rfl, rfl, fun z => ne ?_⟩
  subst z
  obtain ⟨d1, t1, w1, i1, _⟩ := ka.ex
  obtain ⟨d2, t2, w2, i2, _⟩ := kb.ex
  rw [i1] at i2
  have e := congrArg (fun o : Option HO => match o with | some (.ins _ _ fs) => fs.lookup (Str.ofString "name") | _ => none) i2
  have nm : (Str.ofString "name" == Str.ofString "signs") = false := by decide +kernel
  simpa [kindL, List.lookup, nm] using e
theorem sc_Catalogue_eq : FnScope ["self", "other"] ["self", "other"] (defScope s_Catalogue_eq) := ⟨rfl, rfl, rfl, by decide +kernel, rfl, by decide +kernel, by decide +kernel⟩
theorem ok_Catalogue_eq (T : Txt P K mg) : Ok P w K mg base 3 (He.ma K (He.ga K "Catalogue") "__eq__") ["self", "other"] (spCatEq K) := by
  obtain ⟨fd, F⟩ := T.F_Catalogue_eq
  have b : Binds K fd ["self", "other"] [] := F.bindsN fun _ _ _ _ _ _ us hl => match us, hl with | [_, _], _ => rfl
  refine ok_of F b sc_Catalogue_eq (fun vs H Q E h => ?_) (fun cdv A outer s H vs Q E hr h => ?_)
  · obtain ⟨a, y, rfl, _⟩ := h
    rfl
  · obtain ⟨a, y, rfl, (⟨b, rfl, ⟨m, ks, G, ha, hb⟩, k⟩ | ⟨b, rfl, ⟨m, m', ks, ls, G, G', ha, hb, df⟩, k⟩ | ⟨t, rfl, k⟩)⟩ := h
    · obtain ⟨dx, p, q, as, hxa, hpa, _, hka⟩ := ha.ex
      obtain ⟨dy, p2, q2, bs, hxb, hpb, _, hkb⟩ := hb.ex
      refine ⟨_, (pss_one (ps_ret (pe_and (pe_callB call_isi (by rfl) T.f_isinstance (by decide +kernel) (pa_cons (pv 1) (pa_cons (pe_glob (v := .ref (He.ga K "Catalogue")) rfl T.g_Catalogue rfl) pa_nil))) (pe_and (pe_cmpR op_eq (pe_fld (pv 0) rfl) (pe_fld (pv 1) rfl) (by first | exact nomark _ | rfl)) (pe_one (pe_cmpR (k_eqT_Kind T hr) (pe_fld (pv 0) rfl) (pe_fld (pv 1) rfl) (by first | exact nomark _ | rfl))))))), ?_⟩
      walk_at "rd"
      refine r_isC (T.s_Catalogue.ty T.c_Catalogue hxb) kit_own ?_
      refine r_bl (r_iT ?_)
      walk_at "rd"
      refine ⟨_, _, _, _, _, rfl, hxa, T.c_Catalogue, T.n_Catalogue_signs, rfl, ?_⟩
      walk_at "rd"
      refine ⟨_, _, _, _, _, rfl, hxb, T.c_Catalogue, T.n_Catalogue_signs, rfl, ?_⟩
      refine r_eq rfl ?_
      rw [decide_eq_true rfl]
      refine r_bl (r_iT ?_)
      walk_at "rd"
      refine ⟨_, _, _, _, _, rfl, hxa, T.c_Catalogue, T.n_Catalogue_kinds, rfl, ?_⟩
      walk_at "rd"
      refine ⟨_, _, _, _, _, rfl, hxb, T.c_Catalogue, T.n_Catalogue_kinds, rfl, ?_⟩
      have la := hka.len
      have lb := hkb.len
      refine .inl ⟨⟨p, p2, _, _, rfl, rfl, hpa, hpb, by rw [List.length_map, List.length_map]; omega, fun i x y h1 h2 => ?_⟩, k⟩
      obtain ⟨a', k1, e1, f1, rfl, g1⟩ := hka.get h1
      obtain ⟨b', k2, e2, f2, rfl, g2⟩ := hkb.get h2
      rw [f1] at f2
      cases f2
      obtain ⟨d1, t1, w1, i1, _⟩ := g1.ex
      obtain ⟨d2, t2, w2, i2, _⟩ := g2.ex
      exact ⟨a', b', d1, d2, _, _, rfl, rfl, i1, i2, m, k1, G.good k1 (List.mem_of_getElem? f1), g1, g2⟩
    · obtain ⟨dx, p, q, as, hxa, hpa, _, hka⟩ := ha.ex
      obtain ⟨dy, p2, q2, bs, hxb, hpb, _, hkb⟩ := hb.ex
      refine ⟨_, (pss_one (ps_ret (pe_and (pe_callB call_isi (by rfl) T.f_isinstance (by decide +kernel) (pa_cons (pv 1) (pa_cons (pe_glob (v := .ref (He.ga K "Catalogue")) rfl T.g_Catalogue rfl) pa_nil))) (pe_and (pe_cmpR op_eq (pe_fld (pv 0) rfl) (pe_fld (pv 1) rfl) (by first | exact nomark _ | rfl)) (pe_one (pe_cmpR (k_eqT_Kind T hr) (pe_fld (pv 0) rfl) (pe_fld (pv 1) rfl) (by first | exact nomark _ | rfl))))))), ?_⟩
      walk_at "rd"
      refine r_isC (T.s_Catalogue.ty T.c_Catalogue hxb) kit_own ?_
      refine r_bl (r_iT ?_)
      walk_at "rd"
      refine ⟨_, _, _, _, _, rfl, hxa, T.c_Catalogue, T.n_Catalogue_signs, rfl, ?_⟩
      walk_at "rd"
      refine ⟨_, _, _, _, _, rfl, hxb, T.c_Catalogue, T.n_Catalogue_signs, rfl, ?_⟩
      refine r_eq rfl ?_
      refine r_bl ?_
      rcases df with ne | ⟨rfl, J, hJ, pre, dif⟩
      · rw [decide_eq_false (fun z => ne (by injection z))]
        exact r_iF (k H (Same.refl _))
      rw [decide_eq_true rfl]
      refine r_iT ?_
      walk_at "rd"
      refine ⟨_, _, _, _, _, rfl, hxa, T.c_Catalogue, T.n_Catalogue_kinds, rfl, ?_⟩
      walk_at "rd"
      refine ⟨_, _, _, _, _, rfl, hxb, T.c_Catalogue, T.n_Catalogue_kinds, rfl, ?_⟩
      have la := hka.len
      have lb := hkb.len
      refine .inr ⟨⟨p, p2, as.map V.ref, bs.map V.ref, J, rfl, rfl, hpa, hpb, by rw [List.length_map, List.length_map, la, lb]; exact hJ, fun i x y hi h1 h2 => ?_, ?_⟩, k⟩
      · obtain ⟨a', k1, e1, f1, rfl, g1⟩ := hka.get h1
        obtain ⟨b', k2, e2, f2, rfl, g2⟩ := hkb.get h2
        rw [pre i hi, f2] at f1
        cases f1
        obtain ⟨d1, t1, w1, i1, _⟩ := g1.ex
        obtain ⟨d2, t2, w2, i2, _⟩ := g2.ex
        exact ⟨a', b', d1, d2, _, _, rfl, rfl, i1, i2, m, k1, G'.good k1 (List.mem_of_getElem? f2), g1, g2⟩
      · rcases dif with ⟨k1, k2, f1, f2, nn⟩ | ⟨eJ, nl⟩
        · have j1 : J < as.length := by have := (List.getElem?_eq_some_iff.mp f1).1; omega
          have j2 : J < bs.length := by have := (List.getElem?_eq_some_iff.mp f2).1; omega
          have g1 := hka.at_ J _ k1 (List.getElem?_eq_getElem j1) f1
          have g2 := hkb.at_ J _ k2 (List.getElem?_eq_getElem j2) f2
          obtain ⟨d1, t1, w1, i1, _⟩ := g1.ex
          obtain ⟨d2, t2, w2, i2, _⟩ := g2.ex
          refine .inl ⟨.ref as[J], .ref bs[J], by rw [List.getElem?_map, List.getElem?_eq_getElem j1]; rfl, by rw [List.getElem?_map, List.getElem?_eq_getElem j2]; rfl, ?_⟩
          exact ⟨as[J], bs[J], d1, d2, _, _, rfl, rfl, i1, i2, m, k1, k2, G.good k1 (List.mem_of_getElem? f1), G'.good k2 (List.mem_of_getElem? f2), g1, g2, nn⟩
        · exact .inr ⟨by rw [List.length_map, List.length_map, la, lb]; exact eJ, by rw [List.length_map, List.length_map, la, lb]; exact nl⟩
    · refine ⟨_, (pss_one (ps_ret (pe_and (pe_callB call_isi (by rfl) T.f_isinstance (by decide +kernel) (pa_cons (pv 1) (pa_cons (pe_glob (v := .ref (He.ga K "Catalogue")) rfl T.g_Catalogue rfl) pa_nil))) (pe_and (pe_cmpR op_eq (pe_fld (pv 0) rfl) (pe_fld (pv 1) rfl) (by first | exact nomark _ | rfl)) (pe_one (pe_cmpR (k_eqT_Kind T hr) (pe_fld (pv 0) rfl) (pe_fld (pv 1) rfl) (by first | exact nomark _ | rfl))))))), ?_⟩
      walk_at "rd"
      refine r_isC (.base (.str t)) (of_decide_eq_true T.x_ks) ?_
      exact r_bl (r_iF k)
theorem sc_Catalogue_contains : FnScope ["self", "x"] ["self", "x"] (defScope s_Catalogue_contains) := ⟨rfl, rfl, rfl, by decide +kernel, rfl, by decide +kernel, by decide +kernel⟩
theorem ok_Catalogue_contains (T : Txt P K mg) : Ok P w K mg base 1 (He.ma K (He.ga K "Catalogue") "__contains__") ["self", "x"] (spHas K) := by
  obtain ⟨fd, F⟩ := T.F_Catalogue_contains
  have b : Binds K fd ["self", "x"] [] := F.bindsN fun _ _ _ _ _ _ us hl => match us, hl with | [_, _], _ => rfl
  refine ok_of F b sc_Catalogue_contains (fun vs H Q E h => ?_) (fun cdv A outer s H vs Q E hr h => ?_)
  · obtain ⟨c, nm, m, ks, rfl, _⟩ := h
    rfl
  · obtain ⟨c, nm, m, ks, rfl, hC, k⟩ := h
    obtain ⟨dx, p, q, as, hx, hp, hq, hk⟩ := hC.ex
    refine ⟨_, (pss_one (ps_ret (pe_cmpR op_in_seq (pv 1) (pe_fld (pv 0) rfl) (by first | exact nomark _ | rfl)))), ?_⟩
    walk_at "rd"
    refine ⟨_, _, _, _, _, rfl, hx, T.c_Catalogue, T.n_Catalogue_names, rfl, ?_⟩
    exact r_in (.inr hq) k
theorem sc_Catalogue_len : FnScope ["self"] ["self"] (defScope s_Catalogue_len) := ⟨rfl, rfl, rfl, by decide +kernel, rfl, by decide +kernel, by decide +kernel⟩
theorem ok_Catalogue_len (T : Txt P K mg) : Ok P w K mg base 1 (He.ma K (He.ga K "Catalogue") "__len__") ["self"] (spLen K) := by
  obtain ⟨fd, F⟩ := T.F_Catalogue_len
  have b : Binds K fd ["self"] [] := F.bindsN fun _ _ _ _ _ _ us hl => match us, hl with | [_], _ => rfl
  refine ok_of F b sc_Catalogue_len (fun vs H Q E h => ?_) (fun cdv A outer s H vs Q E hr h => ?_)
  · obtain ⟨c, m, ks, rfl, _⟩ := h
    rfl
  · obtain ⟨c, m, ks, rfl, hC, k⟩ := h
    obtain ⟨dx, p, q, as, hx, hp, hq, hk⟩ := hC.ex
    refine ⟨_, (pss_one (ps_ret (pe_callB call_len_seq (by rfl) T.f_len (by decide +kernel) (pa_cons (pe_fld (pv 0) rfl) pa_nil)))), ?_⟩
    walk_at "rd"
    refine ⟨_, _, _, _, _, rfl, hx, T.c_Catalogue, T.n_Catalogue_kinds, rfl, ?_⟩
    walk_at "rd"
    refine r_lenT hp ?_
    rw [List.length_map, hk.len]
    exact k
theorem sc_Catalogue_getitem : FnScope ["self", "at", "kind"] ["self", "at"] (defScope s_Catalogue_getitem) := ⟨rfl, rfl, rfl, by decide +kernel, rfl, by decide +kernel, by decide +kernel⟩
theorem ok_Catalogue_getitem (T : Txt P K mg) : OkX P w K mg base 3 (He.ma K (He.ga K "Catalogue") "__getitem__") ["self", "at"] (spItem K) := by
  obtain ⟨fd, F⟩ := T.F_Catalogue_getitem
  have b : Binds K fd ["self", "at"] [] := F.bindsN fun _ _ _ _ _ _ us hl => match us, hl with | [_, _], _ => rfl
  refine okX_of F b sc_Catalogue_getitem (fun vs H Q E h => ?_) (fun cdv A outer s H vs Q E hr h => ?_)
  · obtain ⟨c, nm, m, ks, rfl, _⟩ := h
    rfl
  · obtain ⟨c, nm, m, ks, rfl, hC, l1, ms, k, kE⟩ := h
    obtain ⟨dx, p, q, as, hx, hp, hq, hk⟩ := hC.ex
    have la := hk.len
    refine ⟨_, (pss_cons (ps_for (passes_of rfl) rfl (pi_tup (pe_fld (pv 0) rfl)) (pg_name (i := 2) sc_Catalogue_getitem.nd rfl (Or.inl rfl)) (pss_one (ps_if (pt_cmpR op_eq (pe_fld (pv 2) rfl) (pv 1) (by first | exact nomark _ | rfl)) (pss_one (ps_ret (pv 2))) pss_nil)))
  (pss_one (ps_err rfl (takes_of rfl rfl rfl rfl) (ok_Unknown_init T) hr rfl T.g_Unknown (pa_cons (pv 1) pa_nil)))), ?_⟩
    walk_at "rd"
    refine ⟨_, _, _, _, _, rfl, hx, T.c_Catalogue, T.n_Catalogue_kinds, rfl, ?_⟩
    refine forT (fun j σ' H' => ∃ o : Option V, σ' = [some (.ref c), some (.str nm), o] ∧ H' = H ∧ nm ∉ (ks.take j).map KD.name) hp ⟨none, rfl, rfl, by simp⟩ (fun j σ' H' _ z => ?_) ?_ ?_
    · obtain ⟨_, _, rfl, _⟩ := z
      exact hp
    · rintro j v σ' H' hv ⟨o, rfl, rfl, nj⟩
      obtain ⟨a, kd, _, hkd, rfl, hK⟩ := hk.get hv
      obtain ⟨dk, vt, vw, ha, _⟩ := hK.ex
      walk_at "rd"
      refine ⟨_, _, _, _, _, rfl, ha, T.c_Kind, T.n_Kind_name, rfl, ?_⟩
      walk_at "rd"
      refine r_eq rfl ?_
      refine r_bl ?_
      by_cases e : kd.name = nm
      · rw [e, decide_eq_true rfl]
        refine r_iT ?_
        walk_at "rd"
        exact k a kd (List.mem_of_getElem? hkd) e hK
      · rw [decide_eq_false (fun z => e (by injection z))]
        refine r_iF ?_
        walk_at "rd"
        refine ⟨_, rfl, rfl, ?_⟩
        rw [List.take_succ, hkd, List.map_append]
        intro z
        rcases List.mem_append.mp z with z | z
        · exact nj z
        · simp at z
          exact e z.symm
    rintro σ' H' ⟨o, rfl, rfl, nj⟩
    rw [List.length_map, la, List.take_length] at nj
    walk_at "rd"
    exact r_err ms (kE nj)
theorem k_mk_Catalogue {X : Cx} {n : Nat} {E : L2.St → XK} {p pos : Pos} {e : Expr} {es : List Expr} {t : TA} (T : Txt P K mg) (hr : Room n X.A) (hx : ∀ σ, PassesAt (L2.CX X.prog X.w) X σ (E σ)) (ha : PA X (e :: es) t) (eq : X.prog = P ∧ X.K = K ∧ X.mg = mg := by exact ⟨rfl, rfl, rfl⟩) (hk : 4 ≤ n := by decide) (hg : Gl X "Catalogue" := by rfl)
    (he : starEach (e :: es) X.env = (false, eval e X.env) :: starEach es X.env := by rfl) (hpl : (backTo pos (starEach es X.env)).any (·.1) = false := by rfl) :
    PE X (.Call (.Name "Catalogue" p) (e :: es) [] pos) (tMakeX (He.ga K "Catalogue") (spCat K) E t) := by
  obtain ⟨rfl, rfl, rfl⟩ := eq
  exact pmkX T.k_Catalogue (ok_Catalogue_init T) hr hg T.g_Catalogue hx ha hk (by decide) he hpl
theorem sc_Catalogue_add : FnScope ["self", "other"] ["self", "other"] (defScope s_Catalogue_add) := ⟨rfl, rfl, rfl, by decide +kernel, rfl, by decide +kernel, by decide +kernel⟩
theorem ok_Catalogue_add (T : Txt P K mg) : OkX P w K mg base 5 (He.ma K (He.ga K "Catalogue") "__add__") ["self", "other"] (spAdd K) := by
  obtain ⟨fd, F⟩ := T.F_Catalogue_add
  have b : Binds K fd ["self", "other"] [] := F.bindsN fun _ _ _ _ _ _ us hl => match us, hl with | [_, _], _ => rfl
  refine okX_of F b sc_Catalogue_add (fun vs H Q E h => ?_) (fun cdv A outer s H vs Q E hr h => ?_)
  · obtain ⟨c, e, m, ks, r, rfl, _⟩ := h
    rfl
  · obtain ⟨c, e, m, ks, r, rfl, hC, G, l1, hKe, Ge, k, kE⟩ := h
    have gm := G.m_
    have m2 : 2 ≤ m := by rcases gm with rfl | rfl <;> decide
    have m3 : m ≤ 3 := by rcases gm with rfl | rfl <;> decide
    obtain ⟨dx, p, q, as, hx, hp, hq, hk⟩ := hC.ex
    have la := hk.len
    refine ⟨_, (pss_one (ps_ret (k_mk_Catalogue T hr (fun σ => passAt (takes_of rfl rfl rfl rfl) σ) (pa_cons (pe_fld (pv 0) rfl) (pa_cons (pe_tup (StX.pa_star (pe_fld (pv 0) rfl) (pa_cons (pv 1) pa_nil))) pa_nil))))), ?_⟩
    walk_at "rd"
    refine ⟨_, _, _, _, _, rfl, hx, T.c_Catalogue, T.n_Catalogue_signs, rfl, ?_⟩
    walk_at "rd"
    refine ⟨_, _, _, _, _, rfl, hx, T.c_Catalogue, T.n_Catalogue_kinds, rfl, ?_⟩
    refine ⟨_, _, rfl, .inl hp, ?_⟩
    walk_at "rd"
    have ev : as.map V.ref ++ [V.ref e] = (as ++ [e]).map V.ref := by rw [List.map_append]; rfl
    rw [ev]
    refine ⟨by rw [List.length_map, List.length_append, List.length_singleton, la]; exact Nat.le_trans (by omega) line_big, fun t ht => ?_⟩
    walk_at "rd"
    intro x dx' nx nd ne
    have s1 : Same H (upd H t (.tup ((as ++ [e]).map V.ref))) := Same.upd ht
    have htT : SqT K (upd H t (.tup ((as ++ [e]).map V.ref))) t ((as ++ [e]).map V.ref) := SqT.of upd_same
    generalize upd H t (.tup ((as ++ [e]).map V.ref)) = H1 at s1 htT nx nd ⊢
    have s2 : Same H1 (upd (upd H1 dx' (.own x)) x (.ins (He.ga K "Catalogue") dx' [])) := (Same.upd nd).trans (Same.upd (by rw [upd_ne (Ne.symm ne)]; exact nx))
    have eR : (ks.map (Prod.mk m) ++ [r]).map Prod.snd = ks ++ [r.2] := by rw [List.map_append, List.map_map]; simp [Function.comp_def]
    have dR : dueOf (.int m) (ks.map (Prod.mk m) ++ [r]) = dueRow m (ks.map (Prod.mk m) ++ [r]) := by unfold dueOf; simp only [if_pos (⟨m2, m3⟩ : (2 : Int) ≤ m ∧ m ≤ 3)]
    have Hx : H x = none := s1.free nx
    refine ⟨x, dx', t, .int m, as ++ [e], ks.map (Prod.mk m) ++ [r], rfl, upd_same, .inr (Sd.tup (Sd.of s2) htT), ⟨by rw [List.length_append, List.length_append, List.length_map, la]; rfl, fun i a r' h1 h2 => ?_⟩, fun r' hr' => ?_, by rw [List.length_append, List.length_map, List.length_singleton]; omega, .inl ⟨m, rfl⟩, fun hm => ?_, fun m' em due H' td cat => ?_, fun C f v ee H' d ss hd => ?_⟩
    · by_cases hi : i < as.length
      · rw [List.getElem?_append_left hi] at h1
        rw [List.getElem?_append_left (by rw [List.length_map]; omega), List.getElem?_map] at h2
        obtain ⟨kd, hkd, rfl⟩ := Option.map_eq_some_iff.mp h2
        exact (hk.at_ i a kd h1 hkd).sd (Sd.of (s1.trans s2))
      · have hi2 : i = as.length := by
          have := (List.getElem?_eq_some_iff.mp h1).1
          rw [List.length_append, List.length_singleton] at this
          omega
        subst hi2
        rw [List.getElem?_append_right (Nat.le_refl _), Nat.sub_self] at h1
        rw [List.getElem?_append_right (by rw [List.length_map]; omega), List.length_map, la, Nat.sub_self] at h2
        cases (show some e = some a from h1)
        cases (show some r = some r' from h2)
        exact hKe.sd (Sd.of (s1.trans s2))
    · rcases List.mem_append.mp hr' with z | z
      · obtain ⟨kd, hkd, rfl⟩ := List.mem_map.mp z
        exact G.good kd hkd
      · rw [List.mem_singleton.mp z]
        exact Ge
    · rcases List.mem_append.mp hm with z | z
      · obtain ⟨i, hi⟩ := List.mem_iff_getElem?.mp z
        have il := (List.getElem?_eq_some_iff.mp hi).1
        obtain ⟨d1, t1, w1, i1, _⟩ := (hk.at_ i x _ hi (List.getElem?_eq_getElem (by omega : i < ks.length))).ex
        rw [Hx] at i1
        cases i1
      · rw [List.mem_singleton.mp z] at Hx
        obtain ⟨d1, t1, w1, i1, _⟩ := hKe.ex
        rw [Hx] at i1
        cases i1
    · cases em
      rw [eR] at cat
      rw [dR] at due
      exact ⟨rfl, k due x H' (s1.trans (Td.made nx nd td)) cat⟩
    · rw [dR] at ee
      exact kE C f v ee H' d ((s1.trans s2).trans ss) hd
end
end Tx

/-! ## Pr7 -/
set_option maxHeartbeats 4000000
/-! The law's own small defs. -/
namespace Tx
open PySem PySem.Spec PyProof.Rows L2 Gd
local macro_rules | `(tactic| walk_at "rd1") => `(tactic| first
  | ((with_reducible show tVar _ _ _ _); refine r_var (by rfl) ?_)
  | with_reducible refine r_c ?_
  | with_reducible refine r_seq ?_
  | with_reducible refine r_asg ?_
  | with_reducible refine r_name ?_
  | with_reducible refine r_op ?_
  | with_reducible refine r_I0 ?_
  | with_reducible refine r_cons ?_
  | with_reducible refine r_nil ?_
  | with_reducible refine r_call ?_
  | with_reducible refine r_ret ?_
  | with_reducible refine r_cb ?_
  | with_reducible refine r_ifS ?_
  | with_reducible refine r_test ?_
  | with_reducible refine r_bl ?_
  | with_reducible refine r_dget ?_
  | with_reducible refine r_dput ?_
  | ((with_reducible show (∃ k, [V.int _] = [V.int k] ∧ _) ∨ _); refine Or.inl ⟨_, rfl, ?_⟩)
  | with_reducible refine r_lcR ?_
  | with_reducible refine r_lcL ?_
  | with_reducible refine r_lcT ?_
  | with_reducible refine r_m1 ?_
  | with_reducible refine r_gSub ?_
  | with_reducible refine r_forR ?_
  | with_reducible refine r_forL ?_
  | with_reducible refine r_forT ?_
  | with_reducible refine r_bm ?_
  | with_reducible refine r_next ?_
  | with_reducible refine r_B ?_
  | with_reducible refine r_not ?_
  | with_reducible refine r_and ?_
  | with_reducible refine r_or ?_
  | with_reducible refine r_andV ?_
  | with_reducible refine r_orV ?_
  | with_reducible refine r_notV ?_
  | with_reducible refine r_ifE ?_
  | with_reducible refine r_drop ?_
  | with_reducible refine r_tup ?_
  | with_reducible refine r_lst ?_
  | with_reducible refine r_un ?_
  | with_reducible refine r_U ?_)
local macro_rules | `(tactic| walk_at "rd") => `(tactic| repeat walk_at "rd1")
local macro_rules | `(tactic| walk_at "rd1") => `(tactic| first
  | with_reducible refine r_lcS ?_
  | with_reducible refine r_sl ?_
  | with_reducible refine r_noPart ?_
  | with_reducible refine r_partE ?_
  | with_reducible refine r_sfld ?_
  | with_reducible refine r_gc ?_
  | with_reducible refine r_gn ?_
  | with_reducible refine r_forE ?_
  | with_reducible refine r_makeK ?_
  | with_reducible refine r_make ?_
  | with_reducible refine r_fld ?_
  | with_reducible refine r_prop ?_
  | with_reducible refine r_meth ?_
  | with_reducible refine r_js ?_
  | with_reducible refine r_jn ?_
  | with_reducible refine r_fmt ?_
  | with_reducible refine r_chain ?_)
local macro_rules | `(tactic| walk_at "rd1") => `(tactic| first
  | with_reducible refine r_sfa ?_
  | with_reducible refine r_methR ?_)
local macro_rules | `(tactic| walk_at "rd1") => `(tactic| first
  | with_reducible refine r_sErr ?_)
theorem r_repr {K : Frg} {v : V} {d : PyData} {H : Hp} {Q : VK} (h1 : Dp K H v d) (h2 : d.showable = true) (h3 : d.hasDict = false) (h4 : d.depth ≤ 64) (h5 : d.shown.length ≤ sizeLine) (h : Q (.str d.shown) H) : rRepr K [v] H Q := ⟨v, d, rfl, h1, h2, h3, h4, h5, h⟩
/-- data whose text can be made -/
structure Shw (d : PyData) : Prop where
  sh : d.showable = true
  nd : d.hasDict = false
  dp : d.depth ≤ 64
  ln : d.shown.length ≤ sizeLine
def spSame (K : Frg) : Sp := fun vs H Q _ => ∃ v u d, vs = [v, u] ∧ Dp K H v d ∧ Dp K H u d ∧ Shw d ∧ Q (.bl true) H
theorem r_same {K : Frg} {H : Hp} {Q : VK} {E : XK} {v u : V} {d : PyData} (h1 : Dp K H v d) (h2 : Dp K H u d) (h3 : Shw d) (h : Q (.bl true) H) : spSame K ([v, u] ++ []) H Q E := ⟨v, u, d, rfl, h1, h2, h3, h⟩
def spParts (K : Frg) : Sp := fun vs H Q _ => ∃ x m kd, vs = [.ref x] ∧ KindAt K H x m kd ∧ ∀ v H', Same H H' → Dp K H' v kd.data → Q v H'
section
variable {K : Frg} {H H' : Hp}
theorem ways_at {v : V} {wl : List WD} (h : Dp K H v (waysD wl)) : ∃ (p : Addr) (us : List V), v = .ref p ∧ SqT K H p us ∧ DpAll K H us (wl.map WD.data) := by
  unfold waysD at h
  cases h with
  | tup h1 h2 => exact ⟨_, _, rfl, h1, h2⟩
end
theorem refs_read : ∀ {ys : List V} {P : Nat → Addr → Prop}, (∀ (i : Nat) y, ys[i]? = some y → ∃ a, y = V.ref a ∧ P i a) → ∃ as : List Addr, ys = as.map V.ref ∧ ∀ (i : Nat) a, as[i]? = some a → P i a
  | [], _, _ => ⟨[], rfl, fun i a h => by simp at h⟩
  | y :: r, P, h => by
    obtain ⟨a, rfl, ha⟩ := h 0 y rfl
    obtain ⟨as, e, hs⟩ := refs_read (ys := r) (P := fun i => P (i + 1)) fun i z hz => h (i + 1) z (by simpa using hz)
    refine ⟨a :: as, by rw [e]; rfl, fun i b hb => ?_⟩
    cases i with
    | zero => cases (show some a = some b from hb); exact ha
    | succ i => exact hs i b (by simpa using hb)
theorem seq_ix {x : Int} {n : Nat} (h0 : 0 ≤ x) (h1 : x < n) : seqIndex? x n = some x.toNat := by
  unfold seqIndex?
  simp only [if_neg (by omega : ¬ x < 0)]
  rw [if_pos (by simp; omega)]
theorem map_erase : ∀ (l : List Str) (i : Nat), (l.map V.str).eraseIdx i = (l.eraseIdx i).map V.str
  | [], _ => rfl
  | _ :: _, 0 => rfl
  | a :: l, i + 1 => by
    show V.str a :: (l.map V.str).eraseIdx i = V.str a :: (l.eraseIdx i).map V.str
    rw [map_erase l i]
theorem erase_perm : ∀ {l : List Str} {i : Nat} (h : i < l.length), ([l[i]] ++ l.eraseIdx i).Perm l
  | _ :: _, 0, _ => List.Perm.refl _
  | a :: l, i + 1, h => (List.Perm.swap a _ _).trans ((erase_perm (l := l) (i := i) (Nat.lt_of_succ_lt_succ h)).cons a)
/-- a kind told is made -/
def spObject (K : Frg) : Sp := fun vs H Q _ => ∃ (m : Int) (v : V) (kd : KD), vs = [.int m, v] ∧ Dp K H v kd.data ∧ GoodK m kd ∧ ∀ x H', Same H H' → KindAt K H' x m kd → Q (.ref x) H'
theorem r_object {K : Frg} {H : Hp} {Q : VK} {E : XK} {m : Int} {v : V} {kd : KD} (h1 : Dp K H v kd.data) (G : GoodK m kd) (h : ∀ x H', Same H H' → KindAt K H' x m kd → Q (.ref x) H') : spObject K ([.int m, v] ++ []) H Q E := ⟨m, v, kd, rfl, h1, G, h⟩
def spInteger (K : Frg) : Sp := fun vs H Q _ => ∃ x, vs = [x] ∧ ((∃ i, x = .int i ∧ Q (.bl true) H) ∨ (OddV K H x ∧ Q (.bl false) H))
/-- names in another order -/
def spShuffled (K : Frg) : Sp := spDraw K (fun (x : Addr × List Str) ws H => ws = [.ref x.1] ∧ SqL K H x.1 (x.2.map V.str) ∧ x.2.length ≤ 1000) fun x H v H' => ∃ (p : Addr) (ns : List Str), v = .ref p ∧ H p = none ∧ H' p = some (.lst (ns.map V.str)) ∧ ns.Perm x.2
theorem r_shuffled {K : Frg} {β : Bag} {H : Hp} {Q : VK} {E : XK} {a : Addr} {ls : List Str} (B : BagAt K β H) (hs : SqL K H a (ls.map V.str)) (l1 : ls.length ≤ 1000)
    (h : ∀ (p : Addr) (ns : List Str) H', Bg K β H H' → H p = none → H' p = some (.lst (ns.map V.str)) → ns.Perm ls → Q (.ref p) H') : spShuffled K ([.ref β.b, .ref a] ++ []) H Q E :=
  ⟨β, (a, ls), [.ref a], rfl, B, ⟨rfl, hs, l1⟩, by rintro v H' e ⟨p, ns, rfl, z, n, g⟩; exact h p ns H' e z n g⟩
def spNew (K : Frg) : Sp := spDraw K (fun (x : Int × Str) ws _ => ws = [.int x.1, .str x.2] ∧ Mm x.1 ∧ GoodN x.2) fun x _ v H' => ∃ k : KD, Dp K H' v k.data ∧ GoodK x.1 k ∧ k.name = x.2
theorem r_new {K : Frg} {β : Bag} {H : Hp} {Q : VK} {E : XK} {m : Int} {s : Str} (B : BagAt K β H) (hm : Mm m) (hs : GoodN s) (h : ∀ v (k : KD) H', Bg K β H H' → Dp K H' v k.data → GoodK m k → k.name = s → Q v H') : spNew K ([.ref β.b, .int m, .str s] ++ []) H Q E :=
  ⟨β, (m, s), _, rfl, B, ⟨rfl, hm, hs⟩, by rintro v H' e ⟨k, l, n, g⟩; exact h v k H' e l n g⟩
section
variable {P : Program} {w : World} {K : Frg} {mg : Str → Option Value} {base : Heap}
theorem sc_law_same : FnScope ["_law_one", "_law_other"] ["_law_one", "_law_other"] (defScope s_law_same) := ⟨rfl, rfl, rfl, by decide +kernel, rfl, by decide +kernel, by decide +kernel⟩
theorem ok_law_same (T : Txt P K mg) : OkG P w K mg base 1 (He.ga K "_law_same") ["_law_one", "_law_other"] (spSame K) := by
  obtain ⟨fd, F⟩ := T.F_law_same
  have b : Binds K fd ["_law_one", "_law_other"] [] := F.bindsN fun _ _ _ _ _ _ us hl => match us, hl with | [_, _], _ => rfl
  refine okG_of F b sc_law_same (fun vs H Q E h => ?_) (fun cdv A outer s H vs Q hgd hr h => ?_)
  · obtain ⟨v, u, d, rfl, _⟩ := h
    rfl
  · obtain ⟨v, u, d, rfl, h1, h2, h3, k⟩ := h
    refine ⟨_, (pss_one (ps_ret (pe_cmpR op_eq (pe_callB (call_repr hgd (by have h := hr.un; show (A.deeper _).units + 100 < cLine; omega)) (by rfl) T.f_repr (by decide +kernel) (pa_cons (pv 0) pa_nil)) (pe_callB (call_repr hgd (by have h := hr.un; show (A.deeper _).units + 100 < cLine; omega)) (by rfl) T.f_repr (by decide +kernel) (pa_cons (pv 1) pa_nil)) (by first | exact nomark _ | rfl)))), ?_⟩
    walk_at "rd"
    refine r_repr h1 h3.sh h3.nd h3.dp h3.ln ?_
    walk_at "rd"
    refine r_repr h2 h3.sh h3.nd h3.dp h3.ln ?_
    refine r_eq rfl ?_
    rw [decide_eq_true rfl]
    exact k
theorem sc_law_parts_of : FnScope ["_law_thing"] ["_law_thing"] (defScope s_law_parts_of) := ⟨rfl, rfl, rfl, by decide +kernel, rfl, by decide +kernel, by decide +kernel⟩
theorem ok_law_parts_of (T : Txt P K mg) : Ok P w K mg base 1 (He.ga K "_law_parts_of") ["_law_thing"] (spParts K) := by
  obtain ⟨fd, F⟩ := T.F_law_parts_of
  have b : Binds K fd ["_law_thing"] [] := F.bindsN fun _ _ _ _ _ _ us hl => match us, hl with | [_], _ => rfl
  refine ok_of F b sc_law_parts_of (fun vs H Q E h => ?_) (fun cdv A outer s H vs Q E hr h => ?_)
  · obtain ⟨x, m, kd, rfl, _⟩ := h
    rfl
  · obtain ⟨x, m, kd, rfl, hx, k⟩ := h
    obtain ⟨dx, vt, vw, hx, ht, hw⟩ := hx.ex
    refine ⟨_, (pss_one (ps_ret (pe_tup (pa_cons (pe_fld (pv 0) rfl) (pa_cons (pe_fld (pv 0) rfl) (pa_cons (pe_fld (pv 0) rfl) (pa_cons (pe_fld (pv 0) rfl) (pa_cons (pe_fld (pv 0) rfl) (pa_cons (pe_fld (pv 0) rfl) pa_nil))))))))), ?_⟩
    walk_at "rd"
    refine ⟨_, _, _, _, _, rfl, hx, T.c_Kind, T.n_Kind_name, rfl, ?_⟩
    walk_at "rd"
    refine ⟨_, _, _, _, _, rfl, hx, T.c_Kind, T.n_Kind_inputs, rfl, ?_⟩
    walk_at "rd"
    refine ⟨_, _, _, _, _, rfl, hx, T.c_Kind, T.n_Kind_table, rfl, ?_⟩
    walk_at "rd"
    refine ⟨_, _, _, _, _, rfl, hx, T.c_Kind, T.n_Kind_start, rfl, ?_⟩
    walk_at "rd"
    refine ⟨_, _, _, _, _, rfl, hx, T.c_Kind, T.n_Kind_ways, rfl, ?_⟩
    walk_at "rd"
    refine ⟨_, _, _, _, _, rfl, hx, T.c_Kind, T.n_Kind_price, rfl, ?_⟩
    walk_at "rd"
    refine ⟨by show 6 ≤ sizeLine; decide, fun p hp => ?_⟩
    have s := Same.upd (o := .tup [V.str kd.name, V.int kd.inputs, vt, startV kd.start, vw, V.int kd.price]) hp
    refine k _ _ s (.tup (SqT.of upd_same) (.cons (.str _) (.cons (.int _) (.cons (Dp.sd (Sd.of s) _ _ flat_intsD ht) (.cons (dp_start _) (.cons (Dp.sd (Sd.of s) _ _ (flat_ways kd) hw) (.cons (.int _) .nil)))))))
theorem sc_law_object : FnScope ["_law_signs", "_law_kind"] ["_law_signs", "_law_kind"] (defScope s_law_object) := ⟨rfl, rfl, rfl, by decide +kernel, rfl, by decide +kernel, by decide +kernel⟩
theorem ok_law_object (T : Txt P K mg) : Ok P w K mg base 7 (He.ga K "_law_object") ["_law_signs", "_law_kind"] (spObject K) := by
  obtain ⟨fd, F⟩ := T.F_law_object
  have b : Binds K fd ["_law_signs", "_law_kind"] [] := F.bindsN fun _ _ _ _ _ _ us hl => match us, hl with | [_, _], _ => rfl
  refine ok_of F b sc_law_object (fun vs H Q E h => ?_) (fun cdv A outer s H vs Q E hr h => ?_)
  · obtain ⟨m, v, kd, rfl, _⟩ := h
    rfl
  · obtain ⟨m, v, kd, rfl, hv, G, k⟩ := h
    obtain ⟨a, vt, vw, rfl, hs, hvt, hvw⟩ := kd_at hv
    obtain ⟨ta, rfl, hta⟩ := ints_at hvt
    obtain ⟨wp, us, rfl, hwp, hus⟩ := ways_at hvw
    refine ⟨_, (pss_one (ps_ret (pmkK T.k_Kind (ok_Kind_init T) hr rfl T.g_Kind (pa_cons (pv 0) (pa_cons (pe_ix ix_tup (pv 1) pe_int (fun _ _ => rfl)) (pa_cons (pe_ix ix_tup (pv 1) pe_int (fun _ _ => rfl)) (pa_cons (pe_ix ix_tup (pv 1) pe_int (fun _ _ => rfl)) pa_nil)))) (pk_cons (pe_ix ix_tup (pv 1) pe_int (fun _ _ => rfl)) (pk_cons (pe_ix ix_tup (pv 1) pe_int (fun _ _ => rfl)) (pk_cons (pe_ix ix_tup (pv 1) pe_int (fun _ _ => rfl)) pk_nil)))))), ?_⟩
    walk_at "rd"
    refine r_ixT hs (v := .str kd.name) (atI_nat (j := 0) rfl) ?_
    walk_at "rd"
    refine r_ixT hs (v := .int kd.inputs) (atI_nat (j := 1) rfl) ?_
    walk_at "rd"
    refine r_ixT hs (v := .ref ta) (atI_nat (j := 2) rfl) ?_
    walk_at "rd"
    refine r_ixT hs (v := startV kd.start) (atI_nat (j := 3) rfl) ?_
    walk_at "rd"
    refine r_ixT hs (v := .ref wp) (atI_nat (j := 4) rfl) ?_
    walk_at "rd"
    refine r_ixT hs (v := .int kd.price) (atI_nat (j := 5) rfl) ?_
    walk_at "rd"
    refine ⟨rfl, rfl, fun x dx nx nd ne => ?_⟩
    have s0 : Same H (upd (upd H dx (.own x)) x (.ins (He.ga K "Kind") dx [])) := Td.made nx nd (fun a o _ h => h)
    refine ⟨x, dx, ta, wp, m, kd, us, rfl, upd_same, Sd.tup (Sd.of s0) hta, .inr (Sd.tup (Sd.of s0) hwp), DpAll.sd (Sd.of s0) _ _ (flat_wds _) hus, G, fun H2 e2 hK => ⟨rfl, ?_⟩⟩
    exact k _ _ (Td.made nx nd e2) hK
theorem sc_law_integer : FnScope ["_law_thing"] ["_law_thing"] (defScope s_law_integer) := ⟨rfl, rfl, rfl, by decide +kernel, rfl, by decide +kernel, by decide +kernel⟩
theorem ok_law_integer (T : Txt P K mg) : Ok P w K mg base 1 (He.ga K "_law_integer") ["_law_thing"] (spInteger K) := by
  obtain ⟨fd, F⟩ := T.F_law_integer
  have b : Binds K fd ["_law_thing"] [] := F.bindsN fun _ _ _ _ _ _ us hl => match us, hl with | [_], _ => rfl
  refine ok_of F b sc_law_integer (fun vs H Q E h => ?_) (fun cdv A outer s H vs Q E hr h => ?_)
  · obtain ⟨x, rfl, _⟩ := h
    rfl
  · obtain ⟨x, rfl, k⟩ := h
    refine ⟨_, (pss_one (ps_ret (pe_and (pe_callB call_isi (by rfl) T.f_isinstance (by decide +kernel) (pa_cons (pv 0) (pa_cons (pe_bltn (v := .ty "int") (u := .type "int") (by rfl) T.f_int (by decide +kernel) rfl) pa_nil))) (pe_one (pe_not (pe_callB call_isi (by rfl) T.f_isinstance (by decide +kernel) (pa_cons (pv 0) (pa_cons (pe_bltn (v := .ty "bool") (u := .type "bool") (by rfl) T.f_bool (by decide +kernel) rfl) pa_nil)))))))), ?_⟩
    rcases k with ⟨x, rfl, k⟩ | ⟨(⟨t, ty, e⟩ | ⟨b, rfl⟩), k⟩
    · walk_at "rd"
      refine r_isi (.base (.int x)) kit_int ?_
      refine r_bl (r_iT ?_)
      walk_at "rd"
      refine r_isi (.base (.int x)) kit_ib ?_
      exact r_bl k
    · walk_at "rd"
      refine r_isi ty e ?_
      exact r_bl (r_iF k)
    · walk_at "rd"
      refine r_isi (.base (.bl b)) (b := true) rfl ?_
      refine r_bl (r_iT ?_)
      walk_at "rd"
      refine r_isi (.base (.bl b)) (b := true) rfl ?_
      exact r_bl k
theorem sc_law_shuffled : FnScope ["_law_bag", "_law_things", "_law_rest", "_law_row", "_law_k"] ["_law_bag", "_law_things"] (defScope s_law_shuffled) := ⟨rfl, rfl, rfl, by decide +kernel, rfl, by decide +kernel, by decide +kernel⟩
theorem ok_law_shuffled (T : Txt P K mg) : Ok P w K mg base 2 (He.ga K "_law_shuffled") ["_law_bag", "_law_things"] (spShuffled K) := by
  obtain ⟨fd, F⟩ := T.F_law_shuffled
  have b : Binds K fd ["_law_bag", "_law_things"] [] := F.bindsN fun _ _ _ _ _ _ us hl => match us, hl with | [_, _], _ => rfl
  refine ok_of F b sc_law_shuffled (fun vs H Q E h => ?_) (fun cdv A outer s H vs Q E hr h => ?_)
  · obtain ⟨β, x, ws, rfl, _, ⟨rfl, _⟩, _⟩ := h
    rfl
  · obtain ⟨β, ⟨a, ls⟩, ws, rfl, B, ⟨rfl, hs, l1⟩, k⟩ := h
    dsimp only at hs l1 k ⊢
    refine ⟨_, (pss_cons (ps_set (i := 2) sc_law_shuffled.nd rfl (Or.inl rfl) (pe_callTy call_list_of (by rfl) T.f_list (by decide +kernel) (pa_cons (pv 1) pa_nil)))
  (pss_cons (ps_set (i := 3) sc_law_shuffled.nd rfl (Or.inl rfl) (pe_lst pa_nil))
  (pss_cons (ps_for PassesOwn.never rfl (pi_range1 rfl T.f_range (pa_cons (pe_callB call_len_seq (by rfl) T.f_len (by decide +kernel) (pa_cons (pv 1) pa_nil)) pa_nil)) (pg_name (i := 4) sc_law_shuffled.nd rfl (Or.inl rfl)) (pss_one (ps_expr (pe_bm PySem.F.plainAttrs_list PySem.F.slot_list_append PySem.F.type_list_append mt_append (pv 3) (pa_cons (pe_bm PySem.F.plainAttrs_list PySem.F.slot_list_pop PySem.F.type_list_pop mt_popAt (pv 2) (pa_cons (pk (ok_law_pick T) hr rfl T.g_law_pick (pa_cons (pv 0) (pa_cons (pe_callB call_len_seq (by rfl) T.f_len (by decide +kernel) (pa_cons (pv 2) pa_nil)) pa_nil))) pa_nil)) pa_nil)))))
  (pss_one (ps_ret (pv 3)))))), ?_⟩
    walk_at "rd"
    refine ⟨_, _, rfl, .inl hs, fun r hr => ?_⟩
    walk_at "rd"
    refine ⟨by show 0 ≤ sizeLine; decide, fun q hq => ?_⟩
    walk_at "rd"
    have e1 : Bg K β H (upd H r (.lst (ls.map V.str))) := Bg.new B hr
    have e2 : Bg K β H (upd (upd H r (.lst (ls.map V.str))) q (.lst [])) := e1.mut (e1.none hq)
    have nqr : r ≠ q := ne_of_none (upd_same : upd H r (.lst (ls.map V.str)) r = _) hq
    have hq0 : H q = none := e1.none hq
    have hr2 : upd (upd H r (.lst (ls.map V.str))) q (.lst []) r = some (.lst (ls.map V.str)) := by rw [upd_ne nqr, upd_same]
    have hq2 : upd (upd H r (.lst (ls.map V.str))) q (.lst []) q = some (.lst ([] : List V)) := upd_same
    generalize upd (upd H r (.lst (ls.map V.str))) q (.lst []) = H0 at e2 hr2 hq2 ⊢
    refine ⟨_, _, rfl, .inl (way_bag.seq e2 hs), ?_⟩
    rw [List.length_map]
    walk_at "rd"
    refine forR (fun i σ' H' => ∃ (dn rs : List Str) (o : Option V), σ' = [some (.ref β.b), some (.ref a), some (.ref r), some (.ref q), o] ∧ Bg K β H H' ∧ H' r = some (.lst (rs.map V.str)) ∧ H' q = some (.lst (dn.map V.str)) ∧ (dn ++ rs).Perm ls ∧ dn.length = i)
      ⟨by omega, by omega⟩ ⟨[], ls, none, rfl, e2, hr2, hq2, List.Perm.refl _, rfl⟩ ?_ ?_
    · rintro i σ' H' hi ⟨dn, rs, o, rfl, e3, hr3, hq3, pm, dl⟩
      have pl := pm.length_eq
      rw [List.length_append] at pl
      walk_at "rd"
      refine r_tyL hq3 ?_
      walk_at "rd"
      refine r_tyL hr3 ?_
      walk_at "rd"
      refine ⟨_, _, rfl, .inl (SqL.of hr3), ?_⟩
      rw [List.length_map]
      walk_at "rd"
      refine r_pick e3.bag (by omega) (by omega) fun x H4 e4 x0 x1 => ?_
      have hr4 := way_bag.lst e4 hr3
      have hq4 := way_bag.lst e4 hq3
      have hx : x.toNat < rs.length := by omega
      have p63 : (2 : Int) ^ 63 = 9223372036854775808 := by decide
      walk_at "rd"
      refine ⟨r, _, x, x.toNat, .str rs[x.toNat], rfl, rfl, hr4, by omega, by omega, ?_, by rw [List.getElem?_map, List.getElem?_eq_getElem hx]; rfl, ?_⟩
      · rw [List.length_map]
        exact seq_ix x0 x1
      have ee : (rs.map V.str).eraseIdx x.toNat = (rs.eraseIdx x.toNat).map V.str := map_erase _ _
      rw [ee]
      have e5 : Bg K β H (upd H4 r (.lst ((rs.eraseIdx x.toNat).map V.str))) := (e3.trans e4).mut hr
      have hq5 : upd H4 r (.lst ((rs.eraseIdx x.toNat).map V.str)) q = some (.lst (dn.map V.str)) := by rw [upd_ne (Ne.symm nqr)]; exact hq4
      have hr5 : upd H4 r (.lst ((rs.eraseIdx x.toNat).map V.str)) r = some (.lst ((rs.eraseIdx x.toNat).map V.str)) := upd_same
      generalize upd H4 r (.lst ((rs.eraseIdx x.toNat).map V.str)) = H5 at e5 hq5 hr5 ⊢
      walk_at "rd"
      refine r_append hq5 (by rw [List.length_map]; omega) ?_
      walk_at "rd"
      refine ⟨dn ++ [rs[x.toNat]], rs.eraseIdx x.toNat, _, rfl, e5.mut hq0, by rw [upd_ne nqr]; exact hr5, by rw [upd_same, List.map_append]; rfl, ?_, by rw [List.length_append, dl]; rfl⟩
      refine List.Perm.trans ?_ pm
      rw [List.append_assoc]
      exact List.Perm.append_left dn (erase_perm hx)
    rintro σ' H' ⟨dn, rs, o, rfl, e3, hr3, hq3, pm, dl⟩
    have pl := pm.length_eq
    rw [List.length_append] at pl
    have re : rs = [] := List.length_eq_zero_iff.mp (by omega)
    subst re
    rw [List.append_nil] at pm
    walk_at "rd"
    exact k _ _ e3 ⟨q, dn, rfl, hq0, hq3, pm⟩
theorem sc_law_new : FnScope ["_law_bag", "_law_signs", "_law_name"] ["_law_bag", "_law_signs", "_law_name"] (defScope s_law_new) := ⟨rfl, rfl, rfl, by decide +kernel, rfl, by decide +kernel, by decide +kernel⟩
theorem ok_law_new (T : Txt P K mg) : Ok P w K mg base 5 (He.ga K "_law_new") ["_law_bag", "_law_signs", "_law_name"] (spNew K) := by
  obtain ⟨fd, F⟩ := T.F_law_new
  have b : Binds K fd ["_law_bag", "_law_signs", "_law_name"] [] := F.bindsN fun _ _ _ _ _ _ us hl => match us, hl with | [_, _, _], _ => rfl
  refine ok_of F b sc_law_new (fun vs H Q E h => ?_) (fun cdv A outer s H vs Q E hr h => ?_)
  · obtain ⟨β, x, ws, rfl, _, ⟨rfl, _⟩, _⟩ := h
    rfl
  · obtain ⟨β, ⟨m, s⟩, ws, rfl, B, ⟨rfl, hm, hs⟩, k⟩ := h
    dsimp only at hm hs k ⊢
    refine ⟨_, (pss_one (ps_ret (pk (ok_law_kind_of T) hr rfl T.g_law_kind_of (pa_cons (pv 0) (pa_cons (pv 1) (pa_cons (pv 2) (pa_cons (pk (ok_law_pick T) hr rfl T.g_law_pick (pa_cons (pv 0) (pa_cons pe_int pa_nil))) (pa_cons (pk (ok_law_one_in T) hr rfl T.g_law_one_in (pa_cons (pv 0) (pa_cons pe_int pa_nil))) (pa_cons pe_int pa_nil))))))))), ?_⟩
    walk_at "rd"
    refine r_pick B (by decide) (by decide) fun i H1 e1 i0 i1 => ?_
    walk_at "rd"
    refine r_one e1.bag (by decide) (by decide) fun b H2 e2 => ?_
    obtain ⟨i, rfl⟩ : ∃ j : Nat, i = (j : Int) := ⟨i.toNat, by omega⟩
    refine r_kindOf (E := E0) 2 e2.bag hm hs (by omega) (by decide) fun v kd H3 e3 hv G hn => ?_
    exact k _ _ ((e1.trans e2).trans e3) ⟨kd, hv, G, hn⟩
end
end Tx

/-! ## Pr8 -/
set_option maxHeartbeats 4000000
/-! Items, sums and rows of kinds as the law asks for them: the answer, or the error that is caught. -/
namespace Tx
open PySem PySem.Spec PyProof.Rows L2 Gd
local macro_rules | `(tactic| walk_at "rd1") => `(tactic| first
  | ((with_reducible show tVar _ _ _ _); refine r_var (by rfl) ?_)
  | with_reducible refine r_c ?_
  | with_reducible refine r_seq ?_
  | with_reducible refine r_asg ?_
  | with_reducible refine r_name ?_
  | with_reducible refine r_op ?_
  | with_reducible refine r_I0 ?_
  | with_reducible refine r_cons ?_
  | with_reducible refine r_nil ?_
  | with_reducible refine r_call ?_
  | with_reducible refine r_ret ?_
  | with_reducible refine r_cb ?_
  | with_reducible refine r_ifS ?_
  | with_reducible refine r_test ?_
  | with_reducible refine r_bl ?_
  | with_reducible refine r_dget ?_
  | with_reducible refine r_dput ?_
  | ((with_reducible show (∃ k, [V.int _] = [V.int k] ∧ _) ∨ _); refine Or.inl ⟨_, rfl, ?_⟩)
  | with_reducible refine r_lcR ?_
  | with_reducible refine r_lcL ?_
  | with_reducible refine r_lcT ?_
  | with_reducible refine r_m1 ?_
  | with_reducible refine r_gSub ?_
  | with_reducible refine r_forR ?_
  | with_reducible refine r_forL ?_
  | with_reducible refine r_forT ?_
  | with_reducible refine r_bm ?_
  | with_reducible refine r_next ?_
  | with_reducible refine r_B ?_
  | with_reducible refine r_not ?_
  | with_reducible refine r_and ?_
  | with_reducible refine r_or ?_
  | with_reducible refine r_andV ?_
  | with_reducible refine r_orV ?_
  | with_reducible refine r_notV ?_
  | with_reducible refine r_ifE ?_
  | with_reducible refine r_drop ?_
  | with_reducible refine r_tup ?_
  | with_reducible refine r_lst ?_
  | with_reducible refine r_un ?_
  | with_reducible refine r_U ?_)
local macro_rules | `(tactic| walk_at "rd") => `(tactic| repeat walk_at "rd1")
local macro_rules | `(tactic| walk_at "rd1") => `(tactic| first
  | with_reducible refine r_lcS ?_
  | with_reducible refine r_sl ?_
  | with_reducible refine r_noPart ?_
  | with_reducible refine r_partE ?_
  | with_reducible refine r_sfld ?_
  | with_reducible refine r_gc ?_
  | with_reducible refine r_gn ?_
  | with_reducible refine r_forE ?_
  | with_reducible refine r_makeK ?_
  | with_reducible refine r_make ?_
  | with_reducible refine r_fld ?_
  | with_reducible refine r_prop ?_
  | with_reducible refine r_meth ?_
  | with_reducible refine r_js ?_
  | with_reducible refine r_jn ?_
  | with_reducible refine r_fmt ?_
  | with_reducible refine r_chain ?_)
local macro_rules | `(tactic| walk_at "rd1") => `(tactic| first
  | with_reducible refine r_sfa ?_
  | with_reducible refine r_methR ?_)
local macro_rules | `(tactic| walk_at "rd1") => `(tactic| first
  | with_reducible refine r_sErr ?_)
local macro_rules | `(tactic| walk_at "rd1") => `(tactic| first
  | with_reducible refine r_star ?_
  | with_reducible refine r_callS ?_
  | with_reducible refine r_makeX ?_
  | with_reducible refine r_ixO ?_
  | with_reducible refine r_addO ?_)
section
variable {K : Frg} {H H' : Hp}
mutual
theorem Dp.gen (eT : ∀ a xs, SqT K H a xs → SqT K H' a xs) (eL : ∀ a xs, SqL K H a xs → SqL K H' a xs) : ∀ (d : PyData) (v : V), Dp K H v d → Dp K H' v d
  | .none, _, h => by cases h; exact .non
  | .bool b, _, h => by cases h; exact .bl b
  | .int i, _, h => by cases h; exact .int i
  | .str x, _, h => by cases h; exact .str x
  | .dict _, _, h => by cases h
  | .list ds, _, h => by
    cases h with
    | lst h1 h2 => exact .lst (eL _ _ h1) (DpAll.gen eT eL ds _ h2)
  | .tuple ds, _, h => by
    cases h with
    | tup h1 h2 => exact .tup (eT _ _ h1) (DpAll.gen eT eL ds _ h2)
theorem DpAll.gen (eT : ∀ a xs, SqT K H a xs → SqT K H' a xs) (eL : ∀ a xs, SqL K H a xs → SqL K H' a xs) : ∀ (ds : List PyData) (vs : List V), DpAll K H vs ds → DpAll K H' vs ds
  | [], _, h => by cases h; exact .nil
  | d :: ds, _, h => by
    cases h with
    | cons h1 h2 => exact .cons (Dp.gen eT eL d _ h1) (DpAll.gen eT eL ds _ h2)
end
theorem Dp.same {d : PyData} {v : V} (e : Same H H') (h : Dp K H v d) : Dp K H' v d := Dp.gen (fun _ _ h => Sd.tup (Sd.of e) h) (fun _ _ h => Same.seq e h) d v h
theorem Dp.bg {β : Bag} {d : PyData} {v : V} (e : Bg K β H H') (h : Dp K H v d) : Dp K H' v d := Dp.gen (fun _ _ h => e.tup h) (fun _ _ h => e.seq h) d v h
end
section
variable {K : Frg} {a : Addr} {cls c : Value} {d : Option Addr} {i : Nat} {t : Addr → Value → Option Addr → TS} {D : Ends} {σ : L2.St} {H : Hp} {C dd : Addr} {n : Str} {te : TE} {Q : VK} {fs : List (Str × V)} {v : V}
theorem r_goes (h : t a cls d (Ends.drop D i) (σ.set i (some (.ref a))) H) : (⟨c, some i, t⟩ : Clause).goes a cls d D σ H := h
theorem r_xf (h : te σ H fun x H1 => x = .ref a ∧ cls = .ref C ∧ ∃ (dd : Addr) (fs : List (Str × V)) (v : V), d = some dd ∧ H1 dd = some (.xd fs) ∧ fs.lookup n = some v ∧ Q v H1) : tXf a cls d C n te σ H Q := h
theorem xf_one {R : V → Prop} (hd : H dd = some (.xd [(n, v)])) (h : R v) : V.ref a = .ref a ∧ Value.ref C = .ref C ∧ ∃ (d2 : Addr) (fs : List (Str × V)) (u : V), some dd = some d2 ∧ H d2 = some (.xd fs) ∧ fs.lookup n = some u ∧ R u :=
  ⟨rfl, rfl, dd, _, v, rfl, hd, by simp [List.lookup], h⟩
end
local macro_rules | `(tactic| walk_at "rd1") => `(tactic| with_reducible refine r_xf ?_)
theorem exT : (fun (u : Value) => True) = fun _ => True := rfl
section
variable {P : Program} {w : World} {K : Frg} {mg : Str → Option Value} {base : Heap} {X : Cx} {n : Nat}
theorem k_in_Catalogue (T : Txt P K mg) (hr : Room n X.A) (e : X.prog = P ∧ X.K = K ∧ X.mg = mg := by exact ⟨rfl, rfl, rfl⟩) (hk : 2 ≤ n := by decide) : OpR X (compareOp .In) (rInO (He.ga K "Catalogue") (spHas K)) := by
  obtain ⟨rfl, rfl, rfl⟩ := e
  obtain ⟨fd, F, b, _⟩ := ok_Catalogue_contains (w := X.w) (base := X.base) T
  exact op_inO F (hr.mono hk) b T.m_Catalogue_contains
theorem k_len_Catalogue (T : Txt P K mg) (hr : Room n X.A) (e : X.prog = P ∧ X.K = K ∧ X.mg = mg := by exact ⟨rfl, rfl, rfl⟩) (hk : 2 ≤ n := by decide) : CallR X (.builtin "len") (rLenO (He.ga K "Catalogue") (spLen K)) := by
  obtain ⟨rfl, rfl, rfl⟩ := e
  obtain ⟨fd, F, b, _⟩ := ok_Catalogue_len (w := X.w) (base := X.base) T
  exact call_lenO F (hr.mono hk) b T.m_Catalogue_len
theorem k_eq_Catalogue (T : Txt P K mg) (hr : Room n X.A) (e : X.prog = P ∧ X.K = K ∧ X.mg = mg := by exact ⟨rfl, rfl, rfl⟩) (hk : 4 ≤ n := by decide) : OpR X (compareOp .Eq) (rEqO (He.ga K "Catalogue") (spCatEq K)) := by
  obtain ⟨rfl, rfl, rfl⟩ := e
  obtain ⟨fd, F, b, _⟩ := ok_Catalogue_eq (w := X.w) (base := X.base) T
  exact op_eqO F (hr.mono hk) b T.m_Catalogue_eq (of_decide_eq_true T.x_str)
theorem k_eq_Kind (T : Txt P K mg) (hr : Room n X.A) (e : X.prog = P ∧ X.K = K ∧ X.mg = mg := by exact ⟨rfl, rfl, rfl⟩) (hk : 1 ≤ n := by decide) : OpR X (compareOp .Eq) (rEqG (DIns (He.ga K "Kind") (RKind K))) := by
  obtain ⟨rfl, rfl, rfl⟩ := e
  obtain ⟨fd, F, b, _⟩ := ok_Kind_eq (w := X.w) (base := X.base) T
  exact op_eqG (rcT_ins F T.m_Kind_eq b) (hr.mono hk)
variable {E : L2.St → XK} {p pos : Pos} {a b : Expr} {ta tb : TE}
theorem k_ix_Catalogue (T : Txt P K mg) (hr : Room n X.A) (hx : ∀ σ, PassesAt (L2.CX X.prog X.w) X σ (E σ)) (ha : PE X a ta) (hb : PE X b tb) (e : X.prog = P ∧ X.K = K ∧ X.mg = mg := by exact ⟨rfl, rfl, rfl⟩) (hk : 4 ≤ n := by decide)
    (hsl : ∀ v u, subscripted b true v u = runValue (.builtin "lifetime.subscript" ⟨[v, u], []⟩) := by intro _ _; with_unfolding_all rfl) : PE X (.Subscript a b pos) (tIxO (He.ga K "Catalogue") (spItem K) E ta tb) := by
  obtain ⟨rfl, rfl, rfl⟩ := e
  exact pe_ixO (ok_Catalogue_getitem T) hr T.m_Catalogue_getitem hx ha hb hk hsl
theorem k_add_Catalogue (T : Txt P K mg) (hr : Room n X.A) (hx : ∀ σ, PassesAt (L2.CX X.prog X.w) X σ (E σ)) (ha : PE X a ta) (hb : PE X b tb) (e : X.prog = P ∧ X.K = K ∧ X.mg = mg := by exact ⟨rfl, rfl, rfl⟩) (hk : 6 ≤ n := by decide) :
    PE X (.BinOp a .Add b pos) (tAddO (He.ga K "Catalogue") (He.ga K "Kind") (spAdd K) E ta tb) := by
  obtain ⟨rfl, rfl, rfl⟩ := e
  exact pe_addO (ok_Catalogue_add T) hr T.m_Catalogue_add T.x_first T.x_noadd (of_decide_eq_true T.x_ne) hx ha hb hk
end
theorem dueRow_bad (m : Int) (rows : Row) : dueRow m rows ≠ .bad := by
  unfold dueRow
  split
  · intro z; cases z
  · split
    · intro z; cases z
    · split <;> (intro z; cases z)
def unkD (nm : Str) : PyData := .tuple [.str "Unknown", .str nm, .bool true, .bool false]
/-- what is due, as data -/
def dueD (sg : PyData) : Due → PyData
  | .ok => .none
  | .bad => .tuple [.str "BadSigns", sg]
  | .many => .tuple [.str "TooMany", .str "kind"]
  | .unlike n => .tuple [.str "Unlike", .str n]
  | .twice n => .tuple [.str "Twice", .str n]
def spItemOf (K : Frg) : Sp := fun vs H Q _ => ∃ (c : Addr) (nm : Str) (m : Int) (ks : List KD), vs = [.ref c, .str nm] ∧ CatAt K H c m ks ∧ ks.length ≤ 1000 ∧ Msg (.str nm) ∧ (∀ kd, kd ∈ ks → kd.name = nm → ∀ v H', Same H H' → Dp K H' v kd.data → Q v H') ∧
  (nm ∉ ks.map KD.name → ∀ v H', Same H H' → Dp K H' v (unkD nm) → Q v H')
def spAdded (K : Frg) : Sp := fun vs H Q _ => ∃ (c e : Addr) (m : Int) (ks : List KD) (r : Int × KD), vs = [.ref c, .ref e] ∧ CatAt K H c m ks ∧ GoodT m ks ∧ ks.length ≤ 100 ∧ KindAt K H e r.1 r.2 ∧ GoodK r.1 r.2 ∧
  (dueRow m (ks.map (Prod.mk m) ++ [r]) = .ok → ∀ x p H', Same H H' → SqT K H' p [.str "good", .ref x] → CatAt K H' x m (ks ++ [r.2]) → Q (.ref p) H') ∧
  (dueRow m (ks.map (Prod.mk m) ++ [r]) ≠ .ok → ∀ v H', Same H H' → Dp K H' v (dueD (.int m) (dueRow m (ks.map (Prod.mk m) ++ [r]))) → Q v H')
def spAtOnce (K : Frg) : Sp := fun vs H Q _ => ∃ (sg : V) (sgd : PyData) (p : Addr) (as : List Addr) (rows : Row), vs = [sg, .ref p] ∧ Dp K H sg sgd ∧ ((∃ m, sg = .int m) ∨ OddV K H sg) ∧ SqT K H p (as.map V.ref) ∧ KsAt K H as rows ∧ (∀ r ∈ rows, GoodK r.1 r.2) ∧ rows.length ≤ 1000 ∧
  (∀ m, sg = .int m → dueOf sg rows = .ok → ∀ x q H', Same H H' → SqT K H' q [.str "good", .ref x] → CatAt K H' x m (rows.map Prod.snd) → Q (.ref q) H') ∧
  (dueOf sg rows ≠ .ok → ∀ v H', Same H H' → Dp K H' v (dueD sgd (dueOf sg rows)) → Q v H')
section
variable {P : Program} {w : World} {K : Frg} {mg : Str → Option Value} {base : Heap}
theorem sc_law_item : FnScope ["_law_catalogue", "_law_name", "error"] ["_law_catalogue", "_law_name"] (defScope s_law_item) := ⟨rfl, rfl, rfl, by decide +kernel, rfl, by decide +kernel, by decide +kernel⟩
theorem ok_law_item (T : Txt P K mg) : Ok P w K mg base 6 (He.ga K "_law_item") ["_law_catalogue", "_law_name"] (spItemOf K) := by
  obtain ⟨fd, F⟩ := T.F_law_item
  have b : Binds K fd ["_law_catalogue", "_law_name"] [] := F.bindsN fun _ _ _ _ _ _ us hl => match us, hl with | [_, _], _ => rfl
  refine ok_of F b sc_law_item (fun vs H Q E h => ?_) (fun cdv A outer s H vs Q E hr h => ?_)
  · obtain ⟨c, nm, m, ks, rfl, _⟩ := h
    rfl
  · obtain ⟨c, nm, m, ks, rfl, hC, l1, ms, k, kU⟩ := h
    have hC2 := hC
    obtain ⟨dx, p, q, as, hx, hp, hq, hk⟩ := hC.ex
    refine ⟨_, (pss_one (ps_tryN rfl rfl sc_law_item.nd takes_none5 (fun W pn xe tk _ => (pss_one (ps_ret (pk (ok_law_parts_of T) hr rfl T.g_law_parts_of (pa_cons (k_ix_Catalogue T hr (fun σ => passAt tk σ) (pv 0) (pv 1)) pa_nil))))) (.named (i := 2) ⟨rfl, by decide, .inl T.g_Unknown⟩ rfl rfl (fun a oe cls d pn hz hf => (pss_one (ps_ret (pe_tup (pa_cons pe_str (pa_cons (pe_xf T.E_Unknown.xf T.E_Unknown.noF hz hf (pv 2)) (pa_cons (pe_callB (call_isX hz hf) (by rfl) T.f_isinstance (by decide +kernel) (pa_cons (pv 2) (pa_cons (pe_bltn (v := .ty "ValueError") (u := .type "ValueError") (by rfl) T.f_ValueError (by decide +kernel) rfl) pa_nil))) (pa_cons (pe_callB (call_isX hz hf) (by rfl) T.f_isinstance (by decide +kernel) (pa_cons (pv 2) (pa_cons (pe_glob (v := .ref (He.ga K "Twice")) rfl T.g_Twice rfl) pa_nil))) pa_nil)))))))) .nil))), ?_⟩
    show tRet _ _ _ _
    walk_at "rd"
    refine ⟨c, dx, _, rfl, hx, c, nm, m, ks, rfl, hC2, l1, ms, fun a kd hm hn hK => ?_, fun no d hd => ?_⟩
    · walk_at "rd"
      exact ⟨a, m, kd, rfl, hK, fun v H' s hv => k kd hm hn v H' s hv⟩
    · have s1 : Same H (upd H d (.xd [("name", V.str nm)])) := Same.upd hd
      have hd1 : upd H d (.xd [("name", V.str nm)]) d = some (.xd [("name", V.str nm)]) := upd_same
      generalize upd H d (.xd [("name", V.str nm)]) = H1 at s1 hd1
      show wN _ _ _ _ _ _ _ _
      refine wN_hit T.x_Unknown_Unknown fun a ha => r_goes ?_
      walk_at "rd"
      refine xf_one hd1 ?_
      walk_at "rd"
      refine ⟨_, d, _, _, _, true, rfl, rfl, isE_of T.x_isU, rfl, fun u hu => hu, of_decide_eq_true T.x_kv, hd1, ?_⟩
      walk_at "rd"
      refine ⟨_, d, _, _, _, false, rfl, rfl, isE_of T.x_isU, rfl, fun u hu => hu, of_decide_eq_true T.x_kt, hd1, ?_⟩
      walk_at "rd"
      refine ⟨by show 4 ≤ sizeLine; decide, fun t ht => ?_⟩
      exact kU no _ _ (s1.trans (Same.upd ht)) (.tup (SqT.of upd_same) (.cons (.str _) (.cons (.str _) (.cons (.bl _) (.cons (.bl _) .nil)))))
theorem sc_law_added : FnScope ["_law_catalogue", "_law_thing", "error"] ["_law_catalogue", "_law_thing"] (defScope s_law_added) := ⟨rfl, rfl, rfl, by decide +kernel, rfl, by decide +kernel, by decide +kernel⟩
theorem ok_law_added (T : Txt P K mg) : Ok P w K mg base 7 (He.ga K "_law_added") ["_law_catalogue", "_law_thing"] (spAdded K) := by
  obtain ⟨fd, F⟩ := T.F_law_added
  have b : Binds K fd ["_law_catalogue", "_law_thing"] [] := F.bindsN fun _ _ _ _ _ _ us hl => match us, hl with | [_, _], _ => rfl
  refine ok_of F b sc_law_added (fun vs H Q E h => ?_) (fun cdv A outer s H vs Q E hr h => ?_)
  · obtain ⟨c, e, m, ks, r, rfl, _⟩ := h
    rfl
  · obtain ⟨c, e, m, ks, r, rfl, hC, G, l1, hKe, Ge, k, kE⟩ := h
    have hC2 := hC
    obtain ⟨dx, p, q, as, hx, hp, hq, hk⟩ := hC.ex
    have hKe2 := hKe
    obtain ⟨dk, vt, vw, he, _⟩ := hKe.ex
    refine ⟨_, (pss_one (ps_tryN rfl rfl sc_law_added.nd takes_none5 (fun W pn xe tk _ => (pss_one (ps_ret (pe_tup (pa_cons pe_str (pa_cons (k_add_Catalogue T hr (fun σ => passAt tk σ) (pv 0) (pv 1)) pa_nil)))))) (.named (i := 2) ⟨rfl, by decide, .inl T.g_TooMany⟩ rfl rfl (fun a oe cls d pn hz hf => (pss_one (ps_ret (pe_tup (pa_cons pe_str (pa_cons (pe_xf T.E_TooMany.xf T.E_TooMany.noF hz hf (pv 2)) pa_nil)))))) (.named (i := 2) ⟨rfl, by decide, .inl T.g_Unlike⟩ rfl rfl (fun a oe cls d pn hz hf => (pss_one (ps_ret (pe_tup (pa_cons pe_str (pa_cons (pe_xf T.E_Unlike.xf T.E_Unlike.noF hz hf (pv 2)) pa_nil)))))) (.named (i := 2) ⟨rfl, by decide, .inl T.g_Twice⟩ rfl rfl (fun a oe cls d pn hz hf => (pss_one (ps_ret (pe_tup (pa_cons pe_str (pa_cons (pe_xf T.E_Twice.xf T.E_Twice.noF hz hf (pv 2)) pa_nil)))))) (.anon ⟨rfl, by decide, .inl T.g_TinkerError⟩ (fun a oe cls d pn hz hf => (pss_one (ps_ret (pe_tup (pa_cons pe_str (pa_cons pe_non pa_nil)))))) .nil)))))), ?_⟩
    show tRet _ _ _ _
    walk_at "rd"
    refine ⟨c, dx, e, dk, _, _, rfl, rfl, hx, he, c, e, m, ks, r, rfl, hC2, G, l1, hKe2, Ge, fun due x H1 s1 cat => ?_, fun C f v ee H1 d s1 hd => ?_⟩
    · walk_at "rd"
      refine ⟨by show 2 ≤ sizeLine; decide, fun t ht => ?_⟩
      have s2 := Same.upd (o := .tup [V.str "good", V.ref x]) ht
      exact k due x t _ (s1.trans s2) (SqT.of upd_same) (cat.sd (Sd.of s2))
    · show wN _ _ _ _ _ _ _ _
      have fin : ∀ (cn : Str) (y : V) (yd : PyData), dueRow m (ks.map (Prod.mk m) ++ [r]) ≠ .ok → dueD (.int m) (dueRow m (ks.map (Prod.mk m) ++ [r])) = .tuple [.str cn, yd] → Dp K H1 y yd →
          ∀ t, H1 t = none → Q (.ref t) (upd H1 t (.tup [.str cn, y])) := fun cn y yd ne eq hy t ht => by
        have s2 := Same.upd (o := .tup [V.str cn, y]) ht
        refine kE ne _ _ (s1.trans s2) ?_
        rw [eq]
        exact .tup (SqT.of upd_same) (.cons (.str _) (.cons (Dp.same s2 hy) .nil))
      generalize hdue : dueRow m (ks.map (Prod.mk m) ++ [r]) = due at ee fin
      cases due with
      | ok => cases ee
      | bad =>
        exact absurd hdue (dueRow_bad _ _)
      | many =>
        cases ee
        refine wN_hit T.x_TooMany_TooMany fun a ha => r_goes ?_
        walk_at "rd"
        refine xf_one hd ?_
        walk_at "rd"
        exact ⟨by show 2 ≤ sizeLine; decide, fun t ht => fin _ _ _ (by intro z; cases z) rfl (.str _) t ht⟩
      | unlike n =>
        cases ee
        refine wN_miss T.x_Unlike_TooMany (wN_hit T.x_Unlike_Unlike fun a ha => r_goes ?_)
        walk_at "rd"
        refine xf_one hd ?_
        walk_at "rd"
        exact ⟨by show 2 ≤ sizeLine; decide, fun t ht => fin _ _ _ (by intro z; cases z) rfl (.str _) t ht⟩
      | twice n =>
        cases ee
        refine wN_miss T.x_Twice_TooMany (wN_miss T.x_Twice_Unlike (wN_hit T.x_Twice_Twice fun a ha => r_goes ?_))
        walk_at "rd"
        refine xf_one hd ?_
        walk_at "rd"
        exact ⟨by show 2 ≤ sizeLine; decide, fun t ht => fin _ _ _ (by intro z; cases z) rfl (.str _) t ht⟩
end
end Tx

/-! ## Pr9 -/
set_option maxHeartbeats 4000000
/-! A row of kinds at once; what the law says is due. -/
namespace Tx
open PySem PySem.Spec PyProof.Rows L2 Gd
local macro_rules | `(tactic| walk_at "rd1") => `(tactic| first
  | ((with_reducible show tVar _ _ _ _); refine r_var (by rfl) ?_)
  | with_reducible refine r_c ?_
  | with_reducible refine r_seq ?_
  | with_reducible refine r_asg ?_
  | with_reducible refine r_name ?_
  | with_reducible refine r_op ?_
  | with_reducible refine r_I0 ?_
  | with_reducible refine r_cons ?_
  | with_reducible refine r_nil ?_
  | with_reducible refine r_call ?_
  | with_reducible refine r_ret ?_
  | with_reducible refine r_cb ?_
  | with_reducible refine r_ifS ?_
  | with_reducible refine r_test ?_
  | with_reducible refine r_bl ?_
  | with_reducible refine r_dget ?_
  | with_reducible refine r_dput ?_
  | ((with_reducible show (∃ k, [V.int _] = [V.int k] ∧ _) ∨ _); refine Or.inl ⟨_, rfl, ?_⟩)
  | with_reducible refine r_lcR ?_
  | with_reducible refine r_lcL ?_
  | with_reducible refine r_lcT ?_
  | with_reducible refine r_m1 ?_
  | with_reducible refine r_gSub ?_
  | with_reducible refine r_forR ?_
  | with_reducible refine r_forL ?_
  | with_reducible refine r_forT ?_
  | with_reducible refine r_bm ?_
  | with_reducible refine r_next ?_
  | with_reducible refine r_B ?_
  | with_reducible refine r_not ?_
  | with_reducible refine r_and ?_
  | with_reducible refine r_or ?_
  | with_reducible refine r_andV ?_
  | with_reducible refine r_orV ?_
  | with_reducible refine r_notV ?_
  | with_reducible refine r_ifE ?_
  | with_reducible refine r_drop ?_
  | with_reducible refine r_tup ?_
  | with_reducible refine r_lst ?_
  | with_reducible refine r_un ?_
  | with_reducible refine r_U ?_)
local macro_rules | `(tactic| walk_at "rd") => `(tactic| repeat walk_at "rd1")
local macro_rules | `(tactic| walk_at "rd1") => `(tactic| first
  | with_reducible refine r_lcS ?_
  | with_reducible refine r_sl ?_
  | with_reducible refine r_noPart ?_
  | with_reducible refine r_partE ?_
  | with_reducible refine r_sfld ?_
  | with_reducible refine r_gc ?_
  | with_reducible refine r_gn ?_
  | with_reducible refine r_forE ?_
  | with_reducible refine r_makeK ?_
  | with_reducible refine r_make ?_
  | with_reducible refine r_fld ?_
  | with_reducible refine r_prop ?_
  | with_reducible refine r_meth ?_
  | with_reducible refine r_js ?_
  | with_reducible refine r_jn ?_
  | with_reducible refine r_fmt ?_
  | with_reducible refine r_chain ?_)
local macro_rules | `(tactic| walk_at "rd1") => `(tactic| first
  | with_reducible refine r_sfa ?_
  | with_reducible refine r_methR ?_)
local macro_rules | `(tactic| walk_at "rd1") => `(tactic| first
  | with_reducible refine r_sErr ?_)
local macro_rules | `(tactic| walk_at "rd1") => `(tactic| first
  | with_reducible refine r_star ?_
  | with_reducible refine r_callS ?_
  | with_reducible refine r_makeX ?_
  | with_reducible refine r_xf ?_
  | with_reducible refine r_ixO ?_
  | with_reducible refine r_addO ?_)
/-- rows as the law tells them: a tuple of the signs and the kind told -/
def RowsAt (K : Frg) (H : Hp) (vs : List V) (rows : Row) : Prop := vs.length = rows.length ∧ ∀ (i : Nat) v r, vs[i]? = some v → rows[i]? = some r → ∃ (p : Addr) (u : V), v = .ref p ∧ SqT K H p [.int r.1, u] ∧ Dp K H u r.2.data
theorem RowsAt.get {K : Frg} {H : Hp} {vs : List V} {rows : Row} (h : RowsAt K H vs rows) {i : Nat} {v : V} (e : vs[i]? = some v) : ∃ r, rows[i]? = some r ∧ ∃ (p : Addr) (u : V), v = .ref p ∧ SqT K H p [.int r.1, u] ∧ Dp K H u r.2.data := by
  have hi : i < rows.length := by rw [← h.1]; exact (List.getElem?_eq_some_iff.mp e).1
  exact ⟨rows[i], List.getElem?_eq_getElem hi, h.2 i v _ e (List.getElem?_eq_getElem hi)⟩
theorem RowsAt.same {K : Frg} {H H' : Hp} {vs : List V} {rows : Row} (h : RowsAt K H vs rows) (e : Same H H') : RowsAt K H' vs rows := ⟨h.1, fun i v r h1 h2 => by
  obtain ⟨p, u, a, b, c⟩ := h.2 i v r h1 h2
  exact ⟨p, u, a, Sd.tup (Sd.of e) b, Dp.same e c⟩⟩
theorem RowsAt.bg {K : Frg} {H H' : Hp} {β : Bag} {vs : List V} {rows : Row} (h : RowsAt K H vs rows) (e : Bg K β H H') : RowsAt K H' vs rows := ⟨h.1, fun i v r h1 h2 => by
  obtain ⟨p, u, a, b, c⟩ := h.2 i v r h1 h2
  exact ⟨p, u, a, e.tup b, Dp.bg e c⟩⟩
def spDueOf (K : Frg) : Sp := fun vs H Q _ => ∃ (sg : V) (sgd : PyData) (q : Addr) (us : List V) (rows : Row), vs = [sg, .ref q] ∧ Dp K H sg sgd ∧ ((∃ m, sg = .int m) ∨ OddV K H sg) ∧ SqL K H q us ∧ RowsAt K H us rows ∧ rows.length ≤ 1000 ∧
  ∀ v H', Same H H' → Dp K H' v (dueD sgd (dueOf sg rows)) → (dueOf sg rows = .ok → v = .non) → (dueOf sg rows ≠ .ok → ∃ t, v = .ref t) → Q v H'
theorem ty_same {K : Frg} {H H' : Hp} {x : V} {t : Value} (e : Same H H') (h : TyX K H x t) : TyX K H' x t := by
  cases h with
  | base h =>
    refine .base ?_
    cases h with
    | non => exact .non
    | bl b => exact .bl b
    | int i => exact .int i
    | str s => exact .str s
    | flt f => exact .flt f
    | lst h => exact .lst (e _ _ h)
    | tup h => exact .tup (e _ _ h)
    | frz h => exact .frz (e _ _ h)
    | dK h => exact .dK (e _ _ h)
    | dT h => exact .dT (e _ _ h)
    | ins h a b c d f => exact .ins (e _ _ h) a b c d f
  | byt b => exact .byt b
  | set h => exact .set (e _ _ h)
  | kList h c => exact .kList h c
  | kTuple h c => exact .kTuple h c
  | kDict h c => exact .kDict h c
  | fTuple h => exact .fTuple (e _ _ h)
  | fDict h => exact .fDict (e _ _ h)
theorem odd_grow {K : Frg} {H H' : Hp} {x : V} (e : Same H H') : ((∃ m, x = .int m) ∨ OddV K H x) → ((∃ m, x = .int m) ∨ OddV K H' x) := by
  rintro (h | ⟨t, ty, z⟩ | h)
  · exact .inl h
  · exact .inr (.inl ⟨t, ty_same e ty, z⟩)
  · exact .inr (.inr h)
section
variable {P : Program} {w : World} {K : Frg} {mg : Str → Option Value} {base : Heap}
theorem sc_law_at_once : FnScope ["_law_signs", "_law_things", "error"] ["_law_signs", "_law_things"] (defScope s_law_at_once) := ⟨rfl, rfl, rfl, by decide +kernel, rfl, by decide +kernel, by decide +kernel⟩
theorem ok_law_at_once (T : Txt P K mg) : Ok P w K mg base 6 (He.ga K "_law_at_once") ["_law_signs", "_law_things"] (spAtOnce K) := by
  obtain ⟨fd, F⟩ := T.F_law_at_once
  have b : Binds K fd ["_law_signs", "_law_things"] [] := F.bindsN fun _ _ _ _ _ _ us hl => match us, hl with | [_, _], _ => rfl
  refine ok_of F b sc_law_at_once (fun vs H Q E h => ?_) (fun cdv A outer s H vs Q E hr h => ?_)
  · obtain ⟨sg, sgd, p, as, rows, rfl, _⟩ := h
    rfl
  · obtain ⟨sg, sgd, p, as, rows, rfl, hsd, hsg, hp, hk, gk, l1, k, kE⟩ := h
    refine ⟨_, (pss_one (ps_tryN rfl rfl sc_law_at_once.nd takes_none5 (fun W pn xe tk _ => (pss_one (ps_ret (pe_tup (pa_cons pe_str (pa_cons (k_mk_Catalogue T hr (fun σ => passAt tk σ) (pa_cons (pv 0) (pa_cons (pv 1) pa_nil))) pa_nil)))))) (.named (i := 2) ⟨rfl, by decide, .inl T.g_BadSigns⟩ rfl rfl (fun a oe cls d pn hz hf => (pss_one (ps_ret (pe_tup (pa_cons pe_str (pa_cons (pe_xf T.E_BadSigns.xf T.E_BadSigns.noF hz hf (pv 2)) pa_nil)))))) (.named (i := 2) ⟨rfl, by decide, .inl T.g_TooMany⟩ rfl rfl (fun a oe cls d pn hz hf => (pss_one (ps_ret (pe_tup (pa_cons pe_str (pa_cons (pe_xf T.E_TooMany.xf T.E_TooMany.noF hz hf (pv 2)) pa_nil)))))) (.named (i := 2) ⟨rfl, by decide, .inl T.g_Unlike⟩ rfl rfl (fun a oe cls d pn hz hf => (pss_one (ps_ret (pe_tup (pa_cons pe_str (pa_cons (pe_xf T.E_Unlike.xf T.E_Unlike.noF hz hf (pv 2)) pa_nil)))))) (.named (i := 2) ⟨rfl, by decide, .inl T.g_Twice⟩ rfl rfl (fun a oe cls d pn hz hf => (pss_one (ps_ret (pe_tup (pa_cons pe_str (pa_cons (pe_xf T.E_Twice.xf T.E_Twice.noF hz hf (pv 2)) pa_nil)))))) (.anon ⟨rfl, by decide, .inl T.g_TinkerError⟩ (fun a oe cls d pn hz hf => (pss_one (ps_ret (pe_tup (pa_cons pe_str (pa_cons pe_non pa_nil)))))) .nil))))))), ?_⟩
    show tRet _ _ _ _
    walk_at "rd"
    intro x dx nx nd ne
    have s0 : Same H (upd (upd H dx (.own x)) x (.ins (He.ga K "Catalogue") dx [])) := (Same.upd nd).trans (Same.upd (by rw [upd_ne (Ne.symm ne)]; exact nx))
    refine ⟨x, dx, p, sg, as, rows, rfl, upd_same, .inr (Sd.tup (Sd.of s0) hp), hk.sd (Sd.of s0), gk, l1, odd_grow s0 hsg, fun hm => ?_, fun m em due H1 td cat => ⟨rfl, ?_⟩, fun C f v ee H1 d s1 hd => ?_⟩
    · obtain ⟨i, hi⟩ := List.mem_iff_getElem?.mp hm
      have il := (List.getElem?_eq_some_iff.mp hi).1
      obtain ⟨d1, t1, w1, i1, _⟩ := (hk.at_ i x _ hi (List.getElem?_eq_getElem (by rw [← hk.len]; exact il))).ex
      rw [nx] at i1
      cases i1
    · have s1 : Same H H1 := Td.made nx nd td
      walk_at "rd"
      refine ⟨by show 2 ≤ sizeLine; decide, fun t ht => ?_⟩
      have s2 := Same.upd (o := .tup [V.str "good", V.ref x]) ht
      exact k m em due x t _ (s1.trans s2) (SqT.of upd_same) (cat.sd (Sd.of s2))
    · show wN _ _ _ _ _ _ _ _
      have s1 : Same H H1 := s0.trans s1
      have fin : ∀ (cn : Str) (y : V) (yd : PyData), dueOf sg rows ≠ .ok → dueD sgd (dueOf sg rows) = .tuple [.str cn, yd] → Dp K H1 y yd →
          ∀ t, H1 t = none → Q (.ref t) (upd H1 t (.tup [.str cn, y])) := fun cn y yd ne eq hy t ht => by
        have s2 := Same.upd (o := .tup [V.str cn, y]) ht
        refine kE ne _ _ (s1.trans s2) ?_
        rw [eq]
        exact .tup (SqT.of upd_same) (.cons (.str _) (.cons (Dp.same s2 hy) .nil))
      generalize hdue : dueOf sg rows = due at ee fin
      cases due with
      | ok => cases ee
      | bad =>
        cases ee
        refine wN_hit T.x_BadSigns_BadSigns fun a ha => r_goes ?_
        walk_at "rd"
        refine xf_one hd ?_
        walk_at "rd"
        exact ⟨by show 2 ≤ sizeLine; decide, fun t ht => fin _ _ _ (by intro z; cases z) rfl (Dp.same s1 hsd) t ht⟩
      | many =>
        cases ee
        refine wN_miss T.x_TooMany_BadSigns (wN_hit T.x_TooMany_TooMany fun a ha => r_goes ?_)
        walk_at "rd"
        refine xf_one hd ?_
        walk_at "rd"
        exact ⟨by show 2 ≤ sizeLine; decide, fun t ht => fin _ _ _ (by intro z; cases z) rfl (.str _) t ht⟩
      | unlike n =>
        cases ee
        refine wN_miss T.x_Unlike_BadSigns (wN_miss T.x_Unlike_TooMany (wN_hit T.x_Unlike_Unlike fun a ha => r_goes ?_))
        walk_at "rd"
        refine xf_one hd ?_
        walk_at "rd"
        exact ⟨by show 2 ≤ sizeLine; decide, fun t ht => fin _ _ _ (by intro z; cases z) rfl (.str _) t ht⟩
      | twice n =>
        cases ee
        refine wN_miss T.x_Twice_BadSigns (wN_miss T.x_Twice_TooMany (wN_miss T.x_Twice_Unlike (wN_hit T.x_Twice_Twice fun a ha => r_goes ?_)))
        walk_at "rd"
        refine xf_one hd ?_
        walk_at "rd"
        exact ⟨by show 2 ≤ sizeLine; decide, fun t ht => fin _ _ _ (by intro z; cases z) rfl (.str _) t ht⟩
theorem sc_law_due_of : FnScope ["_law_signs", "_law_row", "_law_one", "_law_names", "_law_k"] ["_law_signs", "_law_row"] (defScope s_law_due_of) := ⟨rfl, rfl, rfl, by decide +kernel, rfl, by decide +kernel, by decide +kernel⟩
theorem ok_law_due_of (T : Txt P K mg) : Ok P w K mg base 2 (He.ga K "_law_due_of") ["_law_signs", "_law_row"] (spDueOf K) := by
  obtain ⟨fd, F⟩ := T.F_law_due_of
  have b : Binds K fd ["_law_signs", "_law_row"] [] := F.bindsN fun _ _ _ _ _ _ us hl => match us, hl with | [_, _], _ => rfl
  refine ok_of F b sc_law_due_of (fun vs H Q E h => ?_) (fun cdv A outer s H vs Q E hr h => ?_)
  · obtain ⟨sg, sgd, q, us, rows, rfl, _⟩ := h
    rfl
  · obtain ⟨sg, sgd, q, us, rows, rfl, hsd, hsg, hs, hr', l1, k⟩ := h
    have lu := hr'.1
    refine ⟨_, (pss_cons (ps_if (PW.pt (pw_or (pt_not (pt_val (pk (ok_law_integer T) hr rfl T.g_law_integer (pa_cons (pv 0) pa_nil)))) (pw_or1 (pt_not (pt_chain op_le op_le pe_int (pv 0) pe_int))))) (pss_one (ps_ret (pe_tup (pa_cons pe_str (pa_cons (pv 0) pa_nil))))) pss_nil)
  (pss_cons (ps_if (pt_cmpR op_gt (pe_callB call_len_seq (by rfl) T.f_len (by decide +kernel) (pa_cons (pv 1) pa_nil)) pe_int (by first | exact nomark _ | rfl)) (pss_one (ps_ret (pe_tup (pa_cons pe_str (pa_cons pe_str pa_nil))))) pss_nil)
  (pss_cons (ps_for PassesOwn.never rfl (pi_list (pv 1)) (pg_name (i := 2) sc_law_due_of.nd rfl (Or.inl rfl)) (pss_one (ps_if (pt_cmpR op_ne (pe_ix ix_tup (pv 2) pe_int (fun _ _ => rfl)) (pv 0) (by first | exact nomark _ | rfl)) (pss_one (ps_ret (pe_tup (pa_cons pe_str (pa_cons (pe_ix ix_tup (pe_ix ix_tup (pv 2) pe_int (fun _ _ => rfl)) pe_int (fun _ _ => rfl)) pa_nil))))) pss_nil)))
  (pss_cons (ps_setLc (i := 3) (own := [("_law_one", 2)]) rfl sc_law_due_of.nd rfl rfl (sw_true rfl rfl rfl (by decide +kernel)) (pi_list (pv 1)) (blkOk_by (own := [("_law_one", 2)]) (N := ["_law_signs", "_law_row", "_law_one", "_law_names", "_law_k"]) (sc := defScope s_law_due_of) (by decide +kernel)) (fun _ _ _ _ _ => (pg_name (i := 2) sc_law_due_of.nd rfl (Or.inl rfl))) (fun _ _ _ _ _ => pts_nil) (fun _ _ _ _ _ => (pe_ix (ix_tupB (K := K) rfl) (pe_ix (ix_tupB (K := K) rfl) (pv 2) pe_int (fun _ _ => rfl)) pe_int (fun _ _ => rfl))))
  (pss_cons (ps_for PassesOwn.never rfl (pi_range1 rfl T.f_range (pa_cons (pe_callB call_len_seq (by rfl) T.f_len (by decide +kernel) (pa_cons (pv 3) pa_nil)) pa_nil)) (pg_name (i := 4) sc_law_due_of.nd rfl (Or.inl rfl)) (pss_one (ps_if (pt_cmpR op_in_seq (pe_ix ix_list (pv 3) (pv 4) (fun _ _ => rfl)) (pe_slice sl_list (pv 3) po_none (po_some (pv 4))) (by first | exact nomark _ | rfl)) (pss_one (ps_ret (pe_tup (pa_cons pe_str (pa_cons (pe_ix ix_list (pv 3) (pv 4) (fun _ _ => rfl)) pa_nil))))) pss_nil)))
  (pss_one (ps_ret pe_non))))))), ?_⟩
    have tell : ∀ (cn : Str) (y : V) (yd : PyData) (H1 : Hp), dueOf sg rows ≠ .ok → dueD sgd (dueOf sg rows) = .tuple [.str cn, yd] → Same H H1 → Dp K H1 y yd → ∀ t, H1 t = none → Q (.ref t) (upd H1 t (.tup [.str cn, y])) := fun cn y yd H1 ne eq s1 hy t ht => by
      have s2 := Same.upd (o := .tup [V.str cn, y]) ht
      refine k _ _ (s1.trans s2) ?_ (fun z => absurd z ne) (fun _ => ⟨t, rfl⟩)
      rw [eq]
      exact .tup (SqT.of upd_same) (.cons (.str _) (.cons (Dp.same s2 hy) .nil))
    walk_at "rd"
    rcases hsg with ⟨m, rfl⟩ | hodd
    case inr =>
      refine ⟨sg, rfl, .inr ⟨hodd, ?_⟩⟩
      refine r_bl (r_iT ?_)
      walk_at "rd"
      have d1 := odd_bad (rows := rows) hodd
      refine ⟨_, rfl, ?_⟩
      exact ⟨by show 2 ≤ sizeLine; decide, fun t ht => tell _ _ _ _ (by rw [d1]; intro z; cases z) (by rw [d1]; rfl) (Same.refl _) hsd t ht⟩
    refine ⟨.int m, rfl, .inl ⟨m, rfl, ?_⟩⟩
    refine r_bl (r_iF ?_)
    walk_at "rd"
    have bad : ¬ (2 ≤ m ∧ m ≤ 3) → ∀ t, H t = none → Q (.ref t) (upd H t (.tup [.str "BadSigns", .int m])) := fun hm t ht => by
      have d1 : dueOf (.int m) rows = .bad := by unfold dueOf; simp only [if_neg hm]
      exact tell _ _ _ _ (by rw [d1]; intro z; cases z) (by rw [d1]; rfl) (Same.refl _) hsd t ht
    by_cases h2 : 2 ≤ m
    case neg =>
      rw [decide_eq_false h2]
      refine r_iF (r_bl (r_iT ?_))
      walk_at "rd"
      exact ⟨by show 2 ≤ sizeLine; decide, bad fun z => h2 z.1⟩
    rw [decide_eq_true h2]
    refine r_iT ?_
    walk_at "rd"
    by_cases h3 : m ≤ 3
    case neg =>
      rw [decide_eq_false h3]
      refine r_iT ?_
      walk_at "rd"
      exact ⟨by show 2 ≤ sizeLine; decide, bad fun z => h3 z.2⟩
    rw [decide_eq_true h3]
    refine r_iF ?_
    have due1 : dueOf (.int m) rows = dueRow m rows := by unfold dueOf; simp only [if_pos (⟨h2, h3⟩ : (2 : Int) ≤ m ∧ m ≤ 3)]
    walk_at "rd"
    refine ⟨_, _, rfl, .inl hs, ?_⟩
    rw [lu]
    walk_at "rd"
    refine r_ifd (fun h8 => ?_) (fun h8 => ?_)
    · have h8 : 8 < rows.length := by omega
      walk_at "rd"
      exact ⟨by show 2 ≤ sizeLine; decide, tell _ _ _ _ (by rw [due1, dueRow, if_pos h8]; intro z; cases z) (by rw [due1, dueRow, if_pos h8]; rfl) (Same.refl _) (.str _)⟩
    have h8 : ¬ 8 < rows.length := by omega
    walk_at "rd"
    refine forL (fun j σ' H' => ∃ o : Option V, σ' = [some (.int m), some (.ref q), o, none, none] ∧ H' = H ∧ firstAt (unl m rows) j = none) hs ⟨none, rfl, rfl, rfl⟩ (fun j σ' H' _ z => ?_) ?_ ?_
    · obtain ⟨_, _, rfl, _⟩ := z
      exact hs
    · rintro j v σ' H' hv ⟨o, rfl, rfl, fj⟩
      obtain ⟨r, hrr, p, u, rfl, hp, hu⟩ := hr'.get hv
      have hj : j < rows.length := (List.getElem?_eq_some_iff.mp hrr).1
      walk_at "rd"
      refine r_ixT hp (v := .int r.1) (atI_nat (j := 0) rfl) ?_
      walk_at "rd"
      refine r_ne rfl ?_
      refine r_bl ?_
      by_cases em : r.1 = m
      · rw [em, decide_eq_true rfl]
        refine r_iF ?_
        walk_at "rd"
        exact ⟨_, rfl, rfl, firstAt_none fj (by unfold unl; rw [hrr]; simp only [if_pos em])⟩
      · rw [decide_eq_false (fun z => em (by injection z))]
        refine r_iT ?_
        walk_at "rd"
        refine r_ixT hp (v := u) (atI_nat (j := 1) rfl) ?_
        obtain ⟨a, vt, vw, rfl, hs4, _, _⟩ := kd_at hu
        walk_at "rd"
        refine r_ixT hs4 (v := .str r.2.name) (atI_nat (j := 0) rfl) ?_
        walk_at "rd"
        have f1 : firstAt (unl m rows) rows.length = some r.2.name := firstAt_hit fj (by unfold unl; rw [hrr]; simp only [if_neg em]) hj
        exact ⟨by show 2 ≤ sizeLine; decide, tell _ _ _ _ (by rw [due1, dueRow, if_neg h8, f1]; intro z; cases z) (by rw [due1, dueRow, if_neg h8, f1]; rfl) (Same.refl _) (.str _)⟩
    rintro σ' H' ⟨o, rfl, rfl, fu⟩
    rw [lu] at fu
    walk_at "rd"
    refine lcL (P := fun i v _ => ∃ r, rows[i]? = some r ∧ v = .str r.2.name) way_same (Same.refl _) hs (by omega) (fun _ _ _ _ _ p => p) (fun i v H1 hi e1 Qe q => ?_) fun D H1 ys hD e1 hy hyl hq => ?_
    · refine r_name ⟨rfl, ?_⟩
      obtain ⟨r, hrr, p, u, rfl, hp, hu⟩ := hr'.get hi
      walk_at "rd"
      refine r_ixT (Sd.tup (Sd.of e1) hp) (v := u) (atI_nat (j := 1) rfl) ?_
      obtain ⟨a, vt, vw, rfl, hs4, _, _⟩ := kd_at hu
      walk_at "rd"
      refine r_ixT (Sd.tup (Sd.of e1) hs4) (v := .str r.2.name) (atI_nat (j := 0) rfl) ?_
      exact q _ _ (Same.refl _) ⟨r, hrr, rfl⟩
    have hys := map_read (f := fun r : Int × KD => V.str r.2.name) (by omega) hq
    rw [show (rows.map fun r : Int × KD => V.str r.2.name) = (rowNames rows).map V.str by unfold rowNames; rw [List.map_map]; rfl] at hys
    subst hys
    have nl : (rowNames rows).length = rows.length := List.length_map _
    walk_at "rd"
    refine ⟨_, _, rfl, .inl (SqL.of hy), ?_⟩
    rw [List.length_map, nl]
    walk_at "rd"
    refine forR (fun j σ' H' => ∃ o5 : Option V, σ' = [some (.int m), some (.ref q), o, some (.ref D), o5] ∧ Same H1 H' ∧ firstAt (twi (rowNames rows)) j = none) ⟨by omega, by omega⟩ ⟨none, rfl, Same.refl _, rfl⟩ ?_ ?_
    · rintro j σ' H2 hj ⟨o5, rfl, s2, fj⟩
      have hj : j < (rowNames rows).length := by omega
      have hnm : (rowNames rows)[j]? = some (rowNames rows)[j] := List.getElem?_eq_getElem hj
      have hD2 : SqL K H2 D ((rowNames rows).map V.str) := Same.seq s2 (SqL.of hy)
      have hat : atI ((rowNames rows).map V.str) (j : Int) = some (.str (rowNames rows)[j]) := atI_nat (by rw [List.getElem?_map, hnm]; rfl)
      walk_at "rd"
      refine r_ixL hD2 hat ?_
      walk_at "rd"
      refine ⟨_, rfl, r_slL hD2 fun z hz => ?_⟩
      have ec : cutV ((rowNames rows).map V.str) none (some (j : Int)) = ((rowNames rows).take j).map V.str := by
        unfold cutV
        rw [HT.sIx_none, HT.sIx_nat, List.length_map (f := V.str), Nat.min_eq_left (by omega), Nat.sub_zero, List.drop_zero, List.map_take]
      rw [ec]
      have s3 := Same.upd (o := .lst (((rowNames rows).take j).map V.str)) hz
      refine r_in (.inl (SqL.of upd_same)) ?_
      refine r_bl ?_
      refine r_ifd (fun hmem => ?_) (fun hno => ?_)
      · walk_at "rd"
        refine r_ixL (Same.seq s3 hD2) hat ?_
        walk_at "rd"
        have f1 : firstAt (twi (rowNames rows)) rows.length = some (rowNames rows)[j] := firstAt_hit fj (by unfold twi; rw [hnm]; simp only [if_pos hmem]) (by omega)
        exact ⟨by show 2 ≤ sizeLine; decide, tell _ _ _ _ (by rw [due1, dueRow, if_neg h8, fu, f1]; intro z; cases z) (by rw [due1, dueRow, if_neg h8, fu, f1]; rfl) ((e1.trans s2).trans s3) (.str _)⟩
      · walk_at "rd"
        exact ⟨_, rfl, s2.trans s3, firstAt_none fj (by unfold twi; rw [hnm]; simp only [if_neg hno])⟩
    rintro σ' H3 ⟨o5, rfl, s3, ft⟩
    have ft : firstAt (twi (rowNames rows)) rows.length = none := by simpa using ft
    have hdue : dueOf (.int m) rows = .ok := by rw [due1, dueRow, if_neg h8, fu, ft]
    walk_at "rd"
    exact k .non H3 (e1.trans s3) (by rw [hdue]; exact .non) (fun _ => rfl) (fun z => absurd hdue z)
end
end Tx

/-! ## Pr10 -/
set_option maxHeartbeats 4000000
/-! A catalogue is as told. -/
namespace Tx
open PySem PySem.Spec PyProof.Rows L2 Gd
local macro_rules | `(tactic| walk_at "rd1") => `(tactic| first
  | ((with_reducible show tVar _ _ _ _); refine r_var (by rfl) ?_)
  | with_reducible refine r_c ?_
  | with_reducible refine r_seq ?_
  | with_reducible refine r_asg ?_
  | with_reducible refine r_name ?_
  | with_reducible refine r_op ?_
  | with_reducible refine r_I0 ?_
  | with_reducible refine r_cons ?_
  | with_reducible refine r_nil ?_
  | with_reducible refine r_call ?_
  | with_reducible refine r_ret ?_
  | with_reducible refine r_cb ?_
  | with_reducible refine r_ifS ?_
  | with_reducible refine r_test ?_
  | with_reducible refine r_bl ?_
  | with_reducible refine r_dget ?_
  | with_reducible refine r_dput ?_
  | ((with_reducible show (∃ k, [V.int _] = [V.int k] ∧ _) ∨ _); refine Or.inl ⟨_, rfl, ?_⟩)
  | with_reducible refine r_lcR ?_
  | with_reducible refine r_lcL ?_
  | with_reducible refine r_lcT ?_
  | with_reducible refine r_m1 ?_
  | with_reducible refine r_gSub ?_
  | with_reducible refine r_forR ?_
  | with_reducible refine r_forL ?_
  | with_reducible refine r_forT ?_
  | with_reducible refine r_bm ?_
  | with_reducible refine r_next ?_
  | with_reducible refine r_B ?_
  | with_reducible refine r_not ?_
  | with_reducible refine r_and ?_
  | with_reducible refine r_or ?_
  | with_reducible refine r_andV ?_
  | with_reducible refine r_orV ?_
  | with_reducible refine r_notV ?_
  | with_reducible refine r_ifE ?_
  | with_reducible refine r_drop ?_
  | with_reducible refine r_tup ?_
  | with_reducible refine r_lst ?_
  | with_reducible refine r_un ?_
  | with_reducible refine r_U ?_)
local macro_rules | `(tactic| walk_at "rd") => `(tactic| repeat walk_at "rd1")
local macro_rules | `(tactic| walk_at "rd1") => `(tactic| first
  | with_reducible refine r_lcS ?_
  | with_reducible refine r_sl ?_
  | with_reducible refine r_noPart ?_
  | with_reducible refine r_partE ?_
  | with_reducible refine r_sfld ?_
  | with_reducible refine r_gc ?_
  | with_reducible refine r_gn ?_
  | with_reducible refine r_forE ?_
  | with_reducible refine r_makeK ?_
  | with_reducible refine r_make ?_
  | with_reducible refine r_fld ?_
  | with_reducible refine r_prop ?_
  | with_reducible refine r_meth ?_
  | with_reducible refine r_js ?_
  | with_reducible refine r_jn ?_
  | with_reducible refine r_fmt ?_
  | with_reducible refine r_chain ?_)
local macro_rules | `(tactic| walk_at "rd1") => `(tactic| first
  | with_reducible refine r_sfa ?_
  | with_reducible refine r_methR ?_)
local macro_rules | `(tactic| walk_at "rd1") => `(tactic| first
  | with_reducible refine r_sErr ?_)
local macro_rules | `(tactic| walk_at "rd1") => `(tactic| first
  | with_reducible refine r_star ?_
  | with_reducible refine r_callS ?_
  | with_reducible refine r_makeX ?_
  | with_reducible refine r_xf ?_
  | with_reducible refine r_ixO ?_
  | with_reducible refine r_addO ?_)
abbrev num (i : Int) : Str := Str.ofString (toString i)
theorem num_len {i : Int} (h0 : 0 ≤ i) (h1 : i ≤ 600) : (num i).length ≤ 3 := by
  have h : ∀ n : Nat, n < 601 → (num (n : Int)).length ≤ 3 := by decide +kernel
  obtain ⟨n, rfl⟩ : ∃ n : Nat, i = (n : Int) := ⟨i.toNat, by omega⟩
  exact h n (by omega)
theorem num_log {i : Int} (h0 : 0 ≤ i) (h1 : i ≤ 600) : i.natAbs.log2 < 1920 := by
  have h : ∀ n : Nat, n < 601 → n.log2 < 1920 := by decide +kernel
  exact h _ (by omega)
structure Sm (n k : Nat) (d : PyData) : Prop where
  sh : d.showable = true
  nd : d.hasDict = false
  ls : d.leavesShort 13 = true
  wt : d.weight ≤ n
  dp : d.depth ≤ k
structure SmA (n k : Nat) (ds : List PyData) : Prop where
  sh : PyData.showableAll ds = true
  nd : PyData.hasDictAll ds = false
  ls : PyData.leavesShortAll 13 ds = true
  wt : PyData.weightAll ds ≤ n
  dp : PyData.depthAll ds ≤ k
theorem Sm.mono {n k n' k' : Nat} {d : PyData} (h : Sm n k d) (a : n ≤ n') (b : k ≤ k') : Sm n' k' d := ⟨h.sh, h.nd, h.ls, Nat.le_trans h.wt a, Nat.le_trans h.dp b⟩
theorem SmA.mono {n k n' k' : Nat} {d : List PyData} (h : SmA n k d) (a : n ≤ n') (b : k ≤ k') : SmA n' k' d := ⟨h.sh, h.nd, h.ls, Nat.le_trans h.wt a, Nat.le_trans h.dp b⟩
theorem SmA.nil {k : Nat} : SmA 0 k [] := ⟨by simp [PyData.showableAll], by simp [PyData.hasDictAll], by simp [PyData.leavesShortAll], by simp [PyData.weightAll], by simp [PyData.depthAll]⟩
theorem SmA.cons {a b k : Nat} {d : PyData} {ds : List PyData} (h : Sm a k d) (t : SmA b k ds) : SmA (a + 1 + b) k (d :: ds) :=
  ⟨by simp [PyData.showableAll, h.sh, t.sh], by simp [PyData.hasDictAll, h.nd, t.nd], by simp [PyData.leavesShortAll, h.ls, t.ls],
   by have := h.wt; have := t.wt; simp only [PyData.weightAll]; omega, by have := h.dp; have := t.dp; simp only [PyData.depthAll]; omega⟩
theorem SmA.map {α : Type} {f : α → PyData} {a k : Nat} : ∀ {l : List α}, (∀ x ∈ l, Sm a k (f x)) → SmA ((a + 1) * l.length) k (l.map f)
  | [], _ => by rw [List.length_nil, Nat.mul_zero]; exact SmA.nil
  | x :: r, h => by
    have := SmA.cons (h x (List.mem_cons_self ..)) (SmA.map (l := r) fun y hy => h y (List.mem_cons_of_mem _ hy))
    rw [List.length_cons, Nat.mul_succ, Nat.add_comm]
    exact this
theorem Sm.tup {n k : Nat} {ds : List PyData} (h : SmA n k ds) : Sm n (k + 1) (.tuple ds) :=
  ⟨by simp only [PyData.showable, h.sh], by simp only [PyData.hasDict, h.nd], by simp only [PyData.leavesShort, h.ls], by have := h.wt; simp only [PyData.weight]; omega, by have := h.dp; simp only [PyData.depth]; omega⟩
theorem Sm.lst {n k : Nat} {ds : List PyData} (h : SmA n k ds) : Sm n (k + 1) (.list ds) :=
  ⟨by simp only [PyData.showable, h.sh], by simp only [PyData.hasDict, h.nd], by simp only [PyData.leavesShort, h.ls], by have := h.wt; simp only [PyData.weight]; omega, by have := h.dp; simp only [PyData.depth]; omega⟩
theorem log600 : ∀ n : Nat, n < 601 → n.log2 + 1 ≤ 11 := by decide +kernel
theorem Sm.int {i : Int} (h0 : 0 ≤ i) (h1 : i ≤ 600) {k : Nat} : Sm 11 k (.int i) := by
  refine ⟨by simp only [PyData.showable]; exact decide_eq_true (num_log h0 h1), by simp only [PyData.hasDict], ?_, ?_, by simp [PyData.depth]⟩
  · have := num_len h0 h1
    simp only [PyData.leavesShort]
    refine decide_eq_true ?_
    have e : PyData.shown (.int i) = num i := by simp only [PyData.shown]
    rw [e]
    omega
  · have := log600 i.natAbs (by omega)
    simp only [PyData.weight]
    split <;> omega
theorem Sm.str {s : Str} {n k : Nat} (h : ∀ c ∈ s.cps.toList, c < 16 ^ 8) (l : s.length ≤ n) : Sm n k (.str s) := by
  refine ⟨by simp only [PyData.showable], by simp only [PyData.hasDict], ?_, by simp only [PyData.weight]; exact l, by simp [PyData.depth]⟩
  simp only [PyData.leavesShort]
  exact List.all_eq_true.mpr fun c hc => decide_eq_true (h c hc)
theorem Sm.shw {n k : Nat} {d : PyData} (h : Sm n k d) (hn : n ≤ 100000) (hk : k ≤ 64) : Shw d := by
  refine ⟨h.sh, h.nd, Nat.le_trans h.dp hk, ?_⟩
  have := PyData.shown_le 13 (by decide) d h.ls
  have := h.wt
  refine Nat.le_trans (by omega : d.shown.length ≤ 15 * 100000 + 13) (by decide)
theorem low_c {s : Str} (h : Low s) : ∀ c ∈ s.cps.toList, c < 16 ^ 8 := fun c hc => by have := (h c hc).2; omega
theorem sm_ints {ts : List Int} (h : In 3 ts) (l : ts.length ≤ 27) : Sm 324 1 (intsD ts) :=
  (Sm.tup (SmA.map (f := PyData.int) (a := 11) (k := 0) fun t ht => Sm.int (h t ht).1 (by have := (h t ht).2; omega))).mono (by omega) (Nat.le_refl _)
theorem sm_start {m : Int} {kd : KD} (G : GoodK m kd) (m3 : m ≤ 3) : Sm 11 0 (startD kd.start) := by
  cases h : kd.start with
  | none => exact ⟨rfl, rfl, rfl, by simp [startD, PyData.weight], by simp [startD, PyData.depth]⟩
  | some x =>
    obtain ⟨a, b⟩ := G.start x h
    exact Sm.int a (by omega)
theorem sm_kd {m : Int} {kd : KD} (G : GoodK m kd) : Sm 2500 4 kd.data := by
  have hm := G.m_
  have m3 : m ≤ 3 := by rcases hm with rfl | rfl <;> decide
  have l27 : kd.table.length ≤ 27 := by have := sz_hi (b := kd.start.isSome) hm G.inputs; have := G.len; omega
  have in3 : ∀ {ts : List Int}, In m ts → In 3 ts := fun h t ht => ⟨(h t ht).1, by have := (h t ht).2; omega⟩
  have gi := G.inputs
  have l6 := G.most
  have hw : ∀ w ∈ kd.ways, Sm 341 2 w.data := fun w hw => by
    have Gw := G.ways w hw
    have wl := Gw.len
    have h1 : Sm 6 1 (.str w.word) := by
      rcases Gw.word with e | e <;> rw [e] <;> exact Sm.str (by decide +kernel) (by decide +kernel)
    exact (Sm.tup (.cons h1 (.cons ((Sm.str (low_c Gw.name.low) Gw.name.hi : Sm 8 1 _)) (.cons (sm_ints (in3 Gw.in_) (by omega)) .nil)))).mono (by decide) (Nat.le_refl _)
  have h2 : Sm 2052 3 (waysD kd.ways) := (Sm.tup (SmA.map hw)).mono (by omega) (Nat.le_refl _)
  exact (Sm.tup (.cons (Sm.str (n := 8) (low_c G.name.low) G.name.hi) (.cons (Sm.int (by omega) (by omega)) (.cons ((sm_ints (in3 G.in_) l27).mono (Nat.le_refl _) (by decide)) (.cons ((sm_start G m3).mono (Nat.le_refl _) (by decide)) (.cons h2 (.cons (Sm.int G.p0 G.p1) .nil))))))).mono (by decide) (Nat.le_refl _)
theorem shw_kinds {m : Int} {ks : List KD} (G : GoodT m ks) (l8 : ks.length ≤ 8) : Shw (.list (ks.map KD.data)) :=
  (Sm.lst (SmA.map (f := KD.data) fun k hk => sm_kd (G.good k hk))).shw (by omega) (by decide)
theorem shw_int {i : Int} (h0 : 0 ≤ i) (h1 : i ≤ 600) : Shw (.int i) := (Sm.int h0 h1 (k := 0)).shw (by decide) (by decide)
theorem shw_true : Shw (.bool true) := (⟨rfl, rfl, rfl, by simp [PyData.weight], by simp [PyData.depth]⟩ : Sm 0 0 (.bool true)).shw (by decide) (by decide)
theorem r_eqG {D : Eqv} {x y : V} {H : Hp} {Q : VK} (d : D x y H) (h : ∀ H', Same H H' → Q (.bl true) H') : rEqG D x y H Q := ⟨d, fun H' e => h H' e⟩
/-- names that may be asked for -/
def Asked (s : Str) : Prop := s.length ≤ 8 ∧ ∀ c ∈ s.cps.toList, c < 128
theorem asked_good {s : Str} (h : GoodN s) : Asked s := ⟨h.hi, fun c hc => by have := (h.low c hc).2; omega⟩
abbrev zz8 : Str := Str.ofString "zzzzzzzz"
theorem asked_z : Asked zz8 := ⟨by decide +kernel, by decide +kernel⟩
theorem Asked.msg {s : Str} (h : Asked s) : Msg (.str s) := ⟨s, rfl, by have := h.1; omega, by
  have e := PySem.StrLaws.reprText_len s fun c hc => by have := h.2 c hc; omega
  have := h.1
  omega⟩
theorem sm_bool (b : Bool) {k : Nat} : Sm 0 k (.bool b) := ⟨by cases b <;> rfl, rfl, by cases b <;> rfl, by simp [PyData.weight], by simp [PyData.depth]⟩
theorem shw_bool (b : Bool) : Shw (.bool b) := (sm_bool b (k := 0)).shw (by decide) (by decide)
theorem shw_unk {s : Str} (h : Asked s) : Shw (unkD s) :=
  (Sm.tup (.cons (Sm.str (n := 7) (by decide +kernel) (by decide +kernel)) (.cons (Sm.str (n := 8) (fun c hc => by have := h.2 c hc; omega) h.1) (.cons (sm_bool true) (.cons (sm_bool false) .nil)))) : Sm _ 1 _).shw (by decide) (by decide)
theorem shw_kd {m : Int} {kd : KD} (G : GoodK m kd) : Shw kd.data := (sm_kd G).shw (by decide) (by decide)
theorem nd_inj : ∀ {ks : List KD}, (ks.map KD.name).Nodup → ∀ {a b : KD}, a ∈ ks → b ∈ ks → a.name = b.name → a = b
  | [], _, _, _, h, _, _ => by cases h
  | k :: r, nd, a, b, ha, hb, e => by
    rw [List.map_cons, List.nodup_cons] at nd
    rcases List.mem_cons.mp ha with rfl | ha' <;> rcases List.mem_cons.mp hb with rfl | hb'
    · rfl
    · exact absurd (show a.name ∈ r.map KD.name from List.mem_map.mpr ⟨b, hb', e.symm⟩) nd.1
    · exact absurd (show b.name ∈ r.map KD.name from List.mem_map.mpr ⟨a, ha', e⟩) nd.1
    · exact nd_inj nd.2 ha' hb' e
def spToldOf (K : Frg) : Sp := fun vs H Q _ => ∃ (c h n : Addr) (m : Int) (ks : List KD) (us : List V) (ns : List Str), vs = [.ref c, .int m, .ref h, .ref n] ∧ CatAt K H c m ks ∧ GoodT m ks ∧ ks.length ≤ 8 ∧ SqL K H h us ∧ DpAll K H us (ks.map KD.data) ∧
  H n = some (.lst (ns.map V.str)) ∧ ns.length ≤ 1000 ∧ (∀ s ∈ ns, Asked s) ∧ ∀ H', Same H H' → Q (.bl true) H'
section
variable {P : Program} {w : World} {K : Frg} {mg : Str → Option Value} {base : Heap}
theorem sc_law_told_of : FnScope ["_law_catalogue", "_law_signs", "_law_held", "_law_names", "_law_there", "_law_name", "_law_due", "_law_kind", "_law_thing"] ["_law_catalogue", "_law_signs", "_law_held", "_law_names"] (defScope s_law_told_of) := ⟨rfl, rfl, rfl, by decide +kernel, rfl, by decide +kernel, by decide +kernel⟩
theorem ok_law_told_of (T : Txt P K mg) : OkG P w K mg base 8 (He.ga K "_law_told_of") ["_law_catalogue", "_law_signs", "_law_held", "_law_names"] (spToldOf K) := by
  obtain ⟨fd, F⟩ := T.F_law_told_of
  have b : Binds K fd ["_law_catalogue", "_law_signs", "_law_held", "_law_names"] [] := F.bindsN fun _ _ _ _ _ _ us hl => match us, hl with | [_, _, _, _], _ => rfl
  refine okG_of F b sc_law_told_of (fun vs H Q E h => ?_) (fun cdv A outer s H vs Q hgd hr h => ?_)
  · obtain ⟨c, h, n, m, ks, us, ns, rfl, _⟩ := h
    rfl
  · obtain ⟨c, h, n, m, ks, us, ns, rfl, hC, G, l8, hh, hus, hn, ln, ask, k⟩ := h
    have hC0 := hC
    obtain ⟨dx, p, q, as, hx, hp, hq, hk⟩ := hC.ex
    have la := hk.len
    have lu := DpAll.len hus
    rw [List.length_map] at lu
    have gm := G.m_
    have m2 : 2 ≤ m := by rcases gm with rfl | rfl <;> decide
    have m3 : m ≤ 3 := by rcases gm with rfl | rfl <;> decide
    refine ⟨_, (pss_cons (ps_if (PW.pt (pw_or (pt_not (pt_val (pkG (ok_law_same T) hgd hr rfl T.g_law_same (pa_cons (pe_fld (pv 0) rfl) (pa_cons (pv 1) pa_nil))))) (pw_or1 (pt_cmpR op_ne (pe_callB (k_len_Catalogue T hr) (by rfl) T.f_len (by decide +kernel) (pa_cons (pv 0) pa_nil)) (pe_callB call_len_seq (by rfl) T.f_len (by decide +kernel) (pa_cons (pv 2) pa_nil)) (by first | exact nomark _ | rfl))))) (pss_one (ps_ret pe_bl)) pss_nil)
  (pss_cons (ps_if (pt_not (pt_val (pe_callB call_isi (by rfl) T.f_isinstance (by decide +kernel) (pa_cons (pe_fld (pv 0) rfl) (pa_cons (pe_bltn (v := .ty "tuple") (u := .type "tuple") (by rfl) T.f_tuple (by decide +kernel) rfl) pa_nil))))) (pss_one (ps_ret pe_bl)) pss_nil)
  (pss_cons (ps_if (pt_not (pt_val (pkG (ok_law_same T) hgd hr rfl T.g_law_same (pa_cons (pe_lc (own := [("_law_thing", 8)]) rfl sc_law_told_of.nd (pi_tup (pe_fld (pv 0) rfl)) (blkOk_by (own := [("_law_thing", 8)]) (N := ["_law_catalogue", "_law_signs", "_law_held", "_law_names", "_law_there", "_law_name", "_law_due", "_law_kind", "_law_thing"]) (sc := defScope s_law_told_of) (by decide +kernel)) (fun _ _ _ _ _ => (pg_name (i := 8) sc_law_told_of.nd rfl (Or.inl rfl))) (fun _ _ _ _ _ => pts_nil) (fun _ _ _ _ _ => (pk (ok_law_parts_of T) hr rfl T.g_law_parts_of (pa_cons (pv 8) pa_nil)))) (pa_cons (pv 2) pa_nil))))) (pss_one (ps_ret pe_bl)) pss_nil)
  (pss_cons (ps_if (pt_not (pt_val (pkG (ok_law_same T) hgd hr rfl T.g_law_same (pa_cons (pe_lc (own := [("_law_thing", 8)]) rfl sc_law_told_of.nd (pi_own (pv 0) T.m_Catalogue_iter (ok_Catalogue_iter T) hr) (blkOk_by (own := [("_law_thing", 8)]) (N := ["_law_catalogue", "_law_signs", "_law_held", "_law_names", "_law_there", "_law_name", "_law_due", "_law_kind", "_law_thing"]) (sc := defScope s_law_told_of) (by decide +kernel)) (fun _ _ _ _ _ => (pg_name (i := 8) sc_law_told_of.nd rfl (Or.inl rfl))) (fun _ _ _ _ _ => pts_nil) (fun _ _ _ _ _ => (pk (ok_law_parts_of T) hr rfl T.g_law_parts_of (pa_cons (pv 8) pa_nil)))) (pa_cons (pv 2) pa_nil))))) (pss_one (ps_ret pe_bl)) pss_nil)
  (pss_cons (ps_if (pt_not (pt_val (pe_callB (cr_all rfl) (by rfl) T.f_all (by decide +kernel) (pa_cons (pe_lc (own := [("_law_thing", 8)]) rfl sc_law_told_of.nd (pi_own (pv 0) T.m_Catalogue_iter (ok_Catalogue_iter T) hr) (blkOk_by (own := [("_law_thing", 8)]) (N := ["_law_catalogue", "_law_signs", "_law_held", "_law_names", "_law_there", "_law_name", "_law_due", "_law_kind", "_law_thing"]) (sc := defScope s_law_told_of) (by decide +kernel)) (fun _ _ _ _ _ => (pg_name (i := 8) sc_law_told_of.nd rfl (Or.inl rfl))) (fun _ _ _ _ _ => pts_nil) (fun _ _ _ _ _ => (pe_cmpR (k_eq_Kind T hr) (pv 8) (pk (ok_law_object T) hr rfl T.g_law_object (pa_cons (pv 1) (pa_cons (pk (ok_law_parts_of T) hr rfl T.g_law_parts_of (pa_cons (pv 8) pa_nil)) pa_nil))) (by first | exact nomark _ | rfl)))) pa_nil)))) (pss_one (ps_ret pe_bl)) pss_nil)
  (pss_cons (ps_setLc (i := 4) (own := [("_law_kind", 7)]) rfl sc_law_told_of.nd rfl rfl (sw_true rfl rfl rfl (by decide +kernel)) (pi_list (pv 2)) (blkOk_by (own := [("_law_kind", 7)]) (N := ["_law_catalogue", "_law_signs", "_law_held", "_law_names", "_law_there", "_law_name", "_law_due", "_law_kind", "_law_thing"]) (sc := defScope s_law_told_of) (by decide +kernel)) (fun _ _ _ _ _ => (pg_name (i := 7) sc_law_told_of.nd rfl (Or.inl rfl))) (fun _ _ _ _ _ => pts_nil) (fun _ _ _ _ _ => (pe_ix (ix_tupB (K := K) rfl) (pv 7) pe_int (fun _ _ => rfl))))
  (pss_cons (ps_for PassesOwn.never rfl (pi_list (pe_op op_cat (pv 3) (pe_lst (pa_cons pe_str pa_nil)))) (pg_name (i := 5) sc_law_told_of.nd rfl (Or.inl rfl)) (pss_cons (ps_set (i := 6) sc_law_told_of.nd rfl (Or.inl rfl) (pe_tup (pa_cons pe_str (pa_cons (pv 5) (pa_cons pe_bl (pa_cons pe_bl pa_nil))))))
  (Evl.pss_cut (ps_if (pt_cmpR op_in_seq (pv 5) (pv 4) (by first | exact nomark _ | rfl)) (pss_one (ps_set (i := 6) sc_law_told_of.nd rfl (Or.inl rfl) (pe_ix ix_list (pv 2) (pe_bm PySem.F.plainAttrs_list PySem.F.slot_list_index PySem.F.type_list_index mt_index (pv 4) (pa_cons (pv 5) pa_nil)) (fun _ _ => rfl)))) pss_nil)
  (pss_one (ps_if (PW.pt (pw_or (pt_not (pt_val (pkG (ok_law_same T) hgd hr rfl T.g_law_same (pa_cons (pe_cmpR (k_in_Catalogue T hr) (pv 5) (pv 0) (by first | exact nomark _ | rfl)) (pa_cons (pe_cmpR op_in_seq (pv 5) (pv 4) (by first | exact nomark _ | rfl)) pa_nil))))) (pw_or1 (pt_not (pt_val (pkG (ok_law_same T) hgd hr rfl T.g_law_same (pa_cons (pk (ok_law_item T) hr rfl T.g_law_item (pa_cons (pv 0) (pa_cons (pv 5) pa_nil))) (pa_cons (pv 6) pa_nil)))))))) (pss_one (ps_ret pe_bl)) pss_nil)))))
  (pss_one (ps_ret pe_bl))))))))), ?_⟩
    walk_at "rd"
    refine ⟨_, _, _, _, _, rfl, hx, T.c_Catalogue, T.n_Catalogue_signs, rfl, ?_⟩
    walk_at "rd"
    refine r_same (E := E0) (.int m) (.int m) (shw_int (by omega) (by omega)) ?_
    refine r_bl (r_iF ?_)
    walk_at "rd"
    refine ⟨c, dx, _, rfl, hx, c, m, ks, rfl, hC0, ks.length, rfl, by omega, ?_⟩
    walk_at "rd"
    refine ⟨_, _, rfl, .inl hh, ?_⟩
    rw [lu]
    refine r_ne rfl ?_
    rw [decide_eq_true rfl]
    refine r_bl (r_iF ?_)
    walk_at "rd"
    refine ⟨_, _, _, _, _, rfl, hx, T.c_Catalogue, T.n_Catalogue_kinds, rfl, ?_⟩
    walk_at "rd"
    refine r_isi (ty_T hp) (b := true) rfl ?_
    refine r_bl (r_iF ?_)
    walk_at "rd"
    refine ⟨_, _, _, _, _, rfl, hx, T.c_Catalogue, T.n_Catalogue_kinds, rfl, ?_⟩
    have parts : ∀ (i : Nat) v H4, Same H H4 → (as.map V.ref)[i]? = some v → ∃ a kd, v = .ref a ∧ ks[i]? = some kd ∧ KindAt K H4 a m kd := fun i v H4 e4 hi => by
      obtain ⟨a, kd, ha, hkd, e, hK⟩ := (hk.sd (Sd.of e4)).get hi
      exact ⟨a, kd, e, hkd, hK⟩
    have list_ok : ∀ (D : Addr) (H4 : Hp) (ys : List V), ys.length = (as.map V.ref).length → H4 D = some (.lst ys) → (∀ (i : Nat) y, ys[i]? = some y → ∃ kd, ks[i]? = some kd ∧ Dp K H4 y kd.data) → Dp K H4 (.ref D) (.list (ks.map KD.data)) := fun D H4 ys hyl hy hq => by
      rw [List.length_map, la] at hyl
      refine .lst (SqL.of hy) (DpAll.of_at (by rw [List.length_map]; exact hyl) fun i v d hv hd => ?_)
      obtain ⟨kd, h1, h2⟩ := hq i v hv
      rw [List.getElem?_map, h1] at hd
      cases (show some kd.data = some d from hd)
      exact h2
    refine lcT (P := fun i v H' => ∃ kd, ks[i]? = some kd ∧ Dp K H' v kd.data) way_same (Same.refl _) hp (by rw [List.length_map]; omega) (fun i v A B e ⟨kd, h1, h2⟩ => ⟨kd, h1, Dp.sd e _ _ (flat_kd kd) h2⟩) (fun i v H4 hi e4 Qe q => ?_) fun D H4 ys hD e4 hy hyl hq4 => ?_
    · refine r_name ⟨rfl, ?_⟩
      obtain ⟨a, kd, rfl, hkd, hK⟩ := parts i v H4 e4 hi
      walk_at "rd"
      refine ⟨a, m, kd, rfl, hK, fun v H5 s5 hv => ?_⟩
      exact q _ _ s5 ⟨kd, hkd, hv⟩
    walk_at "rd"
    refine r_same (E := E0) (list_ok D H4 ys hyl hy hq4) (.lst (Same.seq e4 hh) (DpAll.gen (fun _ _ z => Sd.tup (Sd.of e4) z) (fun _ _ z => Same.seq e4 z) _ _ hus)) (shw_kinds G l8) ?_
    refine r_bl (r_iF ?_)
    walk_at "rd"
    refine r_lcO rfl (e4 _ _ hx) ⟨dx, q, m, _, e4 _ _ hx, Sd.tup (Sd.of e4) hp⟩ ?_
    refine lcT (P := fun i v H' => ∃ kd, ks[i]? = some kd ∧ Dp K H' v kd.data) way_same (Same.refl _) (Sd.tup (Sd.of e4) hp) (by rw [List.length_map]; omega) (fun i v A B e ⟨kd, h1, h2⟩ => ⟨kd, h1, Dp.sd e _ _ (flat_kd kd) h2⟩) (fun i v H5 hi e5 Qe q => ?_) fun D2 H5 ys2 hD2 e5 hy2 hyl2 hq5 => ?_
    · refine r_name ⟨rfl, ?_⟩
      obtain ⟨a, kd, rfl, hkd, hK⟩ := parts i v H5 (e4.trans e5) hi
      walk_at "rd"
      refine ⟨a, m, kd, rfl, hK, fun v H6 s6 hv => ?_⟩
      exact q _ _ s6 ⟨kd, hkd, hv⟩
    have e5 := e4.trans e5
    walk_at "rd"
    refine r_same (E := E0) (list_ok D2 H5 ys2 hyl2 hy2 hq5) (.lst (Same.seq e5 hh) (DpAll.gen (fun _ _ z => Sd.tup (Sd.of e5) z) (fun _ _ z => Same.seq e5 z) _ _ hus)) (shw_kinds G l8) ?_
    refine r_bl (r_iF ?_)
    walk_at "rd"
    refine r_lcO rfl (e5 _ _ hx) ⟨dx, q, m, _, e5 _ _ hx, Sd.tup (Sd.of e5) hp⟩ ?_
    refine lcT (P := fun i v _ => v = .bl true) way_same (Same.refl _) (Sd.tup (Sd.of e5) hp) (by rw [List.length_map]; omega) (fun _ _ _ _ _ p => p) (fun i v H6 hi e6 Qe q => ?_) fun D3 H6 ys3 hD3 e6 hy3 hyl3 hq6 => ?_
    · refine r_name ⟨rfl, ?_⟩
      obtain ⟨a, kd, rfl, hkd, hK⟩ := parts i v H6 (e5.trans e6) hi
      walk_at "rd"
      refine ⟨a, m, kd, rfl, hK, fun v H7 s7 hv => ?_⟩
      walk_at "rd"
      have Gk := G.good kd (List.mem_of_getElem? hkd)
      refine r_object (E := E0) hv Gk fun x H8 s8 hX => ?_
      have hK8 := hK.sd (Sd.of (s7.trans s8))
      obtain ⟨d1, t1, w1, i1, _⟩ := hK8.ex
      obtain ⟨d2, t2, w2, i2, _⟩ := hX.ex
      refine r_eqG ⟨a, x, d1, d2, _, _, rfl, rfl, i1, i2, m, kd, Gk, hK8, hX⟩ fun H9 s9 => ?_
      exact q _ _ ((s7.trans s8).trans s9) rfl
    have e6 := e5.trans e6
    have tr := trues hq6
    have hy3' : SqL K H6 D3 ((List.replicate ys3.length true).map V.bl) := by rw [← tr]; exact SqL.of hy3
    walk_at "rd"
    refine r_all (bs := List.replicate ys3.length true) hy3' ?_
    rw [all_true]
    refine r_bl (r_iF ?_)
    walk_at "rd"
    have hh6 := Same.seq e6 hh
    refine lcL (P := fun i v _ => ∃ kd, ks[i]? = some kd ∧ v = .str kd.name) way_same (Same.refl _) hh6 (by omega) (fun _ _ _ _ _ p => p) (fun i v H7 hi e7 Qe q => ?_) fun D4 H7 ys4 hD4 e7 hy4 hyl4 hq7 => ?_
    · refine r_name ⟨rfl, ?_⟩
      obtain ⟨d, h1, h2⟩ := DpAll.at_ hus hi
      rw [List.getElem?_map] at h1
      obtain ⟨kd, hkd, rfl⟩ := Option.map_eq_some_iff.mp h1
      obtain ⟨a, vt, vw, rfl, hs4, _, _⟩ := kd_at h2
      walk_at "rd"
      refine r_ixT (Sd.tup (Sd.of (e6.trans e7)) hs4) (v := .str kd.name) (atI_nat (j := 0) rfl) ?_
      exact q _ _ (Same.refl _) ⟨kd, hkd, rfl⟩
    have e7 := e6.trans e7
    have hys := map_read (f := fun kd : KD => V.str kd.name) (by omega) hq7
    rw [show (ks.map fun kd : KD => V.str kd.name) = (ks.map KD.name).map V.str by rw [List.map_map]; rfl] at hys
    subst hys
    walk_at "rd"
    refine ⟨by show 1 ≤ sizeLine; decide, fun z hz => ?_⟩
    walk_at "rd"
    refine ⟨n, z, _, _, rfl, rfl, (e7.trans (Same.upd hz)) _ _ hn, upd_same, ?_, fun y hy => ?_⟩
    · rw [List.length_map]
      exact Nat.le_trans (by simp; omega) line_big
    walk_at "rd"
    have en : ns.map V.str ++ [V.str zz8] = (ns ++ [zz8]).map V.str := by rw [List.map_append]; rfl
    rw [en]
    have e8 := (Same.upd (o := .lst [V.str zz8]) hz).trans (Same.upd (o := .lst ((ns ++ [zz8]).map V.str)) hy)
    have hy8 : upd (upd H7 z (.lst [V.str zz8])) y (.lst ((ns ++ [zz8]).map V.str)) y = some (.lst ((ns ++ [zz8]).map V.str)) := upd_same
    generalize upd (upd H7 z (.lst [V.str zz8])) y (.lst ((ns ++ [zz8]).map V.str)) = H8 at e8 hy8 ⊢
    have ask2 : ∀ s ∈ ns ++ [zz8], Asked s := fun s hs => by
      rcases List.mem_append.mp hs with hs | hs
      · exact ask s hs
      · rw [List.mem_singleton.mp hs]
        exact asked_z
    have hth := e8 _ _ hy4
    have e8 := e7.trans e8
    refine forL (fun j σ' H' => ∃ (o5 o6 : Option V), σ' = [some (.ref c), some (.int m), some (.ref h), some (.ref n), some (.ref D4), o5, o6, none, none] ∧ Same H8 H') (SqL.of hy8) ⟨none, none, rfl, Same.refl _⟩ (fun j σ' H' _ z => ?_) ?_ ?_
    · obtain ⟨_, _, _, z⟩ := z
      exact Same.seq z (SqL.of hy8)
    · rintro j v σ' H9 hv ⟨o5, o6, rfl, s9⟩
      rw [List.getElem?_map] at hv
      obtain ⟨s, hs, rfl⟩ := Option.map_eq_some_iff.mp hv
      have As := ask2 s (List.mem_of_getElem? hs)
      walk_at "rd"
      refine ⟨by show 4 ≤ sizeLine; decide, fun t ht => ?_⟩
      have s10 := Same.upd (o := .tup [V.str "Unknown", V.str s, V.bl true, V.bl false]) ht
      have htu : Dp K (upd H9 t (.tup [V.str "Unknown", V.str s, V.bl true, V.bl false])) (.ref t) (unkD s) := .tup (SqT.of upd_same) (.cons (.str _) (.cons (.str _) (.cons (.bl _) (.cons (.bl _) .nil))))
      generalize upd H9 t (.tup [V.str "Unknown", V.str s, V.bl true, V.bl false]) = H10 at s10 htu ⊢
      have s10 := s9.trans s10
      walk_at "rd"
      refine ⟨fun σ' H' => ∃ (v : V) (d : PyData), σ' = [some (.ref c), some (.int m), some (.ref h), some (.ref n), some (.ref D4), some (.str s), some v, none, none] ∧ Same H8 H' ∧ Dp K H' v d ∧ ((∃ kd ∈ ks, kd.name = s ∧ d = kd.data) ∨ (s ∉ ks.map KD.name ∧ d = unkD s)), ?_, ?_⟩
      · have hth10 := s10 _ _ hth
        walk_at "rd"
        refine r_in (.inl (SqL.of hth10)) ?_
        refine r_bl ?_
        refine r_ifd (fun hin => ?_) (fun hno => ?_)
        · obtain ⟨i, hi⟩ := List.mem_iff_getElem?.mp hin
          have il := (List.getElem?_eq_some_iff.mp hi).1
          have il2 : i < ks.length := by rw [List.length_map] at il; exact il
          have hd : (ks.map KD.data)[i]? = some ks[i].data := by rw [List.getElem?_map, List.getElem?_eq_getElem il2]; rfl
          have hui : us[i]? = some us[i] := List.getElem?_eq_getElem (by omega)
          obtain ⟨d, h1, h2⟩ := DpAll.at_ hus hui
          rw [hd] at h1
          cases h1
          have hnm : ks[i].name = s := by
            rw [List.getElem?_map, List.getElem?_eq_getElem il2] at hi
            cases (show some ks[i].name = some s from hi)
            rfl
          walk_at "rd"
          refine r_tyL hth10 ?_
          walk_at "rd"
          refine ⟨D4, _, .str s, i, .str s, rfl, rfl, SqL.of hth10, rfl, flat_strs, by rw [List.getElem?_map, hi]; rfl, by rw [eqV_str]; exact decide_eq_true rfl, fun b z' hb hz' => ?_, ?_⟩
          · rw [List.getElem?_map] at hz'
            obtain ⟨s', hs', rfl⟩ := Option.map_eq_some_iff.mp hz'
            rw [eqV_str]
            refine decide_eq_false fun e => ?_
            subst e
            obtain ⟨b1, b2⟩ := List.getElem?_eq_some_iff.mp hs'
            obtain ⟨i1, i2⟩ := List.getElem?_eq_some_iff.mp hi
            have := (List.getElem_inj (h₀ := b1) (h₁ := i1) G.nd).mp (b2.trans i2.symm)
            omega
          refine r_ixL (Same.seq (e8.trans s10) hh) (atI_nat hui) ?_
          walk_at "rd"
          exact ⟨us[i], ks[i].data, rfl, s10, Dp.same (e8.trans s10) h2, .inl ⟨ks[i], List.getElem_mem il2, hnm, rfl⟩⟩
        · walk_at "rd"
          exact ⟨.ref t, unkD s, rfl, s10, htu, .inr ⟨hno, rfl⟩⟩
      rintro σ' H11 ⟨v, d, rfl, s11, hvd, hd⟩
      have e11 := e8.trans s11
      have hC11 := hC0.sd (Sd.of e11)
      walk_at "rd"
      refine ⟨c, dx, _, rfl, e11 _ _ hx, c, s, m, ks, rfl, hC11, _, rfl, ?_⟩
      walk_at "rd"
      refine r_in (.inl (SqL.of (s11 _ _ hth))) ?_
      walk_at "rd"
      refine r_same (E := E0) (.bl _) (.bl _) (shw_bool _) ?_
      refine r_bl (r_iF ?_)
      walk_at "rd"
      have fin : ∀ (y : V) (dd : PyData) H12, Same H11 H12 → Dp K H12 y dd → dd = d → Shw dd → Dp K H12 v d ∧ Dp K H12 y d ∧ Shw d := fun y dd H12 s12 hy e hs => by
        subst e
        exact ⟨Dp.same s12 hvd, hy, hs⟩
      refine ⟨c, s, m, ks, rfl, hC11, by omega, As.msg, fun kd hm hn y H12 s12 hy => ?_, fun no y H12 s12 hy => ?_⟩
      · have e : kd.data = d := by
          rcases hd with ⟨kd2, hm2, hn2, rfl⟩ | ⟨no, _⟩
          · rw [nd_inj G.nd hm hm2 (hn.trans hn2.symm)]
          · exact absurd (List.mem_map.mpr ⟨kd, hm, hn⟩) no
        obtain ⟨f1, f2, f3⟩ := fin y _ H12 s12 hy e (shw_kd (G.good kd hm))
        walk_at "rd"
        refine r_same (E := E0) f2 f1 f3 ?_
        refine r_bl (r_iF ?_)
        walk_at "rd"
        exact ⟨_, _, rfl, s11.trans s12⟩
      · have e : unkD s = d := by
          rcases hd with ⟨kd2, hm2, hn2, rfl⟩ | ⟨_, rfl⟩
          · exact absurd (List.mem_map.mpr ⟨kd2, hm2, hn2⟩) no
          · rfl
        obtain ⟨f1, f2, f3⟩ := fin y _ H12 s12 hy e (shw_unk As)
        walk_at "rd"
        refine r_same (E := E0) f2 f1 f3 ?_
        refine r_bl (r_iF ?_)
        walk_at "rd"
        exact ⟨_, _, rfl, s11.trans s12⟩
    rintro σ' H9 ⟨o5, o6, rfl, s9⟩
    walk_at "rd"
    exact k H9 (e8.trans s9)
end
end Tx

/-! ## Pr11 -/
set_option maxHeartbeats 4000000
/-! A side: what is held, and its catalogue. -/
namespace Tx
open PySem PySem.Spec PyProof.Rows L2 Gd
local macro_rules | `(tactic| walk_at "rd1") => `(tactic| first
  | ((with_reducible show tVar _ _ _ _); refine r_var (by rfl) ?_)
  | with_reducible refine r_c ?_
  | with_reducible refine r_seq ?_
  | with_reducible refine r_asg ?_
  | with_reducible refine r_name ?_
  | with_reducible refine r_op ?_
  | with_reducible refine r_I0 ?_
  | with_reducible refine r_cons ?_
  | with_reducible refine r_nil ?_
  | with_reducible refine r_call ?_
  | with_reducible refine r_ret ?_
  | with_reducible refine r_cb ?_
  | with_reducible refine r_ifS ?_
  | with_reducible refine r_test ?_
  | with_reducible refine r_bl ?_
  | with_reducible refine r_dget ?_
  | with_reducible refine r_dput ?_
  | ((with_reducible show (∃ k, [V.int _] = [V.int k] ∧ _) ∨ _); refine Or.inl ⟨_, rfl, ?_⟩)
  | with_reducible refine r_lcR ?_
  | with_reducible refine r_lcL ?_
  | with_reducible refine r_lcT ?_
  | with_reducible refine r_m1 ?_
  | with_reducible refine r_gSub ?_
  | with_reducible refine r_forR ?_
  | with_reducible refine r_forL ?_
  | with_reducible refine r_forT ?_
  | with_reducible refine r_bm ?_
  | with_reducible refine r_next ?_
  | with_reducible refine r_B ?_
  | with_reducible refine r_not ?_
  | with_reducible refine r_and ?_
  | with_reducible refine r_or ?_
  | with_reducible refine r_andV ?_
  | with_reducible refine r_orV ?_
  | with_reducible refine r_notV ?_
  | with_reducible refine r_ifE ?_
  | with_reducible refine r_drop ?_
  | with_reducible refine r_tup ?_
  | with_reducible refine r_lst ?_
  | with_reducible refine r_un ?_
  | with_reducible refine r_U ?_)
local macro_rules | `(tactic| walk_at "rd") => `(tactic| repeat walk_at "rd1")
local macro_rules | `(tactic| walk_at "rd1") => `(tactic| first
  | with_reducible refine r_lcS ?_
  | with_reducible refine r_sl ?_
  | with_reducible refine r_noPart ?_
  | with_reducible refine r_partE ?_
  | with_reducible refine r_sfld ?_
  | with_reducible refine r_gc ?_
  | with_reducible refine r_gn ?_
  | with_reducible refine r_forE ?_
  | with_reducible refine r_makeK ?_
  | with_reducible refine r_make ?_
  | with_reducible refine r_fld ?_
  | with_reducible refine r_prop ?_
  | with_reducible refine r_meth ?_
  | with_reducible refine r_js ?_
  | with_reducible refine r_jn ?_
  | with_reducible refine r_fmt ?_
  | with_reducible refine r_chain ?_)
local macro_rules | `(tactic| walk_at "rd1") => `(tactic| first
  | with_reducible refine r_sfa ?_
  | with_reducible refine r_methR ?_)
local macro_rules | `(tactic| walk_at "rd1") => `(tactic| first
  | with_reducible refine r_sErr ?_)
theorem r_makeXD {C : Addr} {sp : Sp} {dvs : List V} {E : L2.St → XK} {t : TA} {σ : L2.St} {H : Hp} {Q : VK} (h : t σ H fun vs H1 => ∀ x dx, H1 x = none → H1 dx = none → dx ≠ x → sp (.ref x :: (vs ++ dvs)) (upd (upd H1 dx (.own x)) x (.ins C dx [])) (fun v H2 => v = .non ∧ Q (.ref x) H2) (E σ)) :
    tMakeXD C sp dvs E t σ H Q := h
local macro_rules | `(tactic| walk_at "rd1") => `(tactic| first
  | with_reducible refine r_star ?_
  | with_reducible refine r_callS ?_
  | with_reducible refine r_makeX ?_
  | with_reducible refine r_makeXD ?_
  | with_reducible refine r_xf ?_
  | with_reducible refine r_ixO ?_
  | with_reducible refine r_addO ?_)
section
variable {P : Program} {w : World} {K : Frg} {mg : Str → Option Value} {base : Heap}
theorem k_mk1_Catalogue {X : Cx} {n : Nat} {E : L2.St → XK} {p pos : Pos} {e : Expr} {es : List Expr} {t : TA} (T : Txt P K mg) (hr : Room n X.A) (hx : ∀ σ, PassesAt (L2.CX X.prog X.w) X σ (E σ)) (ha : PA X (e :: es) t) (eq : X.prog = P ∧ X.K = K ∧ X.mg = mg := by exact ⟨rfl, rfl, rfl⟩) (hk : 4 ≤ n := by decide) (hg : Gl X "Catalogue" := by rfl)
    (he : starEach (e :: es) X.env = (false, eval e X.env) :: starEach es X.env := by rfl) (hpl : (backTo pos (starEach es X.env)).any (·.1) = false := by rfl) :
    PE X (.Call (.Name "Catalogue" p) (e :: es) [] pos) (tMakeXD (He.ga K "Catalogue") (spCat K) (d_Catalogue_init.dvs K) E t) := by
  obtain ⟨rfl, rfl, rfl⟩ := eq
  obtain ⟨fd, ds, F, hv, b⟩ := ok0_Catalogue_init (w := X.w) (base := X.base) T
  exact pmkXD T.k_Catalogue F b hv hr hg T.g_Catalogue hx ha hk (by decide) he hpl
/-- a catalogue of no kinds -/
theorem no_kinds (T : Txt P K mg) (H : Hp) : SqT K H (He.dflAt ("Catalogue", some "__init__") 0 K) [] := emB_ok T.x_em H
theorem dvs_cat : d_Catalogue_init.dvs K = [.ref (He.dflAt ("Catalogue", some "__init__") 0 K)] := rfl
end
theorem due_of (m : Int) (hm : Mm m) (rows : Row) : dueOf (.int m) rows = dueRow m rows := by
  have : (2 : Int) ≤ m ∧ m ≤ 3 := by rcases hm with rfl | rfl <;> decide
  unfold dueOf
  simp only [if_pos this]
/-- what stands when nothing is due -/
theorem due_ok {m : Int} {rows : Row} (h : dueRow m rows = .ok) : rows.length ≤ 8 ∧ (∀ r ∈ rows, r.1 = m) ∧ (rowNames rows).Nodup := by
  unfold dueRow at h
  by_cases h8 : 8 < rows.length
  · rw [if_pos h8] at h; cases h
  rw [if_neg h8] at h
  cases hu : firstAt (unl m rows) rows.length with
  | some a => rw [hu] at h; cases h
  | none =>
    rw [hu] at h
    cases ht : firstAt (twi (rowNames rows)) rows.length with
    | some a => simp only [ht] at h; cases h
    | none =>
      refine ⟨by omega, fun r hr => ?_, ?_⟩
      · obtain ⟨i, hi⟩ := List.mem_iff_getElem?.mp hr
        have z := firstAt_all hu (List.getElem?_eq_some_iff.mp hi).1
        unfold unl at z
        rw [hi] at z
        by_cases e : r.1 = m
        · exact e
        · simp only [if_neg e] at z; cases z
      · refine List.pairwise_iff_getElem.mpr fun i j hi hj hij e => ?_
        have hl : (rowNames rows).length = rows.length := List.length_map _
        have z := firstAt_all ht (by omega : j < rows.length)
        unfold twi at z
        rw [List.getElem?_eq_getElem hj] at z
        have hm : (rowNames rows)[j] ∈ (rowNames rows).take j := by
          refine List.mem_iff_getElem?.mpr ⟨i, ?_⟩
          rw [List.getElem?_take_of_lt hij, List.getElem?_eq_getElem hi, e]
        simp only [if_pos hm] at z
        cases z
/-- good kinds that are no more than eight, of these signs, each name once -/
theorem dueRow_ok {m : Int} {ks : List KD} (l8 : ks.length ≤ 8) (nd : (ks.map KD.name).Nodup) : dueRow m (ks.map (Prod.mk m)) = .ok := by
  have hl : (ks.map (Prod.mk m)).length = ks.length := List.length_map _
  have hn : rowNames (ks.map (Prod.mk m)) = ks.map KD.name := by unfold rowNames; rw [List.map_map]; rfl
  have h1 : ∀ n, firstAt (unl m (ks.map (Prod.mk m))) n = none := by
    intro n
    induction n with
    | zero => rfl
    | succ n ih =>
      refine firstAt_none ih ?_
      unfold unl
      rw [List.getElem?_map]
      cases ks[n]? with
      | none => rfl
      | some k => exact if_pos rfl
  have h2 : ∀ n, firstAt (twi (ks.map KD.name)) n = none := by
    intro n
    induction n with
    | zero => rfl
    | succ n ih =>
      refine firstAt_none ih ?_
      unfold twi
      cases q : (ks.map KD.name)[n]? with
      | none => rfl
      | some s =>
        refine if_neg fun hm => ?_
        obtain ⟨i, hi⟩ := List.mem_iff_getElem?.mp hm
        have il : i < n := by
          have := (List.getElem?_eq_some_iff.mp hi).1
          rw [List.length_take] at this
          omega
        rw [List.getElem?_take_of_lt il] at hi
        obtain ⟨b1, b2⟩ := List.getElem?_eq_some_iff.mp hi
        obtain ⟨i1, i2⟩ := List.getElem?_eq_some_iff.mp q
        have := (List.getElem_inj (h₀ := b1) (h₁ := i1) nd).mp (b2.trans i2.symm)
        omega
  unfold dueRow
  rw [hl, if_neg (by omega), h1, hn]
  simp only [h2]
theorem GoodT.more {m : Int} {ks : List KD} {k : KD} (G : GoodT m ks) (Gk : GoodK m k) (nd : (rowNames (ks.map (Prod.mk m) ++ [(m, k)])).Nodup) : GoodT m (ks ++ [k]) := by
  refine ⟨G.m_, fun x hx => ?_, ?_⟩
  · rcases List.mem_append.mp hx with hx | hx
    · exact G.good x hx
    · rw [List.mem_singleton.mp hx]
      exact Gk
  · have e : rowNames (ks.map (Prod.mk m) ++ [(m, k)]) = (ks ++ [k]).map KD.name := by
      unfold rowNames
      rw [List.map_append, List.map_append, List.map_map]
      rfl
    rw [← e]
    exact nd
theorem pick_list {α : Type} : ∀ {ys : List V} {A : Nat → V → α → Prop}, (∀ (i : Nat) y, ys[i]? = some y → ∃ a, A i y a) → ∃ as : List α, as.length = ys.length ∧ ∀ (i : Nat) y a, ys[i]? = some y → as[i]? = some a → A i y a
  | [], _, _ => ⟨[], rfl, fun i y a h => by simp at h⟩
  | y :: r, A, h => by
    obtain ⟨a, ha⟩ := h 0 y rfl
    obtain ⟨as, e, hs⟩ := pick_list (ys := r) (A := fun i => A (i + 1)) fun i z hz => h (i + 1) z (by simpa using hz)
    refine ⟨a :: as, by simp [e], fun i z b hz hb => ?_⟩
    cases i with
    | zero =>
      cases (show some y = some z from hz)
      cases (show some a = some b from hb)
      exact ha
    | succ i => exact hs i z b (by simpa using hz) (by simpa using hb)
/-! ### the dict -/
abbrev kHe : Key := .inr "held"
abbrev kMa : Key := .inr "made"
theorem n_sh : kSg ≠ kHe := by decide +kernel
theorem n_sma : kSg ≠ kMa := by decide +kernel
theorem n_hm : kHe ≠ kMa := by decide +kernel
theorem s_sh : ¬ Str.ofString "signs" = Str.ofString "held" := by decide +kernel
theorem s_sm : ¬ Str.ofString "signs" = Str.ofString "made" := by decide +kernel
theorem s_hm : ¬ Str.ofString "held" = Str.ofString "made" := by decide +kernel
theorem s_hs : ¬ Str.ofString "held" = Str.ofString "signs" := by decide +kernel
theorem s_ms : ¬ Str.ofString "made" = Str.ofString "signs" := by decide +kernel
theorem s_mh : ¬ Str.ofString "made" = Str.ofString "held" := by decide +kernel
def sideL (m : Int) (l c : Addr) : List (Key × V) := [(kSg, .int m), (kHe, .ref l), (kMa, .ref c)]
section
variable {m : Int} {l c : Addr}
theorem side_merge : mergeK [] (sideL m l c) = sideL m l c := by simp [mergeK, sideL, putK, s_sh, s_sm, s_hm, s_hs, s_ms, s_mh]
theorem side_put {c' : Addr} : putK (sideL m l c) kMa (.ref c') = sideL m l c' := by simp [sideL, putK, s_sh, s_sm, s_hm, s_hs, s_ms, s_mh]
theorem side_sg : valV (sideL m l c) kSg = some (.int m) := by unfold sideL; rw [valV_cons, if_pos rfl]
theorem side_he : valV (sideL m l c) kHe = some (.ref l) := by unfold sideL; rw [valV_cons, if_neg n_sh, valV_cons, if_pos rfl]
theorem side_ma : valV (sideL m l c) kMa = some (.ref c) := by unfold sideL; rw [valV_cons, if_neg n_sma, valV_cons, if_neg n_hm, valV_cons, if_pos rfl]
end
/-- a side stands there -/
structure SideAt (K : Frg) (H : Hp) (b l : Addr) (m : Int) (ks : List KD) : Prop where
  ex : ∃ (us : List V) (c : Addr), H b = some (.dK (sideL m l c)) ∧ H l = some (.lst us) ∧ DpAll K H us (ks.map KD.data) ∧ CatAt K H c m ks
section
variable {K : Frg} {H H' : Hp} {b l : Addr} {m : Int} {ks : List KD} {β : Bag}
theorem SideAt.nb (h : SideAt K H b l m ks) (B : BagAt K β H) : b ≠ β.b := by
  rintro rfl
  obtain ⟨us, c, hb, _⟩ := h.ex
  obtain ⟨a, r, x, n, e, _⟩ := B.ex
  rw [hb] at e
  have := congrArg (fun o : Option HO => match o with | some (.dK l) => l.length | _ => 0) e
  exact absurd this (by show ¬ (3 = 5); decide)
theorem SideAt.bg (h : SideAt K H b l m ks) (e : Bg K β H H') : SideAt K H' b l m ks := by
  obtain ⟨us, c, hb, hl, hus, hC⟩ := h.ex
  exact ⟨us, c, e.keep _ _ (h.nb e.old) hb, way_bag.lst e hl, DpAll.sd (way_bag.sd e) _ _ (flat_kds ks) hus, hC.sd (way_bag.sd e)⟩
theorem SideAt.same (h : SideAt K H b l m ks) (e : Same H H') : SideAt K H' b l m ks := by
  obtain ⟨us, c, hb, hl, hus, hC⟩ := h.ex
  exact ⟨us, c, e _ _ hb, e _ _ hl, DpAll.sd (Sd.of e) _ _ (flat_kds ks) hus, hC.sd (Sd.of e)⟩
end
theorem depth_all {n : Nat} : ∀ {ds : List PyData}, (∀ d ∈ ds, PyData.depth d ≤ n) → PyData.depthAll ds ≤ n
  | [], _ => by simp [PyData.depthAll]
  | d :: r, h => by
    have := depth_all (ds := r) fun x hx => h x (List.mem_cons_of_mem _ hx)
    have := h d (List.mem_cons_self ..)
    simp only [PyData.depthAll]
    omega
theorem lay_all : ∀ {ds : List PyData}, (∀ d ∈ ds, PyData.canLay0 d = true) → PyData.canLayAll0 ds = true
  | [], _ => by simp [PyData.canLayAll0]
  | d :: r, h => by
    have h1 := lay_all (ds := r) fun x hx => h x (List.mem_cons_of_mem _ hx)
    have h2 := h d (List.mem_cons_self ..)
    simp [PyData.canLayAll0, h1, h2]
theorem lay_kd {m : Int} {k : KD} (G : GoodK m k) : PyData.canLay0 k.data = true := by
  have h1 := low_ok G.name.low
  have h2 : PyData.canLay0 (intsD k.table) = true := by simp [intsD, PyData.canLay0, lay_ints]
  have h3 : PyData.canLay0 (startD k.start) = true := by cases k.start <;> rfl
  have h4 : PyData.canLay0 (waysD k.ways) = true := by simp [waysD, PyData.canLay0, lay_wds G.ways]
  simp [KD.data, PyData.canLay0, PyData.canLayAll0] at h1 h2 h3 h4 ⊢
  exact ⟨h1, h2, h3, h4⟩
theorem depth_kd (k : KD) : PyData.depth k.data ≤ 5 := by
  have h1 : PyData.depth (startD k.start) ≤ 1 := by cases k.start <;> simp [startD, PyData.depth]
  have h2 := depth_wds k.ways
  have h3 := depth_ints k.table
  simp only [KD.data, PyData.depth, PyData.depthAll, waysD, intsD]
  omega
theorem shaped_kinds {m : Int} {ks : List KD} (G : ∀ k ∈ ks, GoodK m k) : SeqAt.shaped (.list (ks.map KD.data)) = true := by
  have h1 : PyData.canLay0 (.list (ks.map KD.data)) = true := by
    simp only [PyData.canLay0]
    refine lay_all fun d hd => ?_
    obtain ⟨k, hk, rfl⟩ := List.mem_map.mp hd
    exact lay_kd (G k hk)
  have h2 : PyData.depth (.list (ks.map KD.data)) ≤ 64 := by
    have : PyData.depthAll (ks.map KD.data) ≤ 5 := depth_all fun d hd => by
      obtain ⟨k, hk, rfl⟩ := List.mem_map.mp hd
      exact depth_kd k
    simp only [PyData.depth]
    omega
  unfold SeqAt.shaped
  rw [h1, decide_eq_true h2]
  rfl
theorem shaped_nil : SeqAt.shaped (.list []) = true := by decide
theorem eqv_nil {ds : List PyData} : PyData.eqv (.list ds) (.list []) = decide (ds.length = 0) := by
  cases ds with
  | nil => simp [PyData.eqv, PyData.eqvAll]
  | cons d r => simp [PyData.eqv, PyData.eqvAll]
section
variable {P : Program} {K : Frg} {mg : Str → Option Value} {H : Hp} {R : Hp → Prop} {E : XK} {x dx p : Addr} {m : Int} {ks : List KD} {as : List Addr}
/-- a catalogue of good kinds is made -/
theorem r_catV {y : V} (hm : Mm m) (nx : H x = none) (nd : H dx = none) (ne : dx ≠ x) (ey : y = .ref p) (hp : SqL K H p (as.map V.ref) ∨ SqT K H p (as.map V.ref)) (hk : KindsAt K H as m ks) (G : GoodT m ks) (l8 : ks.length ≤ 8) (h : ∀ H', Same H H' → CatAt K H' x m ks → R H') :
    spCat K (.ref x :: ([.int m, y] ++ [])) (upd (upd H dx (.own x)) x (.ins (He.ga K "Catalogue") dx [])) (fun v H2 => v = .non ∧ R H2) E := by
  subst ey
  have s1 : Same H (upd (upd H dx (.own x)) x (.ins (He.ga K "Catalogue") dx [])) := (Same.upd nd).trans (Same.upd (by rw [upd_ne (Ne.symm ne)]; exact nx))
  have e : (ks.map (Prod.mk m)).map Prod.snd = ks := by rw [List.map_map]; simp [Function.comp_def]
  refine ⟨x, dx, p, .int m, as, ks.map (Prod.mk m), rfl, upd_same, ?_, ⟨by rw [List.length_map, hk.len], fun i a r h1 h2 => ?_⟩, fun r hr' => ?_, by rw [List.length_map]; omega, .inl ⟨m, rfl⟩, fun hmem => ?_, fun m' em due H6 td cat => ⟨rfl, ?_⟩, fun C f v ee H' d ss hd => ?_⟩
  · rcases hp with z | z
    · exact .inl (Same.seq s1 z)
    · exact .inr (Sd.tup (Sd.of s1) z)
  · rw [List.getElem?_map] at h2
    obtain ⟨kd, h3, rfl⟩ := Option.map_eq_some_iff.mp h2
    exact (hk.at_ i a kd h1 h3).sd (Sd.of s1)
  · obtain ⟨kd, hkd, rfl⟩ := List.mem_map.mp hr'
    exact G.good kd hkd
  · obtain ⟨i, hi⟩ := List.mem_iff_getElem?.mp hmem
    have il := (List.getElem?_eq_some_iff.mp hi).1
    obtain ⟨d1, t1, w1, i1, _⟩ := (hk.at_ i x _ hi (List.getElem?_eq_getElem (by rw [← hk.len]; exact il))).ex
    rw [nx] at i1
    cases i1
  · cases em
    rw [e] at cat
    exact h _ (Td.made nx nd td) cat
  · rw [due_of m hm, dueRow_ok l8 G.nd] at ee
    cases ee
theorem r_cat0 (T : Txt P K mg) (hm : Mm m) (nx : H x = none) (nd : H dx = none) (ne : dx ≠ x) (h : ∀ H', Same H H' → CatAt K H' x m [] → R H') :
    spCat K (.ref x :: ([.int m] ++ d_Catalogue_init.dvs K)) (upd (upd H dx (.own x)) x (.ins (He.ga K "Catalogue") dx [])) (fun v H2 => v = .non ∧ R H2) E :=
  r_catV (as := []) (ks := []) hm nx nd ne rfl (.inr (no_kinds T H)) ⟨rfl, fun i a k h1 => by simp at h1⟩ ⟨hm, fun _ h => (by cases h), List.Pairwise.nil⟩ (Nat.zero_le _) h
end
def spSide (K : Frg) : Sp := spDraw K (fun (x : Int × Addr × List Str) ws H => ws = [.int x.1, .ref x.2.1] ∧ Mm x.1 ∧ SqL K H x.2.1 (x.2.2.map V.str) ∧ (∀ s ∈ x.2.2, GoodN s) ∧ x.2.2.Nodup ∧ x.2.2.length ≤ 1000)
  fun x H v H' => ∃ (b l : Addr) (ks : List KD), v = .ref b ∧ H b = none ∧ H l = none ∧ SideAt K H' b l x.1 ks ∧ GoodT x.1 ks ∧ ks.length ≤ 8
theorem r_side {K : Frg} {β : Bag} {H : Hp} {Q : VK} {E : XK} {m : Int} {n : Addr} {ns : List Str} (B : BagAt K β H) (hm : Mm m) (hn : SqL K H n (ns.map V.str)) (g : ∀ s ∈ ns, GoodN s) (nd : ns.Nodup) (l1 : ns.length ≤ 1000)
    (h : ∀ (b l : Addr) (ks : List KD) H', Bg K β H H' → H b = none → H l = none → SideAt K H' b l m ks → GoodT m ks → ks.length ≤ 8 → Q (.ref b) H') : spSide K ([.ref β.b, .int m, .ref n] ++ []) H Q E :=
  ⟨β, (m, n, ns), _, rfl, B, ⟨rfl, hm, hn, g, nd, l1⟩, by rintro v H' e ⟨b, l, ks, rfl, z1, z2, S, G, l8⟩; exact h b l ks H' e z1 z2 S G l8⟩
section
variable {P : Program} {w : World} {K : Frg} {mg : Str → Option Value} {base : Heap}
theorem sc_law_side_of : FnScope ["_law_bag", "_law_signs", "_law_names", "_law_held", "_law_things", "_law_made", "_law_name", "_law_kind"] ["_law_bag", "_law_signs", "_law_names"] (defScope s_law_side_of) := ⟨rfl, rfl, rfl, by decide +kernel, rfl, by decide +kernel, by decide +kernel⟩
theorem ok_law_side_of (T : Txt P K mg) : Ok P w K mg base 8 (He.ga K "_law_side_of") ["_law_bag", "_law_signs", "_law_names"] (spSide K) := by
  obtain ⟨fd, F⟩ := T.F_law_side_of
  have b : Binds K fd ["_law_bag", "_law_signs", "_law_names"] [] := F.bindsN fun _ _ _ _ _ _ us hl => match us, hl with | [_, _, _], _ => rfl
  refine ok_of F b sc_law_side_of (fun vs H Q E h => ?_) (fun cdv A outer s H vs Q E hr h => ?_)
  · obtain ⟨β, x, ws, rfl, _, ⟨rfl, _⟩, _⟩ := h
    rfl
  · obtain ⟨β, ⟨m, n, ns⟩, ws, rfl, B, ⟨rfl, hm, hn, gn, nd, l1⟩, k⟩ := h
    dsimp only at hm hn gn nd l1 k ⊢
    refine ⟨_, (pss_cons (ps_setLc (i := 3) (own := [("_law_name", 6)]) rfl sc_law_side_of.nd rfl rfl (sw_true rfl rfl rfl (by decide +kernel)) (pi_list (pe_slice sl_list (pv 2) po_none (po_some (pk (ok_law_choice T) hr rfl T.g_law_choice (pa_cons (pv 0) (pa_cons (pe_lst (pa_cons pe_int (pa_cons pe_int (pa_cons pe_int (pa_cons pe_int pa_nil))))) pa_nil)))))) (blkOk_by (own := [("_law_name", 6)]) (N := ["_law_bag", "_law_signs", "_law_names", "_law_held", "_law_things", "_law_made", "_law_name", "_law_kind"]) (sc := defScope s_law_side_of) (by decide +kernel)) (fun _ _ _ _ _ => (pg_name (i := 6) sc_law_side_of.nd rfl (Or.inl rfl))) (fun _ _ _ _ _ => pts_nil) (fun _ _ _ _ _ => (pk (ok_law_new T) hr rfl T.g_law_new (pa_cons (pv 0) (pa_cons (pv 1) (pa_cons (pv 6) pa_nil))))))
  (pss_cons (ps_setLc (i := 4) (own := [("_law_kind", 7)]) rfl sc_law_side_of.nd rfl rfl (sw_true rfl rfl rfl (by decide +kernel)) (pi_list (pv 3)) (blkOk_by (own := [("_law_kind", 7)]) (N := ["_law_bag", "_law_signs", "_law_names", "_law_held", "_law_things", "_law_made", "_law_name", "_law_kind"]) (sc := defScope s_law_side_of) (by decide +kernel)) (fun _ _ _ _ _ => (pg_name (i := 7) sc_law_side_of.nd rfl (Or.inl rfl))) (fun _ _ _ _ _ => pts_nil) (fun _ _ _ _ _ => (pk (ok_law_object T) hr rfl T.g_law_object (pa_cons (pv 1) (pa_cons (pv 7) pa_nil)))))
  (pss_cons (ps_set (i := 5) sc_law_side_of.nd rfl (Or.inl rfl) (k_mk_Catalogue T hr (fun σ => passAt takes_none5 σ) (pa_cons (pv 1) (pa_cons (pv 4) pa_nil))))
  (pss_cons (ps_expr (pe_bm PySem.F.plainAttrs_list PySem.F.slot_list_append PySem.F.type_list_append mt_append (pv 4) (pa_cons pe_non pa_nil)))
  (Evl.pss_cut (ps_if (PW.pt (pw_and (pt_cmpR (op_eqD hr.units) (pv 3) (pe_lst pa_nil) (by first | exact nomark _ | rfl)) (pw_and1 (pt_val (pk (ok_law_one_in T) hr rfl T.g_law_one_in (pa_cons (pv 0) (pa_cons pe_int pa_nil))))))) (pss_one (ps_set (i := 5) sc_law_side_of.nd rfl (Or.inl rfl) (k_mk1_Catalogue T hr (fun σ => passAt takes_none5 σ) (pa_cons (pv 1) pa_nil)))) pss_nil)
  (pss_one (ps_ret (pe_disp (pps_cons pe_str (pv 1) (pps_cons pe_str (pv 3) (pps_cons pe_str (pv 5) pps_nil))) (by rfl) (by rfl) (fun z => by cases z) (by decide))))))))), ?_⟩
    walk_at "rd"
    refine ⟨by show 4 ≤ sizeLine; decide, fun p hp => ?_⟩
    have e0 : Bg K β H (upd H p (.lst [V.int 0, V.int 0, V.int 1, V.int 7])) := Bg.new B hp
    have hp2 : SqL K (upd H p (.lst [V.int 0, V.int 0, V.int 1, V.int 7])) p [V.int 0, V.int 0, V.int 1, V.int 7] := SqL.of upd_same
    generalize upd H p (.lst [V.int 0, V.int 0, V.int 1, V.int 7]) = H1 at e0 hp2 ⊢
    walk_at "rd"
    refine r_choice e0.bag hp2 (by decide) (by decide) fun j pv H2 hpv e2 => ?_
    obtain ⟨c, rfl, c0, c7⟩ : ∃ c : Nat, pv = .int (c : Int) ∧ 0 ≤ c ∧ c ≤ 7 := by
      have := List.mem_of_getElem? hpv
      simp only [List.mem_cons, List.not_mem_nil, or_false] at this
      rcases this with rfl | rfl | rfl | rfl <;> first | exact ⟨0, rfl, by decide, by decide⟩ | exact ⟨1, rfl, by decide, by decide⟩ | exact ⟨7, rfl, by decide, by decide⟩
    have e2 := e0.trans e2
    refine ⟨_, rfl, r_slL (way_bag.seq e2 hn) fun q hq => ?_⟩
    have ec : cutV (ns.map V.str) none (some (c : Int)) = (ns.take c).map V.str := by
      unfold cutV
      rw [HT.sIx_none, HT.sIx_nat, List.length_map (f := V.str)]
      rw [Nat.sub_zero, List.drop_zero, ← List.map_take]
      congr 1
      rw [List.take_eq_take_iff]
      omega
    rw [ec]
    have e3 := e2.trans (Bg.new (o := .lst ((ns.take c).map V.str)) e2.bag hq)
    have hq3 : SqL K (upd H2 q (.lst ((ns.take c).map V.str))) q ((ns.take c).map V.str) := SqL.of upd_same
    generalize upd H2 q (.lst ((ns.take c).map V.str)) = H3 at e3 hq3 ⊢
    have lt : (ns.take c).length ≤ 7 := by rw [List.length_take]; omega
    refine lcL (P := fun i v H' => ∃ kd : KD, Dp K H' v kd.data ∧ GoodK m kd ∧ (ns.take c)[i]? = some kd.name) way_bag (Bg.refl e3.bag) hq3 (by rw [List.length_map]; omega) (fun i v A B e ⟨kd, h1, h2⟩ => ⟨kd, Dp.sd e _ _ (flat_kd kd) h1, h2⟩) (fun i v H4 hi e4 Qe qq => ?_) fun D H4 ys hD e4 hy hyl hqs => ?_
    · refine r_name ⟨rfl, ?_⟩
      rw [List.getElem?_map] at hi
      obtain ⟨s, hs, rfl⟩ := Option.map_eq_some_iff.mp hi
      walk_at "rd"
      refine r_new (E := E0) e4.bag hm (gn s (List.mem_of_mem_take (List.mem_of_getElem? hs))) fun v kd H5 e5 hv Gk hname => ?_
      exact qq _ _ e5 ⟨kd, hv, Gk, by rw [hs, hname]⟩
    rw [List.length_map] at hyl
    have e4 := e3.trans e4
    have hyl : ys.length = (ns.take c).length := hyl
    obtain ⟨ks, kl, hks⟩ := pick_list (A := fun i v kd => Dp K H4 v kd.data ∧ GoodK m kd ∧ (ns.take c)[i]? = some kd.name) hqs
    have kn : ks.map KD.name = ns.take c := by
      refine List.ext_getElem? fun i => ?_
      by_cases hi : i < ks.length
      · rw [List.getElem?_map, List.getElem?_eq_getElem hi, (hks i _ _ (List.getElem?_eq_getElem (by omega)) (List.getElem?_eq_getElem hi)).2.2]
        rfl
      · rw [List.getElem?_eq_none (by rw [List.length_map]; omega), List.getElem?_eq_none (by omega)]
    have G : GoodT m ks := ⟨hm, fun k hk => by
      obtain ⟨i, hi⟩ := List.mem_iff_getElem?.mp hk
      have il := (List.getElem?_eq_some_iff.mp hi).1
      exact (hks i _ k (List.getElem?_eq_getElem (by omega)) hi).2.1, by rw [kn]; exact nd.sublist (List.take_sublist _ _)⟩
    have hus : DpAll K H4 ys (ks.map KD.data) := DpAll.of_at (by rw [List.length_map]; omega) fun i v d hv hd => by
      rw [List.getElem?_map] at hd
      obtain ⟨k, hk, rfl⟩ := Option.map_eq_some_iff.mp hd
      exact (hks i v k hv hk).1
    have k7 : ks.length ≤ 7 := by omega
    walk_at "rd"
    refine lcL (P := fun i v H' => ∃ (a : Addr) (kd : KD), v = .ref a ∧ ks[i]? = some kd ∧ KindAt K H' a m kd) way_same (Same.refl _) (SqL.of hy) (by omega) (fun i v A B e ⟨a, kd, h1, h2, h3⟩ => ⟨a, kd, h1, h2, h3.sd e⟩) (fun i v H5 hi e5 Qe qq => ?_) fun D2 H5 zs hD2 e5 hz hzl hzs => ?_
    · refine r_name ⟨rfl, ?_⟩
      obtain ⟨d, h1, h2⟩ := DpAll.at_ hus hi
      rw [List.getElem?_map] at h1
      obtain ⟨kd, hkd, rfl⟩ := Option.map_eq_some_iff.mp h1
      walk_at "rd"
      refine r_object (E := E0) (Dp.same e5 h2) (G.good kd (List.mem_of_getElem? hkd)) fun x H6 s6 hX => ?_
      exact qq _ _ s6 ⟨x, kd, rfl, hkd, hX⟩
    obtain ⟨as, rfl, has⟩ := refs_read (P := fun i a => ∃ kd, ks[i]? = some kd ∧ KindAt K H5 a m kd) fun i y hyi => by
      obtain ⟨a, kd, h1, h2, h3⟩ := hzs i y hyi
      exact ⟨a, h1, kd, h2, h3⟩
    rw [List.length_map] at hzl
    have hKs : KindsAt K H5 as m ks := ⟨by omega, fun i a r h1 h2 => by
      obtain ⟨kd, h3, h4⟩ := has i a h1
      rw [h3] at h2
      cases (show some kd = some r from h2)
      exact h4⟩
    have hD4 : H5 D = some (.lst ys) := e5 _ _ hy
    have nDD : D ≠ D2 := ne_of_none hy hD2
    have hD20 := e4.none hD2
    have f5 := e4.trans (Bg.same e4.bag e5)
    walk_at "rd"
    intro x dx nx nd' ne
    refine r_catV hm nx nd' ne rfl (.inl (SqL.of hz)) hKs G (by omega) fun H6 s2 cat => ?_
    have hz6 := s2 _ _ hz
    have hD6 := s2 _ _ hD4
    have e6 := f5.trans (Bg.same f5.bag s2)
    have hus6 := DpAll.sd (Sd.of (e5.trans s2)) _ _ (flat_kds ks) hus
    walk_at "rd"
    refine r_tyL hz6 ?_
    walk_at "rd"
    refine r_append hz6 (by rw [List.length_map]; omega) ?_
    walk_at "rd"
    have e7 : Bg K β H (upd H6 D2 (.lst (as.map V.ref ++ [V.non]))) := e6.mut hD20
    have sd7 : Sd H6 (upd H6 D2 (.lst (as.map V.ref ++ [V.non]))) := Sd.lst hz6
    have hus7 := DpAll.sd sd7 _ _ (flat_kds ks) hus6
    have cat7 := cat.sd sd7
    have hD7 : upd H6 D2 (.lst (as.map V.ref ++ [V.non])) D = some (.lst ys) := by rw [upd_ne nDD]; exact hD6
    generalize upd H6 D2 (.lst (as.map V.ref ++ [V.non])) = H7 at e7 hus7 cat7 hD7 ⊢
    have dnD : H D = none := e3.none hD
    clear hz hz6 hD4 hD6 cat s2 hKs has nx nd' ne hy hD2 hD20 e6 sd7
    refine ⟨fun σ' H' => ∃ c : Addr, σ' = [some (.ref β.b), some (.int m), some (.ref n), some (.ref D), some (.ref D2), some (.ref c), none, none] ∧ Bg K β H H' ∧ CatAt K H' c m ks ∧ H' D = some (.lst ys) ∧ DpAll K H' ys (ks.map KD.data), ?_, ?_⟩
    · walk_at "rd"
      refine ⟨by show 0 ≤ sizeLine; decide, fun z hz => ?_⟩
      walk_at "rd"
      have s8 := Same.upd (o := .lst ([] : List V)) hz
      have hz8 : Dp K (upd H7 z (.lst ([] : List V))) (.ref z) (.list []) := .lst (SqL.of upd_same) .nil
      generalize upd H7 z (.lst ([] : List V)) = H8 at s8 hz8 ⊢
      have e8 := e7.trans (Bg.same e7.bag s8)
      have hD8 := s8 _ _ hD7
      have hus8 := DpAll.sd (Sd.of s8) _ _ (flat_kds ks) hus7
      have cat8 := cat7.sd (Sd.of s8)
      refine r_eqD (.lst (SqL.of hD8) hus8) hz8 (shaped_kinds G.good) shaped_nil ?_
      rw [eqv_nil, List.length_map]
      refine r_bl ?_
      refine r_ifd (fun h0 => ?_) (fun _ => ?_)
      · have ke : ks = [] := List.length_eq_zero_iff.mp h0
        walk_at "rd"
        refine r_one e8.bag (by decide) (by decide) fun b H9 e9 => ?_
        have e10 := e8.trans e9
        have hD9 := way_bag.lst e9 hD8
        have hus9 := DpAll.sd (way_bag.sd e9) _ _ (flat_kds ks) hus8
        have cat9 := cat8.sd (way_bag.sd e9)
        cases b with
        | false =>
          refine r_bl (r_iF ?_)
          walk_at "rd"
          exact ⟨x, rfl, e10, cat9, hD9, hus9⟩
        | true =>
          refine r_bl (r_iT ?_)
          walk_at "rd"
          intro y dy ny nd' ne
          refine r_cat0 T hm ny nd' ne fun H6 s2 cat => ?_
          have cat' : CatAt K H6 y m ks := by rw [ke]; exact cat
          exact ⟨y, rfl, e10.trans (Bg.same e10.bag s2), cat', s2 _ _ hD9, DpAll.sd (Sd.of s2) _ _ (flat_kds ks) hus9⟩
      · walk_at "rd"
        exact ⟨x, rfl, e8, cat8, hD8, hus8⟩
    rintro σ' H8 ⟨c', rfl, e8, cat8, hD8, hus8⟩
    walk_at "rd"
    refine r_dict fun b nb => ?_
    refine r_pc ?_
    walk_at "rd"
    refine r_pc ?_
    walk_at "rd"
    refine r_pc ?_
    walk_at "rd"
    refine r_pn ?_
    have nDb : D ≠ b := ne_of_none hD8 nb
    refine ⟨upd_same, sideL m D c', rfl, by show 3 ≤ 15; decide, ?_⟩
    rw [side_merge]
    have nb0 := e8.none nb
    have e9 : Bg K β H (upd (upd H8 b (.dK [])) b (.dK (sideL m D c'))) := (e8.mut nb0).mut nb0
    have s9 : Same H8 (upd (upd H8 b (.dK [])) b (.dK (sideL m D c'))) := fun a o h => by
      have := ne_of_none h nb
      rw [upd_ne this, upd_ne this]
      exact h
    exact k _ _ e9 ⟨b, D, ks, rfl, nb0, dnD, ⟨ys, c', upd_same, s9 _ _ hD8, DpAll.sd (Sd.of s9) _ _ (flat_kds ks) hus8, cat8.sd (Sd.of s9)⟩, G, by omega⟩
end
end Tx

/-! ## Pr12 -/
set_option maxHeartbeats 4000000
/-! A turn: one kind more. -/
namespace Tx
open PySem PySem.Spec PyProof.Rows L2 Gd
local macro_rules | `(tactic| walk_at "rd1") => `(tactic| first
  | ((with_reducible show tVar _ _ _ _); refine r_var (by rfl) ?_)
  | with_reducible refine r_c ?_
  | with_reducible refine r_seq ?_
  | with_reducible refine r_asg ?_
  | with_reducible refine r_name ?_
  | with_reducible refine r_op ?_
  | with_reducible refine r_I0 ?_
  | with_reducible refine r_cons ?_
  | with_reducible refine r_nil ?_
  | with_reducible refine r_call ?_
  | with_reducible refine r_ret ?_
  | with_reducible refine r_cb ?_
  | with_reducible refine r_ifS ?_
  | with_reducible refine r_test ?_
  | with_reducible refine r_bl ?_
  | with_reducible refine r_dget ?_
  | with_reducible refine r_dput ?_
  | ((with_reducible show (∃ k, [V.int _] = [V.int k] ∧ _) ∨ _); refine Or.inl ⟨_, rfl, ?_⟩)
  | with_reducible refine r_lcR ?_
  | with_reducible refine r_lcL ?_
  | with_reducible refine r_lcT ?_
  | with_reducible refine r_m1 ?_
  | with_reducible refine r_gSub ?_
  | with_reducible refine r_forR ?_
  | with_reducible refine r_forL ?_
  | with_reducible refine r_forT ?_
  | with_reducible refine r_bm ?_
  | with_reducible refine r_next ?_
  | with_reducible refine r_B ?_
  | with_reducible refine r_not ?_
  | with_reducible refine r_and ?_
  | with_reducible refine r_or ?_
  | with_reducible refine r_andV ?_
  | with_reducible refine r_orV ?_
  | with_reducible refine r_notV ?_
  | with_reducible refine r_ifE ?_
  | with_reducible refine r_drop ?_
  | with_reducible refine r_tup ?_
  | with_reducible refine r_lst ?_
  | with_reducible refine r_un ?_
  | with_reducible refine r_U ?_)
local macro_rules | `(tactic| walk_at "rd") => `(tactic| repeat walk_at "rd1")
local macro_rules | `(tactic| walk_at "rd1") => `(tactic| first
  | with_reducible refine r_lcS ?_
  | with_reducible refine r_sl ?_
  | with_reducible refine r_noPart ?_
  | with_reducible refine r_partE ?_
  | with_reducible refine r_sfld ?_
  | with_reducible refine r_gc ?_
  | with_reducible refine r_gn ?_
  | with_reducible refine r_forE ?_
  | with_reducible refine r_makeK ?_
  | with_reducible refine r_make ?_
  | with_reducible refine r_fld ?_
  | with_reducible refine r_prop ?_
  | with_reducible refine r_meth ?_
  | with_reducible refine r_js ?_
  | with_reducible refine r_jn ?_
  | with_reducible refine r_fmt ?_
  | with_reducible refine r_chain ?_)
local macro_rules | `(tactic| walk_at "rd1") => `(tactic| first
  | with_reducible refine r_sfa ?_
  | with_reducible refine r_methR ?_)
local macro_rules | `(tactic| walk_at "rd1") => `(tactic| first
  | with_reducible refine r_sErr ?_)
local macro_rules | `(tactic| walk_at "rd1") => `(tactic| first
  | with_reducible refine r_star ?_
  | with_reducible refine r_callS ?_
  | with_reducible refine r_makeX ?_
  | with_reducible refine r_makeXD ?_
  | with_reducible refine r_xf ?_
  | with_reducible refine r_ixO ?_
  | with_reducible refine r_addO ?_)
/-- all but the bag, a side's dict and its list is as it was -/
structure Tn (K : Frg) (β : Bag) (b l : Addr) (H H' : Hp) : Prop where
  old : BagAt K β H
  bag : BagAt K β H'
  keep : ∀ a o, a ≠ β.b → a ≠ b → a ≠ l → H a = some o → H' a = some o
theorem Tn.of {K : Frg} {β : Bag} {b l : Addr} {H H' : Hp} (e : Bg K β H H') : Tn K β b l H H' := ⟨e.old, e.bag, fun a o n _ _ h => e.keep a o n h⟩
theorem Tn.sd {K : Frg} {β : Bag} {b l : Addr} {H H' : Hp} {m : Int} {ks : List KD} (e : Tn K β b l H H') (S : SideAt K H b l m ks) : Sd H H' := fun a o s h => by
  obtain ⟨us, c, hb, hl, _⟩ := S.ex
  obtain ⟨kvs, hB⟩ := bag_dK e.old
  refine e.keep a o ?_ ?_ ?_ h
  · rintro rfl; rw [hB] at h; cases h; exact s
  · rintro rfl; rw [hb] at h; cases h; exact s
  · rintro rfl; rw [hl] at h; cases h; exact s
theorem signs5 {m : Int} (h : Mm m) : Mm (5 - m) := by
  rcases h with rfl | rfl
  · exact .inr rfl
  · exact .inl rfl
theorem RowsAt.sd {K : Frg} {H H' : Hp} {vs : List V} {rows : Row} (h : RowsAt K H vs rows) (e : Sd H H') : RowsAt K H' vs rows := ⟨h.1, fun i v r h1 h2 => by
  obtain ⟨p, u, a, b, c⟩ := h.2 i v r h1 h2
  exact ⟨p, u, a, e.tup b, Dp.sd e _ _ (flat_kd r.2) c⟩⟩
theorem RowsAt.append {K : Frg} {H : Hp} {vs us : List V} {r1 r2 : Row} (a : RowsAt K H vs r1) (b : RowsAt K H us r2) : RowsAt K H (vs ++ us) (r1 ++ r2) := ⟨by rw [List.length_append, List.length_append, a.1, b.1], fun i v r h1 h2 => by
  have l := a.1
  by_cases hi : i < vs.length
  · rw [List.getElem?_append_left hi] at h1
    rw [List.getElem?_append_left (by omega)] at h2
    exact a.2 i v r h1 h2
  · rw [List.getElem?_append_right (by omega)] at h1
    rw [List.getElem?_append_right (by omega), ← l] at h2
    exact b.2 _ v r h1 h2⟩
theorem RowsAt.one {K : Frg} {H : Hp} {p : Addr} {u : V} {m : Int} {k : KD} (a : SqT K H p [.int m, u]) (b : Dp K H u k.data) : RowsAt K H [.ref p] [(m, k)] := ⟨rfl, fun i v r h1 h2 => by
  cases i with
  | zero =>
    cases (show some (V.ref p) = some v from h1)
    cases (show some (m, k) = some r from h2)
    exact ⟨p, u, rfl, a, b⟩
  | succ i => simp at h1⟩
/-- the bag's cells do not stand there, or they stand whatever happens -/
def Apart (K : Frg) (β : Bag) (l : Addr) : Prop := β.c ≠ l ∨ ∀ H, SqL K H β.c (β.cs.map V.int)
theorem Apart.of {K : Frg} {β : Bag} {H : Hp} {l : Addr} (B : BagAt K β H) (h : H l = none) : Apart K β l := by
  rcases B.cells with (q | ⟨o, q⟩) | q
  · exact .inl (ne_of_none q h)
  · exact .inl (ne_of_none q h)
  · exact .inr fun _ => .inr q
theorem BagAt.put2 {K : Frg} {β : Bag} {H : Hp} {b l : Addr} {m : Int} {ks : List KD} (h : BagAt K β H) (S : SideAt K H b l m ks) (ap : Apart K β l) {o o' : HO} : BagAt K β (upd (upd H b o) l o') := by
  have nb := S.nb h
  obtain ⟨us, c, hb, hl, _⟩ := S.ex
  obtain ⟨a, r, x, n, e, z⟩ := h.ex
  have nl : β.b ≠ l := by
    rintro rfl
    rw [hl] at e
    cases e
  refine ⟨⟨a, r, x, n, by rw [upd_ne nl, upd_ne (Ne.symm nb)]; exact e, z⟩, ?_⟩
  rcases ap with ap | ap
  · rcases h.cells with (q | ⟨o2, q⟩) | q
    · have : β.c ≠ b := by rintro rfl; rw [hb] at q; cases q
      exact .inl (.inl (by rw [upd_ne ap, upd_ne this]; exact q))
    · have : β.c ≠ b := by rintro rfl; rw [hb] at q; cases q
      exact .inl (.inr ⟨o2, by rw [upd_ne ap, upd_ne this]; exact q⟩)
    · exact .inr q
  · exact ap _
theorem DPut_s {H : Hp} {a : Addr} {kvs : List (Key × V)} {k : Str} {v : V} (e : H a = some (.dK kvs)) (l : kvs.length ≤ 15) : DPut H a (.str k) v (L2.upd H a (.dK (putK kvs (.inr k) v))) :=
  DPut.k (k := Sum.inr k) (v := v) e (Nat.lt_of_le_of_lt l (by show 15 < sizeLine; decide))
theorem firstAt_some {α : Type} {p : Nat → Option α} {a : α} : ∀ {n : Nat}, firstAt p n = some a → ∃ i, i < n ∧ p i = some a
  | 0, h => by cases h
  | n + 1, h => by
    cases e : firstAt p n with
    | some b =>
      have z := firstAt_up e (Nat.le_succ n)
      rw [h] at z
      cases z
      obtain ⟨i, hi, q⟩ := firstAt_some e
      exact ⟨i, by omega, q⟩
    | none =>
      unfold firstAt at h
      rw [e] at h
      exact ⟨n, by omega, h⟩
theorem unl_name {m : Int} {rows : Row} {i : Nat} {s : Str} (h : unl m rows i = some s) : s ∈ rowNames rows := by
  unfold unl at h
  cases e : rows[i]? with
  | none => rw [e] at h; cases h
  | some r =>
    rw [e] at h
    by_cases q : r.1 = m
    · simp only [if_pos q] at h; cases h
    · simp only [if_neg q] at h
      cases h
      exact List.mem_map.mpr ⟨r, List.mem_of_getElem? e, rfl⟩
theorem twi_name {ns : List Str} {i : Nat} {s : Str} (h : twi ns i = some s) : s ∈ ns := by
  unfold twi at h
  cases e : ns[i]? with
  | none => rw [e] at h; cases h
  | some r =>
    rw [e] at h
    by_cases q : r ∈ ns.take i
    · simp only [if_pos q] at h
      cases h
      exact List.mem_of_getElem? e
    · simp only [if_neg q] at h; cases h
theorem name_good {rows : Row} (g : ∀ r ∈ rows, GoodK r.1 r.2) {s : Str} (h : s ∈ rowNames rows) : GoodN s := by
  obtain ⟨r, hr, rfl⟩ := List.mem_map.mp h
  exact (g r hr).name
theorem sm_two {c : Str} {d : PyData} {k : Nat} (hc : ∀ x ∈ c.cps.toList, x < 16 ^ 8) (lc : c.length ≤ 8) (h : Sm 1000 k d) : Shw (.tuple [.str c, d]) ∨ 60 < k := by
  by_cases hk : 60 < k
  · exact .inr hk
  · exact .inl ((Sm.tup (.cons (Sm.str hc lc) (.cons h .nil))).shw (by omega) (by omega))
theorem shw_bad {sgd : PyData} (hs : Sm 1000 3 sgd) : Shw (dueD sgd .bad) := by
  rcases sm_two (c := "BadSigns") (by decide +kernel) (by decide +kernel) hs with h | h
  · exact h
  · omega
theorem shw_due {sgd : PyData} {sg : V} {rows : Row} (hs : Shw (dueD sgd .bad)) (g : ∀ r ∈ rows, GoodK r.1 r.2) : Shw (dueD sgd (dueOf sg rows)) := by
  have two : ∀ {c : Str} {d : PyData}, (∀ x ∈ c.cps.toList, x < 16 ^ 8) → c.length ≤ 8 → Sm 1000 3 d → Shw (.tuple [.str c, d]) := fun a b c => by
    rcases sm_two a b c with h | h
    · exact h
    · omega
  have nm : ∀ {s : Str}, GoodN s → Sm 1000 3 (.str s) := fun h => Sm.str (fun c hc => by have := (h.low c hc).2; omega) (by have := h.hi; omega)
  cases e : dueOf sg rows with
  | ok => exact (⟨rfl, rfl, rfl, by simp [PyData.weight, dueD], by simp [PyData.depth, dueD]⟩ : Sm 0 0 (dueD sgd .ok)).shw (by decide) (by decide)
  | bad => exact hs
  | many => exact two (by decide +kernel) (by decide +kernel) (Sm.str (by decide +kernel) (by decide +kernel))
  | unlike n =>
    refine two (by decide +kernel) (by decide +kernel) (nm (name_good g ?_))
    unfold dueOf at e
    split at e
    · split at e
      · unfold dueRow at e
        split at e
        · cases e
        · split at e
          · cases e
            obtain ⟨i, _, q⟩ := firstAt_some (by assumption)
            exact unl_name q
          · split at e <;> cases e
      · cases e
    · cases e
  | twice n =>
    refine two (by decide +kernel) (by decide +kernel) (nm (name_good g ?_))
    unfold dueOf at e
    split at e
    · split at e
      · unfold dueRow at e
        split at e
        · cases e
        · split at e
          · cases e
          · split at e
            · cases e
              obtain ⟨i, _, q⟩ := firstAt_some (by assumption)
              exact twi_name q
            · cases e
      · cases e
    · cases e
theorem sm_m {m : Int} (h : Mm m) : Sm 1000 3 (.int m) := (Sm.int (k := 3) (by rcases h with rfl | rfl <;> decide) (by rcases h with rfl | rfl <;> decide)).mono (by decide) (Nat.le_refl _)
def spTurn (K : Frg) : Sp := fun vs H Q _ => ∃ (β : Bag) (b l n : Addr) (m : Int) (ks : List KD) (ns : List Str), vs = [.ref β.b, .ref b, .ref n] ∧ BagAt K β H ∧ SideAt K H b l m ks ∧ GoodT m ks ∧ ks.length ≤ 8 ∧ SqL K H n (ns.map V.str) ∧ (∀ s ∈ ns, GoodN s) ∧ 0 < ns.length ∧ ns.length ≤ 1000 ∧ Apart K β l ∧
  ∀ H' ks', Tn K β b l H H' → SideAt K H' b l m ks' → GoodT m ks' → ks'.length ≤ 8 → Q (.bl true) H'
section
variable {P : Program} {w : World} {K : Frg} {mg : Str → Option Value} {base : Heap}
theorem sc_law_turn_of : FnScope ["_law_bag", "_law_side", "_law_names", "_law_signs", "_law_held", "_law_name", "_law_kind", "_law_due", "_law_before", "_law_answer", "_law_one"] ["_law_bag", "_law_side", "_law_names"] (defScope s_law_turn_of) := ⟨rfl, rfl, rfl, by decide +kernel, rfl, by decide +kernel, by decide +kernel⟩
theorem ok_law_turn_of (T : Txt P K mg) : OkG P w K mg base 9 (He.ga K "_law_turn_of") ["_law_bag", "_law_side", "_law_names"] (spTurn K) := by
  obtain ⟨fd, F⟩ := T.F_law_turn_of
  have b : Binds K fd ["_law_bag", "_law_side", "_law_names"] [] := F.bindsN fun _ _ _ _ _ _ us hl => match us, hl with | [_, _, _], _ => rfl
  refine okG_of F b sc_law_turn_of (fun vs H Q E h => ?_) (fun cdv A outer s H vs Q hgd hr h => ?_)
  · obtain ⟨β, b, l, n, m, ks, ns, rfl, _⟩ := h
    rfl
  · obtain ⟨β, b, l, n, m, ks, ns, rfl, B, S, G, l8, hn, gn, n0, n1, ap, k⟩ := h
    have nb := S.nb B
    have S0 := S
    obtain ⟨us, c, hb, hl, hus, hC⟩ := S.ex
    have hm := G.m_
    have ul := DpAll.len hus
    rw [List.length_map] at ul
    refine ⟨_, (pss_cons (ps_set (i := 3) sc_law_turn_of.nd rfl (Or.inl rfl) (pe_dget (hu_of hr) (pv 1) pe_str (fun _ _ => rfl)))
  (Evl.pss_cut (ps_if (pt_val (pk (ok_law_one_in T) hr rfl T.g_law_one_in (pa_cons (pv 0) (pa_cons pe_int pa_nil)))) (pss_one (ps_set (i := 3) sc_law_turn_of.nd rfl (Or.inl rfl) (pe_op op_sub pe_int (pv 3)))) pss_nil)
  (pss_cons (ps_set (i := 4) sc_law_turn_of.nd rfl (Or.inl rfl) (pe_dget (hu_of hr) (pv 1) pe_str (fun _ _ => rfl)))
  (pss_cons (ps_set (i := 5) sc_law_turn_of.nd rfl (Or.inl rfl) (pk (ok_law_choice T) hr rfl T.g_law_choice (pa_cons (pv 0) (pa_cons (pv 2) pa_nil))))
  (Evl.pss_cut (ps_if (PW.pt (pw_and (pt_cmpR (op_neD hr.units) (pv 4) (pe_lst pa_nil) (by first | exact nomark _ | rfl)) (pw_and1 (pt_val (pk (ok_law_one_in T) hr rfl T.g_law_one_in (pa_cons (pv 0) (pa_cons pe_int pa_nil))))))) (pss_one (ps_set (i := 5) sc_law_turn_of.nd rfl (Or.inl rfl) (pe_ix ix_tup (pk (ok_law_choice T) hr rfl T.g_law_choice (pa_cons (pv 0) (pa_cons (pv 4) pa_nil))) pe_int (fun _ _ => rfl)))) pss_nil)
  (pss_cons (ps_set (i := 6) sc_law_turn_of.nd rfl (Or.inl rfl) (pk (ok_law_new T) hr rfl T.g_law_new (pa_cons (pv 0) (pa_cons (pv 3) (pa_cons (pv 5) pa_nil)))))
  (pss_cons (ps_set (i := 7) sc_law_turn_of.nd rfl (Or.inl rfl) (pk (ok_law_due_of T) hr rfl T.g_law_due_of (pa_cons (pe_dget (hu_of hr) (pv 1) pe_str (fun _ _ => rfl)) (pa_cons (pe_op op_cat (pe_lc (own := [("_law_one", 10)]) rfl sc_law_turn_of.nd (pi_list (pv 4)) (blkOk_by (own := [("_law_one", 10)]) (N := ["_law_bag", "_law_side", "_law_names", "_law_signs", "_law_held", "_law_name", "_law_kind", "_law_due", "_law_before", "_law_answer", "_law_one"]) (sc := defScope s_law_turn_of) (by decide +kernel)) (fun _ _ _ _ _ => (pg_name (i := 10) sc_law_turn_of.nd rfl (Or.inl rfl))) (fun _ _ _ _ _ => pts_nil) (fun _ _ _ _ _ => (pe_tup (pa_cons (pe_dget (hu_of hr) (pv 1) pe_str (fun _ _ => rfl)) (pa_cons (pv 10) pa_nil))))) (pe_lst (pa_cons (pe_tup (pa_cons (pv 3) (pa_cons (pv 6) pa_nil))) pa_nil))) pa_nil))))
  (pss_cons (ps_set (i := 8) sc_law_turn_of.nd rfl (Or.inl rfl) (pe_dget (hu_of hr) (pv 1) pe_str (fun _ _ => rfl)))
  (pss_cons (ps_set (i := 9) sc_law_turn_of.nd rfl (Or.inl rfl) (pk (ok_law_added T) hr rfl T.g_law_added (pa_cons (pv 8) (pa_cons (pk (ok_law_object T) hr rfl T.g_law_object (pa_cons (pv 3) (pa_cons (pv 6) pa_nil))) pa_nil))))
  (pss_cons (ps_if (pt_not (pt_val (pkG (ok_law_told_of T) hgd hr rfl T.g_law_told_of (pa_cons (pv 8) (pa_cons (pe_dget (hu_of hr) (pv 1) pe_str (fun _ _ => rfl)) (pa_cons (pv 4) (pa_cons (pe_lst (pa_cons (pv 5) pa_nil)) pa_nil))))))) (pss_one (ps_ret pe_bl)) pss_nil)
  (pss_cons (ps_if (pt_cmpR op_notN (pv 7) pe_non (by first | exact nomark _ | rfl)) (pss_one (ps_ret (pkG (ok_law_same T) hgd hr rfl T.g_law_same (pa_cons (pv 9) (pa_cons (pv 7) pa_nil))))) pss_nil)
  (pss_cons (ps_if (PW.pt (pw_or (pt_cmpR op_ne (pe_ix ix_tup (pv 9) pe_int (fun _ _ => rfl)) pe_str (by first | exact nomark _ | rfl)) (pw_or1 (pt_not (pt_val (pkG (ok_law_same T) hgd hr rfl T.g_law_same (pa_cons (pe_cmpR (k_eq_Catalogue T hr) (pe_ix ix_tup (pv 9) pe_int (fun _ _ => rfl)) (pv 8) (by first | exact nomark _ | rfl)) (pa_cons pe_bl pa_nil)))))))) (pss_one (ps_ret pe_bl)) pss_nil)
  (pss_cons (ps_dput (hu_of hr) (pv 1) pe_str (pe_ix ix_tup (pv 9) pe_int (fun _ _ => rfl)) rfl)
  (pss_cons (ps_expr (pe_bm PySem.F.plainAttrs_list PySem.F.slot_list_append PySem.F.type_list_append mt_append (pv 4) (pa_cons (pv 6) pa_nil)))
  (pss_one (ps_ret pe_bl)))))))))))))))), ?_⟩
    walk_at "rd"
    refine r_dgot (DGet_k hb side_sg) ?_
    walk_at "rd"
    refine ⟨fun σ' H' => ∃ m' : Int, σ' = [some (.ref β.b), some (.ref b), some (.ref n), some (.int m'), none, none, none, none, none, none, none] ∧ Bg K β H H' ∧ Mm m', ?_, ?_⟩
    · walk_at "rd"
      refine r_one B (by decide) (by decide) fun q H1 e1 => ?_
      cases q with
      | false =>
        refine r_bl (r_iF ?_)
        walk_at "rd"
        exact ⟨m, rfl, e1, hm⟩
      | true =>
        refine r_bl (r_iT ?_)
        walk_at "rd"
        exact ⟨5 - m, rfl, e1, signs5 hm⟩
    rintro σ' H1 ⟨m', rfl, e1, hm'⟩
    walk_at "rd"
    refine r_dgot (DGet_k (e1.keep _ _ nb hb) side_he) ?_
    walk_at "rd"
    refine r_choice e1.bag (way_bag.seq e1 hn) (by rw [List.length_map]; exact n0) (by rw [List.length_map]; omega) fun j v H2 hv e2 => ?_
    rw [List.getElem?_map] at hv
    obtain ⟨s, hs, rfl⟩ := Option.map_eq_some_iff.mp hv
    have gs := gn s (List.mem_of_getElem? hs)
    have e2 := e1.trans e2
    walk_at "rd"
    refine ⟨fun σ' H' => ∃ s : Str, σ' = [some (.ref β.b), some (.ref b), some (.ref n), some (.int m'), some (.ref l), some (.str s), none, none, none, none, none] ∧ Bg K β H H' ∧ GoodN s, ?_, ?_⟩
    · walk_at "rd"
      refine ⟨by show 0 ≤ sizeLine; decide, fun z hz => ?_⟩
      walk_at "rd"
      have s3 := Same.upd (o := .lst ([] : List V)) hz
      have hz3 : Dp K (upd H2 z (.lst ([] : List V))) (.ref z) (.list []) := .lst (SqL.of upd_same) .nil
      generalize upd H2 z (.lst ([] : List V)) = H3 at s3 hz3 ⊢
      have e3 := e2.trans (Bg.same e2.bag s3)
      have hl3 := way_bag.lst e3 hl
      have hus3 := DpAll.sd (way_bag.sd e3) _ _ (flat_kds ks) hus
      refine r_neD (.lst (SqL.of hl3) hus3) hz3 (shaped_kinds G.good) shaped_nil ?_
      rw [eqv_nil, List.length_map]
      refine r_bl ?_
      by_cases h0 : ks.length = 0
      · rw [decide_eq_true h0]
        refine r_iF ?_
        walk_at "rd"
        exact ⟨s, rfl, e3, gs⟩
      rw [decide_eq_false h0]
      refine r_iT ?_
      walk_at "rd"
      refine r_one e3.bag (by decide) (by decide) fun q H4 e4 => ?_
      have e4 := e3.trans e4
      cases q with
      | false =>
        refine r_bl (r_iF ?_)
        walk_at "rd"
        exact ⟨s, rfl, e4, gs⟩
      | true =>
        refine r_bl (r_iT ?_)
        walk_at "rd"
        refine r_choice e4.bag (SqL.of (way_bag.lst e4 hl)) (by omega) (by omega) fun j v H5 hv e5 => ?_
        have e5 := e4.trans e5
        obtain ⟨d, h1, h2⟩ := DpAll.at_ hus hv
        rw [List.getElem?_map] at h1
        obtain ⟨kd, hkd, rfl⟩ := Option.map_eq_some_iff.mp h1
        obtain ⟨a, vt, vw, rfl, hs4, _, _⟩ := kd_at h2
        walk_at "rd"
        refine r_ixT (Sd.tup (way_bag.sd e5) hs4) (v := .str kd.name) (atI_nat (j := 0) rfl) ?_
        walk_at "rd"
        exact ⟨kd.name, rfl, e5, (G.good kd (List.mem_of_getElem? hkd)).name⟩
    clear hs hv gs s j e2
    rintro σ' H3 ⟨s, rfl, e3, gs⟩
    walk_at "rd"
    refine r_new (E := E0) e3.bag hm' gs fun v kd H4 e4 hv Gk hname => ?_
    have e4 := e3.trans e4
    walk_at "rd"
    refine r_dgot (DGet_k (e4.keep _ _ nb hb) side_sg) ?_
    walk_at "rd"
    refine lcL (P := fun i v H' => ∃ (p : Addr) (u : V) (r : KD), us[i]? = some u ∧ ks[i]? = some r ∧ v = .ref p ∧ SqT K H' p [.int m, u]) way_same (Same.refl _) (SqL.of (way_bag.lst e4 hl)) (by omega) (fun i v A B e ⟨p, u, r, h0, h1, h2, h3⟩ => ⟨p, u, r, h0, h1, h2, e.tup h3⟩) (fun i v' H5 hi e5 Qe qq => ?_) fun D H5 zs hD e5 hz hzl hzs => ?_
    · refine r_name ⟨rfl, ?_⟩
      walk_at "rd"
      refine r_dgot (DGet_k (e5 _ _ (e4.keep _ _ nb hb)) side_sg) ?_
      walk_at "rd"
      refine ⟨by show 2 ≤ sizeLine; decide, fun t ht => ?_⟩
      have il := (List.getElem?_eq_some_iff.mp hi).1
      exact qq _ _ (Same.upd ht) ⟨t, v', ks[i], hi, List.getElem?_eq_getElem (by omega), rfl, SqT.of upd_same⟩
    walk_at "rd"
    refine ⟨by show 2 ≤ sizeLine; decide, fun t ht => ?_⟩
    have s6 := Same.upd (o := .tup [V.int m', v]) ht
    have ht6 : SqT K (upd H5 t (.tup [V.int m', v])) t [V.int m', v] := SqT.of upd_same
    generalize upd H5 t (.tup [V.int m', v]) = H6 at s6 ht6 ⊢
    walk_at "rd"
    refine ⟨by show 1 ≤ sizeLine; decide, fun p hp => ?_⟩
    have s7 := Same.upd (o := .lst [V.ref t]) hp
    have hp7 : upd H6 p (.lst [V.ref t]) p = some (.lst [V.ref t]) := upd_same
    generalize upd H6 p (.lst [V.ref t]) = H7 at s7 hp7 ⊢
    have zl : zs.length ≤ 8 := by omega
    refine ⟨D, p, _, _, rfl, rfl, (s6.trans s7) _ _ hz, hp7, ?_, fun y hy => ?_⟩
    · exact Nat.le_trans (by simp; omega) line_big
    walk_at "rd"
    have s8 := Same.upd (o := .lst (zs ++ [V.ref t])) hy
    have hy8 : upd H7 y (.lst (zs ++ [V.ref t])) y = some (.lst (zs ++ [V.ref t])) := upd_same
    generalize upd H7 y (.lst (zs ++ [V.ref t])) = H8 at s8 hy8 ⊢
    have s48 : Same H4 H8 := ((e5.trans s6).trans s7).trans s8
    have e8 := e4.trans (Bg.same e4.bag s48)
    have hv8 := Dp.same s48 hv
    have hrows : RowsAt K H8 (zs ++ [V.ref t]) (ks.map (Prod.mk m) ++ [(m', kd)]) := by
      refine RowsAt.append ⟨by rw [List.length_map]; omega, fun i v' r h1 h2 => ?_⟩ (.one (Sd.tup (Sd.of (s7.trans s8)) ht6) hv8)
      obtain ⟨q, u, r', h3, h4, rfl, h5⟩ := hzs i v' h1
      rw [List.getElem?_map, h4] at h2
      cases (show some (m, r') = some r from h2)
      obtain ⟨d, h6, h7⟩ := DpAll.at_ hus h3
      rw [List.getElem?_map, h4] at h6
      cases (show some r'.data = some d from h6)
      exact ⟨q, u, rfl, Sd.tup (Sd.of ((s6.trans s7).trans s8)) h5, Dp.sd (way_bag.sd e8) _ _ (flat_kd r') h7⟩
    refine ⟨.int m, .int m, y, _, _, rfl, .int m, .inl ⟨m, rfl⟩, SqL.of hy8, hrows, by rw [List.length_append, List.length_map, List.length_singleton]; omega, fun vd H9 s9 hvd dN dR => ?_⟩
    rw [due_of m hm] at hvd dN dR
    have e9 := e8.trans (Bg.same e8.bag s9)
    walk_at "rd"
    refine r_dgot (DGet_k (e9.keep _ _ nb hb) side_ma) ?_
    walk_at "rd"
    refine r_object (E := E0) (Dp.same s9 hv8) Gk fun x H10 s10 hX => ?_
    have e10 := e9.trans (Bg.same e9.bag s10)
    have hC10 := hC.sd (way_bag.sd e10)
    walk_at "rd"
    generalize hdue : dueRow m (ks.map (Prod.mk m) ++ [(m', kd)]) = due at hvd dN dR
    have gr : ∀ r ∈ ks.map (Prod.mk m) ++ [(m', kd)], GoodK r.1 r.2 := fun r hr' => by
      rcases List.mem_append.mp hr' with z | z
      · obtain ⟨q, hq, rfl⟩ := List.mem_map.mp z
        exact G.good q hq
      · rw [List.mem_singleton.mp z]
        exact Gk
    have lst1 : ∀ {H'}, Same H10 H' → SqL K H' l us ∧ DpAll K H' us (ks.map KD.data) ∧ CatAt K H' c m ks ∧ H' b = some (.dK (sideL m l c)) := fun {H'} s => by
      have e := e10.trans (Bg.same e10.bag s)
      exact ⟨SqL.of (way_bag.lst e hl), DpAll.sd (way_bag.sd e) _ _ (flat_kds ks) hus, hC.sd (way_bag.sd e), e.keep _ _ nb hb⟩
    refine ⟨c, x, m, ks, (m', kd), rfl, hC10, G, by omega, hX, Gk, fun dok x' q H11 s11 hq cat => ?_, fun dno wv H11 s11 hw => ?_⟩
    rotate_left
    · rw [hdue] at dno hw
      walk_at "rd"
      refine r_dgot (DGet_k (lst1 s11).2.2.2 side_sg) ?_
      walk_at "rd"
      refine ⟨by show 1 ≤ sizeLine; decide, fun z hz => ?_⟩
      walk_at "rd"
      have s12 := Same.upd (o := .lst [V.str s]) hz
      have hz12 : upd H11 z (.lst [V.str s]) z = some (.lst [V.str s]) := upd_same
      generalize upd H11 z (.lst [V.str s]) = H12 at s12 hz12 ⊢
      have s12' := s11.trans s12
      obtain ⟨g1, g2, g3, g4⟩ := lst1 s12'
      refine ⟨c, l, z, m, ks, us, [s], rfl, g3, G, l8, g1, g2, hz12, by show 1 ≤ 1000; decide, fun s' hs' => (by rw [List.mem_singleton.mp hs']; exact asked_good gs), fun H13 s13 => ?_⟩
      refine r_bl (r_iF ?_)
      walk_at "rd"
      refine ⟨rfl, ?_⟩
      obtain ⟨tv, rfl⟩ := dR dno
      refine r_bl (r_iT ?_)
      walk_at "rd"
      have sh : Shw (dueD (.int m) due) := by
        have z := shw_due (sg := .int m) (rows := ks.map (Prod.mk m) ++ [(m', kd)]) (shw_bad (sm_m hm)) gr
        rw [due_of m hm, hdue] at z
        exact z
      refine r_same (E := E0) (Dp.same (s12.trans s13) hw) (Dp.same ((s10.trans s12').trans s13) hvd) sh ?_
      have e13 := e10.trans (Bg.same e10.bag (s12'.trans s13))
      exact k _ ks (.of e13) (S0.bg e13) G l8
    rw [hdue] at dok
    subst dok
    obtain ⟨w8, wm, wn⟩ := due_ok hdue
    have em : m' = m := wm (m', kd) (List.mem_append_right _ (List.mem_singleton.mpr rfl))
    subst em
    have G2 : GoodT m' (ks ++ [kd]) := G.more Gk wn
    have l8' : (ks ++ [kd]).length ≤ 8 := by
      rw [List.length_append, List.length_map, List.length_singleton] at w8
      rw [List.length_append, List.length_singleton]
      exact w8
    have vn := dN rfl
    subst vn
    walk_at "rd"
    refine r_dgot (DGet_k (lst1 s11).2.2.2 side_sg) ?_
    walk_at "rd"
    refine ⟨by show 1 ≤ sizeLine; decide, fun z hz => ?_⟩
    walk_at "rd"
    have s12 := Same.upd (o := .lst [V.str s]) hz
    have hz12 : upd H11 z (.lst [V.str s]) z = some (.lst [V.str s]) := upd_same
    generalize upd H11 z (.lst [V.str s]) = H12 at s12 hz12 ⊢
    have s12' := s11.trans s12
    obtain ⟨g1, g2, g3, g4⟩ := lst1 s12'
    refine ⟨c, l, z, m', ks, us, [s], rfl, g3, G, l8, g1, g2, hz12, by show 1 ≤ 1000; decide, fun s' hs' => (by rw [List.mem_singleton.mp hs']; exact asked_good gs), fun H13 s13 => ?_⟩
    have q13 := Sd.tup (Sd.of (s12.trans s13)) hq
    have cat13 := cat.sd (Sd.of (s12.trans s13))
    obtain ⟨f1, f2, f3, f4⟩ := lst1 (s12'.trans s13)
    have e13 := e10.trans (Bg.same e10.bag (s12'.trans s13))
    have hv13 := Dp.same ((((s9.trans s10).trans s12').trans s13)) hv8
    refine r_bl (r_iF ?_)
    walk_at "rd"
    refine ⟨rfl, ?_⟩
    refine r_bl (r_iF ?_)
    walk_at "rd"
    refine r_ixT q13 (v := .str "good") (atI_nat (j := 0) rfl) ?_
    walk_at "rd"
    refine r_ne rfl ?_
    rw [decide_eq_true rfl]
    refine r_bl (r_iF ?_)
    walk_at "rd"
    refine r_ixT q13 (v := .ref x') (atI_nat (j := 1) rfl) ?_
    walk_at "rd"
    have cat13' := cat13
    have f3' := f3
    obtain ⟨dx1, _, _, _, i1, _⟩ := cat13'.ex
    obtain ⟨dx2, _, _, _, i2, _⟩ := f3'.ex
    refine ⟨x', dx1, _, rfl, i1, .inl ⟨c, dx2, _, rfl, i2⟩, x', .ref c, rfl, .inr (.inl ⟨c, rfl, ⟨m', m', ks ++ [kd], ks, G2, G, cat13, f3, .inr ⟨rfl, ks.length, ?_, fun i hi => ?_, .inr ⟨?_, ?_⟩⟩⟩, fun H14 s14 => ?_⟩)⟩
    · rw [List.length_append]; omega
    · rw [List.getElem?_append_left hi]
    · rw [List.length_append]; omega
    · rw [List.length_append, List.length_singleton]; omega
    refine ⟨false, rfl, ?_⟩
    walk_at "rd"
    refine r_same (E := E0) (.bl _) (.bl _) (shw_bool _) ?_
    refine r_bl (r_iF ?_)
    walk_at "rd"
    refine r_ixT (Sd.tup (Sd.of s14) q13) (v := .ref x') (atI_nat (j := 1) rfl) ?_
    walk_at "rd"
    have e14 := e13.trans (Bg.same e13.bag s14)
    have hb14 : H14 b = some (.dK (sideL m' l c)) := s14 _ _ f4
    have hl14 : H14 l = some (.lst us) := way_bag.lst e14 hl
    have hus14 := DpAll.sd (Sd.of s14) _ _ (flat_kds ks) f2
    have S14 := S0.bg e14
    have hv14 := Dp.same s14 hv13
    have cat14 := cat13.sd (Sd.of s14)
    refine r_dputs (DPut_s hb14 (by show 3 ≤ 15; decide)) ?_
    rw [show putK (sideL m' l c) (Sum.inr (Str.ofString "made")) (V.ref x') = sideL m' l x' from side_put]
    have nbl : b ≠ l := by rintro rfl; rw [hb14] at hl14; cases hl14
    have hl15 : upd H14 b (.dK (sideL m' l x')) l = some (.lst us) := by rw [upd_ne nbl.symm]; exact hl14
    walk_at "rd"
    refine r_tyL hl15 ?_
    walk_at "rd"
    refine r_append hl15 (by omega) ?_
    walk_at "rd"
    have sd1 : Sd H14 (upd H14 b (.dK (sideL m' l x'))) := Sd.dK hb14
    have sd2 : Sd (upd H14 b (.dK (sideL m' l x'))) (upd (upd H14 b (.dK (sideL m' l x'))) l (.lst (us ++ [v]))) := Sd.lst hl15
    have sd := sd1.trans sd2
    refine k _ (ks ++ [kd]) ⟨B, e14.bag.put2 S14 ap, fun a o n1 n2 n3 h => ?_⟩ ⟨us ++ [v], x', ?_, upd_same, ?_, cat14.sd sd⟩ G2 l8'
    · rw [upd_ne n3, upd_ne n2]
      exact e14.keep a o n1 h
    · rw [upd_ne nbl, upd_same]
    · rw [List.map_append]
      exact DpAll.append (DpAll.sd sd _ _ (flat_kds ks) hus14) (.cons (Dp.sd sd _ _ (flat_kd kd) hv14) .nil)
end
end Tx

/-! ## Pr13 -/
set_option maxHeartbeats 4000000
/-! A row of kinds. -/
namespace Tx
open PySem PySem.Spec PyProof.Rows L2 Gd
local macro_rules | `(tactic| walk_at "rd1") => `(tactic| first
  | ((with_reducible show tVar _ _ _ _); refine r_var (by rfl) ?_)
  | with_reducible refine r_c ?_
  | with_reducible refine r_seq ?_
  | with_reducible refine r_asg ?_
  | with_reducible refine r_name ?_
  | with_reducible refine r_op ?_
  | with_reducible refine r_I0 ?_
  | with_reducible refine r_cons ?_
  | with_reducible refine r_nil ?_
  | with_reducible refine r_call ?_
  | with_reducible refine r_ret ?_
  | with_reducible refine r_cb ?_
  | with_reducible refine r_ifS ?_
  | with_reducible refine r_test ?_
  | with_reducible refine r_bl ?_
  | with_reducible refine r_dget ?_
  | with_reducible refine r_dput ?_
  | ((with_reducible show (∃ k, [V.int _] = [V.int k] ∧ _) ∨ _); refine Or.inl ⟨_, rfl, ?_⟩)
  | with_reducible refine r_lcR ?_
  | with_reducible refine r_lcL ?_
  | with_reducible refine r_lcT ?_
  | with_reducible refine r_m1 ?_
  | with_reducible refine r_gSub ?_
  | with_reducible refine r_forR ?_
  | with_reducible refine r_forL ?_
  | with_reducible refine r_forT ?_
  | with_reducible refine r_bm ?_
  | with_reducible refine r_next ?_
  | with_reducible refine r_B ?_
  | with_reducible refine r_not ?_
  | with_reducible refine r_and ?_
  | with_reducible refine r_or ?_
  | with_reducible refine r_andV ?_
  | with_reducible refine r_orV ?_
  | with_reducible refine r_notV ?_
  | with_reducible refine r_ifE ?_
  | with_reducible refine r_drop ?_
  | with_reducible refine r_tup ?_
  | with_reducible refine r_lst ?_
  | with_reducible refine r_un ?_
  | with_reducible refine r_U ?_)
local macro_rules | `(tactic| walk_at "rd") => `(tactic| repeat walk_at "rd1")
local macro_rules | `(tactic| walk_at "rd1") => `(tactic| first
  | with_reducible refine r_lcS ?_
  | with_reducible refine r_sl ?_
  | with_reducible refine r_noPart ?_
  | with_reducible refine r_partE ?_
  | with_reducible refine r_sfld ?_
  | with_reducible refine r_gc ?_
  | with_reducible refine r_gn ?_
  | with_reducible refine r_forE ?_
  | with_reducible refine r_makeK ?_
  | with_reducible refine r_make ?_
  | with_reducible refine r_fld ?_
  | with_reducible refine r_prop ?_
  | with_reducible refine r_meth ?_
  | with_reducible refine r_js ?_
  | with_reducible refine r_jn ?_
  | with_reducible refine r_fmt ?_
  | with_reducible refine r_chain ?_)
local macro_rules | `(tactic| walk_at "rd1") => `(tactic| first
  | with_reducible refine r_sfa ?_
  | with_reducible refine r_methR ?_)
local macro_rules | `(tactic| walk_at "rd1") => `(tactic| first
  | with_reducible refine r_sErr ?_)
local macro_rules | `(tactic| walk_at "rd1") => `(tactic| first
  | with_reducible refine r_star ?_
  | with_reducible refine r_callS ?_
  | with_reducible refine r_makeX ?_
  | with_reducible refine r_makeXD ?_
  | with_reducible refine r_xf ?_
  | with_reducible refine r_ixO ?_
  | with_reducible refine r_addO ?_
  | with_reducible refine r_lcF ?_)
theorem pigeon : ∀ {ns ls : List Str}, ns.Nodup → (∀ s ∈ ns, s ∈ ls) → ns.length ≤ ls.length
  | [], _, _, _ => Nat.zero_le _
  | s :: r, ls, nd, h => by
    rw [List.nodup_cons] at nd
    have hs := h s (List.mem_cons_self ..)
    have := pigeon (ns := r) (ls := ls.erase s) nd.2 fun x hx => by
      refine (List.mem_erase_of_ne ?_).mpr (h x (List.mem_cons_of_mem _ hx))
      rintro rfl
      exact nd.1 hx
    rw [List.length_erase_of_mem hs] at this
    have p : 0 < ls.length := List.length_pos_of_mem hs
    rw [List.length_cons]
    omega
theorem RowsAt.take {K : Frg} {H : Hp} {vs : List V} {rows : Row} (h : RowsAt K H vs rows) (n : Nat) : RowsAt K H (vs.take n) (rows.take n) := ⟨by rw [List.length_take, List.length_take, h.1], fun i v r h1 h2 => by
  have hi : i < n := by
    have := (List.getElem?_eq_some_iff.mp h1).1
    rw [List.length_take] at this
    omega
  rw [List.getElem?_take_of_lt hi] at h1 h2
  exact h.2 i v r h1 h2⟩
theorem RowsAt.drop {K : Frg} {H : Hp} {vs : List V} {rows : Row} (h : RowsAt K H vs rows) (n : Nat) : RowsAt K H (vs.drop n) (rows.drop n) := ⟨by rw [List.length_drop, List.length_drop, h.1], fun i v r h1 h2 => by
  rw [List.getElem?_drop] at h1 h2
  exact h.2 _ v r h1 h2⟩
/-- rows, good, not many -/
structure RowG (K : Frg) (H : Hp) (vs : List V) (rows : Row) (n : Nat) : Prop where
  at_ : RowsAt K H vs rows
  good : ∀ r ∈ rows, GoodK r.1 r.2
  len : rows.length ≤ n
theorem RowG.sd {K : Frg} {H H' : Hp} {vs : List V} {rows : Row} {n : Nat} (h : RowG K H vs rows n) (e : Sd H H') : RowG K H' vs rows n := ⟨h.at_.sd e, h.good, h.len⟩
theorem RowG.ln {K : Frg} {H : Hp} {vs : List V} {rows : Row} {n : Nat} (h : RowG K H vs rows n) : vs.length ≤ n := by rw [h.at_.1]; exact h.len
theorem RowG.put {K : Frg} {H : Hp} {vs us : List V} {rows r2 : Row} {n k : Nat} (h : RowG K H vs rows n) (j : Nat) (h2 : RowG K H us r2 k) : RowG K H (vs.take j ++ us ++ vs.drop j) (rows.take j ++ r2 ++ rows.drop j) (n + k) := by
  refine ⟨((h.at_.take j).append h2.at_).append (h.at_.drop j), fun r hr => ?_, ?_⟩
  · rcases List.mem_append.mp hr with hr | hr
    · rcases List.mem_append.mp hr with hr | hr
      · exact h.good r (List.mem_of_mem_take hr)
      · exact h2.good r hr
    · exact h.good r (List.mem_of_mem_drop hr)
  · have := h.len
    have := h2.len
    rw [List.length_append, List.length_append, List.length_take, List.length_drop]
    omega
theorem RowG.append {K : Frg} {H : Hp} {vs us : List V} {rows r2 : Row} {n k : Nat} (h : RowG K H vs rows n) (h2 : RowG K H us r2 k) : RowG K H (vs ++ us) (rows ++ r2) (n + k) := by
  refine ⟨h.at_.append h2.at_, fun r hr => ?_, ?_⟩
  · rcases List.mem_append.mp hr with hr | hr
    · exact h.good r hr
    · exact h2.good r hr
  · have := h.len
    have := h2.len
    rw [List.length_append]
    omega
theorem RowG.one {K : Frg} {H : Hp} {p : Addr} {u : V} {m : Int} {k : KD} (a : SqT K H p [.int m, u]) (b : Dp K H u k.data) (g : GoodK m k) : RowG K H [.ref p] [(m, k)] 1 := ⟨.one a b, fun r hr => by rw [List.mem_singleton.mp hr]; exact g, Nat.le_refl _⟩
theorem RowG.mono {K : Frg} {H : Hp} {vs : List V} {rows : Row} {n k : Nat} (h : RowG K H vs rows n) (l : n ≤ k) : RowG K H vs rows k := ⟨h.at_, h.good, Nat.le_trans h.len l⟩
def rowD (r : Int × KD) : PyData := .tuple [.int r.1, r.2.data]
theorem RowG.dp {K : Frg} {H : Hp} {vs : List V} {rows : Row} {n : Nat} (h : RowG K H vs rows n) : DpAll K H vs (rows.map rowD) := DpAll.of_at (by rw [List.length_map]; exact h.at_.1) fun i v d h1 h2 => by
  rw [List.getElem?_map] at h2
  obtain ⟨r, h3, rfl⟩ := Option.map_eq_some_iff.mp h2
  obtain ⟨p, u, rfl, a, b⟩ := h.at_.2 i v r h1 h3
  exact .tup a (.cons (.int _) (.cons b .nil))
theorem RowG.shaped {K : Frg} {H : Hp} {vs : List V} {rows : Row} {n : Nat} (h : RowG K H vs rows n) : SeqAt.shaped (.list (rows.map rowD)) = true := by
  have h1 : PyData.canLay0 (.list (rows.map rowD)) = true := by
    simp only [PyData.canLay0]
    refine lay_all fun d hd => ?_
    obtain ⟨r, hr, rfl⟩ := List.mem_map.mp hd
    have := lay_kd (h.good r hr)
    simp [rowD, PyData.canLay0, PyData.canLayAll0, this]
  have h2 : PyData.depth (.list (rows.map rowD)) ≤ 64 := by
    have : PyData.depthAll (rows.map rowD) ≤ 7 := depth_all fun d hd => by
      obtain ⟨r, hr, rfl⟩ := List.mem_map.mp hd
      have := depth_kd r.2
      simp only [rowD, PyData.depth, PyData.depthAll]
      omega
    simp only [PyData.depth]
    omega
  unfold SeqAt.shaped
  rw [h1, decide_eq_true h2]
  rfl
theorem cut_take {xs : List V} {j : Nat} (h : j ≤ xs.length) : cutV xs none (some (j : Int)) = xs.take j := by
  unfold cutV
  rw [HT.sIx_none, HT.sIx_nat, Nat.min_eq_left h, Nat.sub_zero, List.drop_zero]
theorem cut_drop {xs : List V} {j : Nat} (h : j ≤ xs.length) : cutV xs (some (j : Int)) none = xs.drop j := by
  unfold cutV
  rw [HT.sIx_none, HT.sIx_nat, Nat.min_eq_left h]
  exact List.take_of_length_le (by rw [List.length_drop]; exact Nat.le_refl _)
theorem cut_any {xs : List V} {j : Nat} : cutV xs none (some (j : Int)) = xs.take j := by
  unfold cutV
  rw [HT.sIx_none, HT.sIx_nat, Nat.sub_zero, List.drop_zero]
  rw [List.take_eq_take_iff]
  omega
def isNew (ks : List KD) (s : Str) : Bool := !decide (s ∈ ks.map KD.name)
def isNewV (ks : List KD) : V → Bool
  | .str s => isNew ks s
  | _ => false
theorem rest_eq (ks : List KD) (ns : List Str) : (ns.map V.str).filter (isNewV ks) = (ns.filter (isNew ks)).map V.str := by
  rw [List.filter_map]
  rfl
theorem rest_some {ks : List KD} {ns : List Str} (l8 : ks.length ≤ 8) (nd : ns.Nodup) (n8 : 8 < ns.length) : 0 < (ns.filter (isNew ks)).length := by
  rcases Nat.eq_zero_or_pos (ns.filter (isNew ks)).length with h | h
  · exfalso
    have e := List.length_eq_zero_iff.mp h
    have := pigeon (ls := ks.map KD.name) nd fun s hs => by
      rw [List.filter_eq_nil_iff] at e
      have := e s hs
      unfold isNew at this
      simpa using this
    rw [List.length_map] at this
    omega
  · exact h
def spRow (K : Frg) : Sp := spDraw K (fun (x : (Addr × Addr × Int × List KD) × Addr × List Str) ws H => ws = [.ref x.1.1, .ref x.2.1] ∧ SideAt K H x.1.1 x.1.2.1 x.1.2.2.1 x.1.2.2.2 ∧ GoodT x.1.2.2.1 x.1.2.2.2 ∧ x.1.2.2.2.length ≤ 8 ∧ SqL K H x.2.1 (x.2.2.map V.str) ∧ (∀ s ∈ x.2.2, GoodN s) ∧ x.2.2.Nodup ∧ 8 < x.2.2.length ∧ x.2.2.length ≤ 1000)
  fun x H v H' => ∃ (p : Addr) (vs : List V) (rows : Row), v = .ref p ∧ H p = none ∧ H' p = some (.lst vs) ∧ RowG K H' vs rows 100
theorem r_row {K : Frg} {β : Bag} {H : Hp} {Q : VK} {E : XK} {b l n : Addr} {m : Int} {ks : List KD} {ns : List Str} (B : BagAt K β H) (S : SideAt K H b l m ks) (G : GoodT m ks) (l8 : ks.length ≤ 8) (hn : SqL K H n (ns.map V.str)) (gn : ∀ s ∈ ns, GoodN s) (nd : ns.Nodup) (n8 : 8 < ns.length) (n1 : ns.length ≤ 1000)
    (h : ∀ (p : Addr) (vs : List V) (rows : Row) H', Bg K β H H' → H p = none → H' p = some (.lst vs) → RowG K H' vs rows 100 → Q (.ref p) H') : spRow K ([.ref β.b, .ref b, .ref n] ++ []) H Q E :=
  ⟨β, ((b, l, m, ks), n, ns), _, rfl, B, ⟨rfl, S, G, l8, hn, gn, nd, n8, n1⟩, by rintro v H' e ⟨p, vs, rows, rfl, z, a, g⟩; exact h p vs rows H' e z a g⟩
section
variable {P : Program} {w : World} {K : Frg} {mg : Str → Option Value} {base : Heap}
theorem sc_law_row_of : FnScope ["_law_bag", "_law_side", "_law_names", "_law_signs", "_law_there", "_law_row", "_law_rest", "_law_at", "_law_kind", "_law_name"] ["_law_bag", "_law_side", "_law_names"] (defScope s_law_row_of) := ⟨rfl, rfl, rfl, by decide +kernel, rfl, by decide +kernel, by decide +kernel⟩
theorem ok_law_row_of (T : Txt P K mg) : Ok P w K mg base 6 (He.ga K "_law_row_of") ["_law_bag", "_law_side", "_law_names"] (spRow K) := by
  obtain ⟨fd, F⟩ := T.F_law_row_of
  have b : Binds K fd ["_law_bag", "_law_side", "_law_names"] [] := F.bindsN fun _ _ _ _ _ _ us hl => match us, hl with | [_, _, _], _ => rfl
  refine ok_of F b sc_law_row_of (fun vs H Q E h => ?_) (fun cdv A outer s H vs Q E hr h => ?_)
  · obtain ⟨β, x, ws, rfl, _, ⟨rfl, _⟩, _⟩ := h
    rfl
  · obtain ⟨β, ⟨⟨b, l, m, ks⟩, n, ns⟩, ws, rfl, B, ⟨rfl, S, G, l8, hn, gn, nd, n8, n1⟩, k⟩ := h
    dsimp only at S G l8 hn gn nd n8 n1 k ⊢
    have nb := S.nb B
    obtain ⟨us, c, hb, hl, hus, hC⟩ := S.ex
    have hm := G.m_
    have ul := DpAll.len hus
    rw [List.length_map] at ul
    refine ⟨_, (pss_cons (ps_set (i := 3) sc_law_row_of.nd rfl (Or.inr rfl) (pe_dget (hu_of hr) (pv 1) pe_str (fun _ _ => rfl)))
  (pss_cons (ps_set (i := 4) sc_law_row_of.nd rfl (Or.inr rfl) (pe_lc (own := [("_law_kind", 8)]) rfl sc_law_row_of.nd (pi_list (pe_dget (hu_of hr) (pv 1) pe_str (fun _ _ => rfl))) (blkOk_by (own := [("_law_kind", 8)]) (N := ["_law_bag", "_law_side", "_law_names", "_law_signs", "_law_there", "_law_row", "_law_rest", "_law_at", "_law_kind", "_law_name"]) (sc := defScope s_law_row_of) (by decide +kernel)) (fun _ _ _ _ _ => (pg_name (i := 8) sc_law_row_of.nd rfl (Or.inl rfl))) (fun _ _ _ _ _ => pts_nil) (fun _ _ _ _ _ => (pe_ix (ix_tupB (K := K) rfl) (pv 8) pe_int (fun _ _ => rfl)))))
  (pss_cons (ps_setLc (i := 5) (own := [("_law_kind", 8)]) rfl sc_law_row_of.nd rfl rfl (sw_true rfl rfl rfl (by decide +kernel)) (pi_list (pe_dget (hu_of hr) (pv 1) pe_str (fun _ _ => rfl))) (blkOk_by (own := [("_law_kind", 8)]) (N := ["_law_bag", "_law_side", "_law_names", "_law_signs", "_law_there", "_law_row", "_law_rest", "_law_at", "_law_kind", "_law_name"]) (sc := defScope s_law_row_of) (by decide +kernel)) (fun _ _ _ _ _ => (pg_name (i := 8) sc_law_row_of.nd rfl (Or.inl rfl))) (fun _ _ _ _ _ => pts_nil) (fun _ _ _ _ _ => (pe_tup (pa_cons (pv 3) (pa_cons (pv 8) pa_nil)))))
  (pss_cons (ps_setLc (i := 6) (own := [("_law_name", 9)]) rfl sc_law_row_of.nd rfl rfl (sw_true rfl rfl rfl (by decide +kernel)) (pi_list (pv 2)) (blkOk_by (own := [("_law_name", 9)]) (N := ["_law_bag", "_law_side", "_law_names", "_law_signs", "_law_there", "_law_row", "_law_rest", "_law_at", "_law_kind", "_law_name"]) (sc := defScope s_law_row_of) (by decide +kernel)) (fun _ _ _ _ _ => (pg_name (i := 9) sc_law_row_of.nd rfl (Or.inl rfl))) (fun _ _ _ _ _ => (pts_one (pt_cmpR (op_notIn_seqB (K := K) rfl) (pv 9) (pv 4) (by first | exact nomark _ | rfl)))) (fun _ _ _ _ _ => (pv 9)))
  (Evl.pss_cut (ps_if (pt_val (pk (ok_law_one_in T) hr rfl T.g_law_one_in (pa_cons (pv 0) (pa_cons pe_int pa_nil)))) (pss_one (ps_expr (pe_bm PySem.F.plainAttrs_list PySem.F.slot_list_extend PySem.F.type_list_extend mt_extend (pv 5) (pa_cons (pe_lc (own := [("_law_name", 9)]) rfl sc_law_row_of.nd (pi_list (pe_slice sl_list (pv 6) po_none (po_some (pe_op op_sub (pk (ok_law_choice T) hr rfl T.g_law_choice (pa_cons (pv 0) (pa_cons (pe_lst (pa_cons pe_int (pa_cons pe_int pa_nil))) pa_nil))) (pe_callB call_len_seq (by rfl) T.f_len (by decide +kernel) (pa_cons (pv 5) pa_nil)))))) (blkOk_by (own := [("_law_name", 9)]) (N := ["_law_bag", "_law_side", "_law_names", "_law_signs", "_law_there", "_law_row", "_law_rest", "_law_at", "_law_kind", "_law_name"]) (sc := defScope s_law_row_of) (by decide +kernel)) (fun _ _ _ _ _ => (pg_name (i := 9) sc_law_row_of.nd rfl (Or.inl rfl))) (fun _ _ _ _ _ => pts_nil) (fun _ _ _ _ _ => (pe_tup (pa_cons (pv 3) (pa_cons (pk (ok_law_new T) hr rfl T.g_law_new (pa_cons (pv 0) (pa_cons (pv 3) (pa_cons (pv 9) pa_nil)))) pa_nil))))) pa_nil)))) pss_nil)
  (Evl.pss_cut (ps_if (pt_val (pk (ok_law_one_in T) hr rfl T.g_law_one_in (pa_cons (pv 0) (pa_cons pe_int pa_nil)))) (pss_cons (ps_set (i := 7) sc_law_row_of.nd rfl (Or.inl rfl) (pk (ok_law_pick T) hr rfl T.g_law_pick (pa_cons (pv 0) (pa_cons (pe_op op_add (pe_callB call_len_seq (by rfl) T.f_len (by decide +kernel) (pa_cons (pv 5) pa_nil)) pe_int) pa_nil))))
  (pss_cons (ps_set (i := 5) sc_law_row_of.nd rfl (Or.inl rfl) (pe_op op_cat (pe_op op_cat (pe_slice sl_list (pv 5) po_none (po_some (pv 7))) (pe_lst (pa_cons (pe_tup (pa_cons (pe_op op_sub pe_int (pv 3)) (pa_cons (pk (ok_law_new T) hr rfl T.g_law_new (pa_cons (pv 0) (pa_cons (pe_op op_sub pe_int (pv 3)) (pa_cons (pk (ok_law_choice T) hr rfl T.g_law_choice (pa_cons (pv 0) (pa_cons (pv 2) pa_nil))) pa_nil)))) pa_nil))) pa_nil))) (pe_slice sl_list (pv 5) (po_some (pv 7)) po_none)))
  (pss_one (ps_if (pt_val (pk (ok_law_one_in T) hr rfl T.g_law_one_in (pa_cons (pv 0) (pa_cons pe_int pa_nil)))) (pss_one (ps_expr (pe_bm PySem.F.plainAttrs_list PySem.F.slot_list_append PySem.F.type_list_append mt_append (pv 5) (pa_cons (pe_tup (pa_cons (pe_op op_sub pe_int (pv 3)) (pa_cons (pk (ok_law_new T) hr rfl T.g_law_new (pa_cons (pv 0) (pa_cons (pe_op op_sub pe_int (pv 3)) (pa_cons (pe_ix ix_list (pv 6) pe_int (fun _ _ => rfl)) pa_nil)))) pa_nil))) pa_nil)))) pss_nil)))) (pss_one (ps_if (PW.pt (pw_and (pt_cmpR (op_neD hr.units) (pv 5) (pe_lst pa_nil) (by first | exact nomark _ | rfl)) (pw_and1 (pt_val (pk (ok_law_one_in T) hr rfl T.g_law_one_in (pa_cons (pv 0) (pa_cons pe_int pa_nil))))))) (pss_cons (ps_set (i := 7) sc_law_row_of.nd rfl (Or.inl rfl) (pk (ok_law_pick T) hr rfl T.g_law_pick (pa_cons (pv 0) (pa_cons (pe_op op_add (pe_callB call_len_seq (by rfl) T.f_len (by decide +kernel) (pa_cons (pv 5) pa_nil)) pe_int) pa_nil))))
  (pss_one (ps_set (i := 5) sc_law_row_of.nd rfl (Or.inl rfl) (pe_op op_cat (pe_op op_cat (pe_slice sl_list (pv 5) po_none (po_some (pv 7))) (pe_lst (pa_cons (pe_tup (pa_cons (pv 3) (pa_cons (pk (ok_law_new T) hr rfl T.g_law_new (pa_cons (pv 0) (pa_cons (pv 3) (pa_cons (pe_ix ix_tup (pe_ix ix_tup (pk (ok_law_choice T) hr rfl T.g_law_choice (pa_cons (pv 0) (pa_cons (pv 5) pa_nil))) pe_int (fun _ _ => rfl)) pe_int (fun _ _ => rfl)) pa_nil)))) pa_nil))) pa_nil))) (pe_slice sl_list (pv 5) (po_some (pv 7)) po_none))))) pss_nil)))
  (pss_one (ps_ret (pv 5))))))))), ?_⟩
    walk_at "rd"
    refine r_dgot (DGet_k hb side_sg) ?_
    walk_at "rd"
    refine r_dgot (DGet_k hb side_he) ?_
    refine lcL (P := fun i v _ => ∃ kd, ks[i]? = some kd ∧ v = .str kd.name) way_same (Same.refl _) (SqL.of hl) (by omega) (fun _ _ _ _ _ p => p) (fun i v H1 hi e1 Qe q => ?_) fun D H1 ys hD e1 hy hyl hq => ?_
    · refine r_name ⟨rfl, ?_⟩
      obtain ⟨d, h1, h2⟩ := DpAll.at_ hus hi
      rw [List.getElem?_map] at h1
      obtain ⟨kd, hkd, rfl⟩ := Option.map_eq_some_iff.mp h1
      obtain ⟨a, vt, vw, rfl, hs4, _, _⟩ := kd_at h2
      walk_at "rd"
      refine r_ixT (Sd.tup (Sd.of e1) hs4) (v := .str kd.name) (atI_nat (j := 0) rfl) ?_
      exact q _ _ (Same.refl _) ⟨kd, hkd, rfl⟩
    have hys := map_read (f := fun kd : KD => V.str kd.name) (by omega) hq
    rw [show (ks.map fun kd : KD => V.str kd.name) = (ks.map KD.name).map V.str by rw [List.map_map]; rfl] at hys
    subst hys
    walk_at "rd"
    refine r_dgot (DGet_k (e1 _ _ hb) side_he) ?_
    refine lcL (P := fun i v H' => ∃ (p : Addr) (u : V) (r : KD), us[i]? = some u ∧ ks[i]? = some r ∧ v = .ref p ∧ SqT K H' p [.int m, u]) way_same (Same.refl _) (SqL.of (e1 _ _ hl)) (by omega) (fun i v A B e ⟨p, u, r, h0, h1, h2, h3⟩ => ⟨p, u, r, h0, h1, h2, e.tup h3⟩) (fun i v' H2 hi e2 Qe qq => ?_) fun R H2 zs hR e2 hz hzl hzs => ?_
    · refine r_name ⟨rfl, ?_⟩
      walk_at "rd"
      refine ⟨by show 2 ≤ sizeLine; decide, fun t ht => ?_⟩
      have il := (List.getElem?_eq_some_iff.mp hi).1
      exact qq _ _ (Same.upd ht) ⟨t, v', ks[i], hi, List.getElem?_eq_getElem (by omega), rfl, SqT.of upd_same⟩
    walk_at "rd"
    have e12 := e1.trans e2
    refine lcF (isNewV ks) (Same.seq e12 hn) (by rw [List.length_map]; omega) (fun i v H3 hi e3 Qe Qn qe qn => ?_) fun Z H3 hZ e3 hz3 => ?_
    · refine r_name ⟨rfl, ?_⟩
      rw [List.getElem?_map] at hi
      obtain ⟨s', hs', rfl⟩ := Option.map_eq_some_iff.mp hi
      walk_at "rd"
      refine r_notIn (.inl (Same.seq (e2.trans e3) (SqL.of hy))) ?_
      refine r_bl ?_
      refine r_if2 (fun h => ?_) (fun h => ?_)
      · walk_at "rd"
        exact qe h
      · exact qn h
    rw [rest_eq] at hz3
    have rp := rest_some l8 nd n8
    have rg : ∀ s ∈ ns.filter (isNew ks), GoodN s := fun s hs => gn s (List.mem_filter.mp hs).1
    have rl : (ns.filter (isNew ks)).length ≤ 1000 := Nat.le_trans (List.length_filter_le _ _) n1
    generalize ns.filter (isNew ks) = rs at hz3 rp rg rl ⊢
    have hR3 := e3 _ _ hz
    have s03 : Same H H3 := e12.trans e3
    have f3 : Bg K β H H3 := Bg.same B s03
    have nR : H R = none := e1.free hR
    have g3 : RowG K H3 zs (ks.map (Prod.mk m)) 8 := by
      refine ⟨⟨by rw [List.length_map]; omega, fun i v' r h1 h2 => ?_⟩, fun r hr' => ?_, by rw [List.length_map]; omega⟩
      · obtain ⟨q, u, r', h3, h4, rfl, h5⟩ := hzs i v' h1
        rw [List.getElem?_map, h4] at h2
        cases (show some (m, r') = some r from h2)
        obtain ⟨d, h6, h7⟩ := DpAll.at_ hus h3
        rw [List.getElem?_map, h4] at h6
        cases (show some r'.data = some d from h6)
        exact ⟨q, u, rfl, Sd.tup (Sd.of e3) h5, Dp.sd (Sd.of s03) _ _ (flat_kd r') h7⟩
      · obtain ⟨q, hq, rfl⟩ := List.mem_map.mp hr'
        exact G.good q hq
    generalize ks.map (Prod.mk m) = rows at g3
    walk_at "rd"
    refine ⟨fun σ' H' => ∃ (vs : List V) (rows : Row), σ' = [some (.ref β.b), some (.ref b), some (.ref n), some (.int m), some (.ref D), some (.ref R), some (.ref Z), none, none, none] ∧ Bg K β H H' ∧ H' R = some (.lst vs) ∧ RowG K H' vs rows 20 ∧ H' Z = some (.lst (rs.map V.str)), ?_, ?_⟩
    · walk_at "rd"
      refine r_one f3.bag (by decide) (by decide) fun q H4 e4 => ?_
      have f4 := f3.trans e4
      have hR4 := way_bag.lst e4 hR3
      have hZ4 := way_bag.lst e4 hz3
      have g4 := g3.sd (way_bag.sd e4)
      cases q with
      | false =>
        refine r_bl (r_iF ?_)
        walk_at "rd"
        exact ⟨zs, rows, rfl, f4, hR4, g4.mono (by decide), hZ4⟩
      | true =>
        refine r_bl (r_iT ?_)
        walk_at "rd"
        refine r_tyL hR4 ?_
        walk_at "rd"
        refine ⟨by show 2 ≤ sizeLine; decide, fun p hp => ?_⟩
        have e5 : Bg K β H4 (upd H4 p (.lst [V.int 8, V.int 9])) := Bg.new f4.bag hp
        have hp5 : SqL K (upd H4 p (.lst [V.int 8, V.int 9])) p [V.int 8, V.int 9] := SqL.of upd_same
        generalize upd H4 p (.lst [V.int 8, V.int 9]) = H5 at e5 hp5 ⊢
        walk_at "rd"
        refine r_choice e5.bag hp5 (by decide) (by decide) fun j pv H6 hpv e6 => ?_
        have e6 := e5.trans e6
        obtain ⟨c9, rfl, c0, c1⟩ : ∃ c : Nat, pv = .int (c : Int) ∧ 8 ≤ c ∧ c ≤ 9 := by
          have := List.mem_of_getElem? hpv
          simp only [List.mem_cons, List.not_mem_nil, or_false] at this
          rcases this with rfl | rfl
          · exact ⟨8, rfl, by decide, by decide⟩
          · exact ⟨9, rfl, by decide, by decide⟩
        have hR6 := way_bag.lst e6 hR4
        have hZ6 := way_bag.lst e6 hZ4
        have zl := g3.ln
        walk_at "rd"
        refine ⟨_, _, rfl, .inl (SqL.of hR6), ?_⟩
        walk_at "rd"
        obtain ⟨j2, ej⟩ : ∃ j2 : Nat, (c9 : Int) - (zs.length : Int) = (j2 : Int) := ⟨c9 - zs.length, by omega⟩
        rw [ej]
        refine ⟨_, rfl, r_slL (SqL.of hZ6) fun p2 hp2 => ?_⟩
        rw [cut_any, ← List.map_take]
        have jl : (rs.take j2).length ≤ 9 := by rw [List.length_take]; omega
        have gs : ∀ s ∈ rs.take j2, GoodN s := fun s hs => rg s (List.mem_of_mem_take hs)
        generalize rs.take j2 = rt at jl gs ⊢
        have e7 := e6.trans (Bg.new (o := .lst (rt.map V.str)) e6.bag hp2)
        have hp7 : SqL K (upd H6 p2 (.lst (rt.map V.str))) p2 (rt.map V.str) := SqL.of upd_same
        generalize upd H6 p2 (.lst (rt.map V.str)) = H7 at e7 hp7 ⊢
        refine lcL (P := fun i v H' => ∃ (p : Addr) (u : V) (kd : KD), v = .ref p ∧ SqT K H' p [.int m, u] ∧ Dp K H' u kd.data ∧ GoodK m kd) way_bag (Bg.refl e7.bag) hp7 (by rw [List.length_map]; omega) (fun i v A B e ⟨p, u, kd, h1, h2, h3, h4⟩ => ⟨p, u, kd, h1, e.tup h2, Dp.sd e _ _ (flat_kd kd) h3, h4⟩) (fun i v H8 hi e8 Qe qq => ?_) fun W H8 ys hW e8 hy8 hyl8 hqs => ?_
        · refine r_name ⟨rfl, ?_⟩
          rw [List.getElem?_map] at hi
          obtain ⟨s, hs, rfl⟩ := Option.map_eq_some_iff.mp hi
          walk_at "rd"
          refine r_new (E := E0) e8.bag hm (gs s (List.mem_of_getElem? hs)) fun v kd H9 e9 hv Gk hname => ?_
          walk_at "rd"
          refine ⟨by show 2 ≤ sizeLine; decide, fun t ht => ?_⟩
          exact qq _ _ (e9.trans (Bg.new e9.bag ht)) ⟨t, v, kd, rfl, SqT.of upd_same, Dp.same (Same.upd ht) hv, Gk⟩
        rw [List.length_map] at hyl8
        obtain ⟨kds, kl, hkds⟩ := pick_list (A := fun i v kd => ∃ (p : Addr) (u : V), v = .ref p ∧ SqT K H8 p [.int m, u] ∧ Dp K H8 u kd.data ∧ GoodK m kd) fun i y hy => by
          obtain ⟨p, u, kd, h1, h2, h3, h4⟩ := hqs i y hy
          exact ⟨kd, p, u, h1, h2, h3, h4⟩
        have g8 : RowG K H8 ys (kds.map (Prod.mk m)) 9 := by
          refine ⟨⟨by rw [List.length_map]; omega, fun i v' r h1 h2 => ?_⟩, fun r hr' => ?_, by rw [List.length_map]; omega⟩
          · rw [List.getElem?_map] at h2
            obtain ⟨kd, h3, rfl⟩ := Option.map_eq_some_iff.mp h2
            obtain ⟨p, u, h4, h5, h6, _⟩ := hkds i v' kd h1 h3
            exact ⟨p, u, h4, h5, h6⟩
          · obtain ⟨kd, hkd, rfl⟩ := List.mem_map.mp hr'
            obtain ⟨i, hi⟩ := List.mem_iff_getElem?.mp hkd
            have il := (List.getElem?_eq_some_iff.mp hi).1
            obtain ⟨_, _, _, _, _, z⟩ := hkds i _ kd (List.getElem?_eq_getElem (by omega)) hi
            exact z
        have e8 := e7.trans e8
        have f8 := f4.trans e8
        have hR8 := way_bag.lst e8 hR4
        have hZ8 := way_bag.lst e8 hZ4
        have g8' := (g4.sd (way_bag.sd e8)).append g8
        walk_at "rd"
        refine ⟨R, W, _, _, rfl, rfl, hR8, hy8, Nat.le_trans (by omega) line_big, ?_⟩
        walk_at "rd"
        have sdx : Sd H8 (upd H8 R (.lst (zs ++ ys))) := Sd.lst hR8
        refine ⟨zs ++ ys, _, rfl, f8.mut nR, upd_same, (g8'.sd sdx).mono (by decide), ?_⟩
        rw [upd_ne (ne_of_none hz hZ).symm]
        exact hZ8
    clear f3 hR3 hz3 g3 rows
    rintro σ' H4 ⟨vs, rows, rfl, f4, hR4, g4, hZ4⟩
    walk_at "rd"
    refine ⟨fun σ' H' => ∃ (R' : Addr) (vs : List V) (rows : Row) (o7 : Option V), σ' = [some (.ref β.b), some (.ref b), some (.ref n), some (.int m), some (.ref D), some (.ref R'), some (.ref Z), o7, none, none] ∧ Bg K β H H' ∧ H R' = none ∧ H' R' = some (.lst vs) ∧ RowG K H' vs rows 100, ?_, ?_⟩
    · walk_at "rd"
      refine r_one f4.bag (by decide) (by decide) fun q H5 e5 => ?_
      have f5 := f4.trans e5
      have hR5 := way_bag.lst e5 hR4
      have hZ5 := way_bag.lst e5 hZ4
      have g5 := g4.sd (way_bag.sd e5)
      have vl := g4.ln
      cases q with
      | true =>
        refine r_bl (r_iT ?_)
        walk_at "rd"
        refine ⟨_, _, rfl, .inl (SqL.of hR5), ?_⟩
        walk_at "rd"
        refine r_pick f5.bag (by omega) (by omega) fun j H6 e6 j0 j1 => ?_
        obtain ⟨j, rfl⟩ : ∃ i : Nat, j = (i : Int) := ⟨j.toNat, by omega⟩
        have hj : j ≤ vs.length := by omega
        have f6 := f5.trans e6
        have hR6 := way_bag.lst e6 hR5
        walk_at "rd"
        refine ⟨_, rfl, r_slL (SqL.of hR6) fun p1 hp1 => ?_⟩
        rw [cut_take hj]
        have s7 := Same.upd (o := .lst (vs.take j)) hp1
        have hp7 : upd H6 p1 (.lst (vs.take j)) p1 = some (.lst (vs.take j)) := upd_same
        generalize upd H6 p1 (.lst (vs.take j)) = H7 at s7 hp7 ⊢
        have f7 := f6.trans (Bg.same f6.bag s7)
        have e67 := e6.trans (Bg.same e6.bag s7)
        have hR7 := s7 _ _ hR6
        walk_at "rd"
        refine r_choice f7.bag (way_bag.seq f7 hn) (by rw [List.length_map]; omega) (by rw [List.length_map]; omega) fun j' v H8 hv e8 => ?_
        rw [List.getElem?_map] at hv
        obtain ⟨s, hs, rfl⟩ := Option.map_eq_some_iff.mp hv
        walk_at "rd"
        refine r_new (E := E0) e8.bag (signs5 hm) (gn s (List.mem_of_getElem? hs)) fun kv kd H9 e9 hkv Gk hname => ?_
        have e9 := e8.trans e9
        walk_at "rd"
        refine ⟨by show 2 ≤ sizeLine; decide, fun t ht => ?_⟩
        have s10 := Same.upd (o := .tup [V.int (5 - m), kv]) ht
        have ht10 : SqT K (upd H9 t (.tup [V.int (5 - m), kv])) t [V.int (5 - m), kv] := SqT.of upd_same
        generalize upd H9 t (.tup [V.int (5 - m), kv]) = H10 at s10 ht10 ⊢
        walk_at "rd"
        refine ⟨by show 1 ≤ sizeLine; decide, fun p2 hp2 => ?_⟩
        have s11 := Same.upd (o := .lst [V.ref t]) hp2
        have hp11 : upd H10 p2 (.lst [V.ref t]) p2 = some (.lst [V.ref t]) := upd_same
        generalize upd H10 p2 (.lst [V.ref t]) = H11 at s11 hp11 ⊢
        have s911 := s10.trans s11
        refine ⟨p1, p2, _, _, rfl, rfl, s911 _ _ (way_bag.lst e9 hp7), hp11, ?_, fun p3 hp3 => ?_⟩
        · exact Nat.le_trans (by rw [List.length_take]; simp; omega) line_big
        have s12 := Same.upd (o := .lst (vs.take j ++ [V.ref t])) hp3
        have hp12 : upd H11 p3 (.lst (vs.take j ++ [V.ref t])) p3 = some (.lst (vs.take j ++ [V.ref t])) := upd_same
        generalize upd H11 p3 (.lst (vs.take j ++ [V.ref t])) = H12 at s12 hp12 ⊢
        walk_at "rd"
        have f9 := f7.trans e9
        have s912 := s911.trans s12
        have hR12 := s912 _ _ (way_bag.lst e9 hR7)
        refine ⟨_, rfl, ?_⟩
        walk_at "rd"
        refine r_slL (SqL.of hR12) fun p4 hp4 => ?_
        rw [cut_drop hj]
        have s13 := Same.upd (o := .lst (vs.drop j)) hp4
        have hp13 : upd H12 p4 (.lst (vs.drop j)) p4 = some (.lst (vs.drop j)) := upd_same
        generalize upd H12 p4 (.lst (vs.drop j)) = H13 at s13 hp13 ⊢
        refine ⟨p3, p4, _, _, rfl, rfl, s13 _ _ hp12, hp13, ?_, fun p5 hp5 => ?_⟩
        · exact Nat.le_trans (by rw [List.length_append, List.length_take, List.length_drop]; simp; omega) line_big
        have s14 := Same.upd (o := .lst (vs.take j ++ [V.ref t] ++ vs.drop j)) hp5
        have hp14 : upd H13 p5 (.lst (vs.take j ++ [V.ref t] ++ vs.drop j)) p5 = some (.lst (vs.take j ++ [V.ref t] ++ vs.drop j)) := upd_same
        have n5 : H p5 = none := f9.none (((s912.trans s13)).free hp5)
        generalize upd H13 p5 (.lst (vs.take j ++ [V.ref t] ++ vs.drop j)) = H14 at s14 hp14 ⊢
        have s914 := (s912.trans s13).trans s14
        have f14 := f9.trans (Bg.same f9.bag s914)
        have g14 := (g5.sd (way_bag.sd (e67.trans (e9.trans (Bg.same e9.bag s914))))).put j (.one (Sd.tup (Sd.of (((s11.trans s12).trans s13).trans s14)) ht10) (Dp.same s914 hkv) Gk)
        walk_at "rd"
        have hZ14 := s914 _ _ (way_bag.lst (e67.trans e9) hZ5)
        have nZ : Z ≠ p5 := ne_of_none ((s912.trans s13) _ _ (way_bag.lst (e67.trans e9) hZ5)) hp5
        refine r_one f14.bag (by decide) (by decide) fun q H15 e15 => ?_
        have f15 := f14.trans e15
        have hp15 := way_bag.lst e15 hp14
        have g15 := g14.sd (way_bag.sd e15)
        cases q with
        | false =>
          refine r_bl (r_iF ?_)
          walk_at "rd"
          exact ⟨p5, _, _, _, rfl, f15, n5, hp15, g15.mono (by decide)⟩
        | true =>
          refine r_bl (r_iT ?_)
          walk_at "rd"
          refine r_tyL hp15 ?_
          walk_at "rd"
          have r0 : rs[0]? = some rs[0] := List.getElem?_eq_getElem rp
          refine r_ixL (SqL.of (way_bag.lst e15 hZ14)) (v := .str rs[0]) (atI_nat (j := 0) (by rw [List.getElem?_map, r0]; rfl)) ?_
          walk_at "rd"
          refine r_new (E := E0) f15.bag (signs5 hm) (rg _ (List.getElem_mem rp)) fun kv2 kd2 H16 e16 hkv2 Gk2 hname2 => ?_
          walk_at "rd"
          refine ⟨by show 2 ≤ sizeLine; decide, fun t2 ht2 => ?_⟩
          have s17 := Same.upd (o := .tup [V.int (5 - m), kv2]) ht2
          have ht17 : SqT K (upd H16 t2 (.tup [V.int (5 - m), kv2])) t2 [V.int (5 - m), kv2] := SqT.of upd_same
          generalize upd H16 t2 (.tup [V.int (5 - m), kv2]) = H17 at s17 ht17 ⊢
          have e17 := e16.trans (Bg.same e16.bag s17)
          have hp17 := way_bag.lst e17 hp15
          walk_at "rd"
          have l15 := g15.ln
          refine r_append hp17 (by omega) ?_
          walk_at "rd"
          have g17 := (g15.sd (way_bag.sd e17)).append (RowG.one ht17 (Dp.same s17 hkv2) Gk2)
          exact ⟨p5, _, _, _, rfl, (f15.trans e17).mut n5, n5, upd_same, (g17.sd (Sd.lst hp17)).mono (by decide)⟩
      | false =>
        refine r_bl (r_iF ?_)
        walk_at "rd"
        refine ⟨by show 0 ≤ sizeLine; decide, fun z hz => ?_⟩
        walk_at "rd"
        have s6 := Same.upd (o := .lst ([] : List V)) hz
        have hz6 : Dp K (upd H5 z (.lst ([] : List V))) (.ref z) (.list []) := .lst (SqL.of upd_same) .nil
        generalize upd H5 z (.lst ([] : List V)) = H6 at s6 hz6 ⊢
        have f6 := f5.trans (Bg.same f5.bag s6)
        have hR6 := s6 _ _ hR5
        have g6 := g5.sd (Sd.of s6)
        refine r_neD (.lst (SqL.of hR6) g6.dp) hz6 g6.shaped shaped_nil ?_
        rw [eqv_nil, List.length_map]
        refine r_bl ?_
        by_cases h0 : rows.length = 0
        · rw [decide_eq_true h0]
          refine r_iF ?_
          walk_at "rd"
          exact ⟨R, vs, rows, _, rfl, f6, nR, hR6, g6.mono (by decide)⟩
        rw [decide_eq_false h0]
        refine r_iT ?_
        walk_at "rd"
        refine r_one f6.bag (by decide) (by decide) fun q H6b e6b => ?_
        have f6b := f6.trans e6b
        have hR6b := way_bag.lst e6b hR6
        have g6b := g6.sd (way_bag.sd e6b)
        cases q with
        | false =>
          refine r_bl (r_iF ?_)
          walk_at "rd"
          exact ⟨R, vs, rows, _, rfl, f6b, nR, hR6b, g6b.mono (by decide)⟩
        | true =>
        refine r_bl (r_iT ?_)
        walk_at "rd"
        have gl := g5.at_.1
        refine ⟨_, _, rfl, .inl (SqL.of hR6b), ?_⟩
        walk_at "rd"
        refine r_pick f6b.bag (by omega) (by omega) fun j H6c e6c j0 j1 => ?_
        obtain ⟨j, rfl⟩ : ∃ i : Nat, j = (i : Int) := ⟨j.toNat, by omega⟩
        have hj : j ≤ vs.length := by omega
        have f6c := f6b.trans e6c
        have hR6c := way_bag.lst e6c hR6b
        walk_at "rd"
        refine ⟨_, rfl, r_slL (SqL.of hR6c) fun p1 hp1 => ?_⟩
        rw [cut_take hj]
        have s7 := Same.upd (o := .lst (vs.take j)) hp1
        have hp7 : upd H6c p1 (.lst (vs.take j)) p1 = some (.lst (vs.take j)) := upd_same
        generalize upd H6c p1 (.lst (vs.take j)) = H7 at s7 hp7 ⊢
        have f7 := f6c.trans (Bg.same f6c.bag s7)
        have e67 := ((Bg.same f5.bag s6).trans (e6b.trans e6c)).trans (Bg.same f6c.bag s7)
        have hR7 := s7 _ _ hR6c
        walk_at "rd"
        refine r_choice f7.bag (SqL.of hR7) (by omega) (by omega) fun j' v H8 hv e8 => ?_
        obtain ⟨r8, hr8, p8, u8, rfl, hp8, hu8⟩ := (g5.at_.sd (way_bag.sd (e67.trans e8))).get hv
        obtain ⟨a8, vt8, vw8, rfl, hs8, _, _⟩ := kd_at hu8
        walk_at "rd"
        refine r_ixT hp8 (v := .ref a8) (atI_nat (j := 1) rfl) ?_
        walk_at "rd"
        refine r_ixT hs8 (v := .str r8.2.name) (atI_nat (j := 0) rfl) ?_
        walk_at "rd"
        refine r_new (E := E0) e8.bag hm (g5.good r8 (List.mem_of_getElem? hr8)).name fun kv kd H9 e9 hkv Gk hname => ?_
        have e9 := e8.trans e9
        walk_at "rd"
        refine ⟨by show 2 ≤ sizeLine; decide, fun t ht => ?_⟩
        have s10 := Same.upd (o := .tup [V.int m, kv]) ht
        have ht10 : SqT K (upd H9 t (.tup [V.int m, kv])) t [V.int m, kv] := SqT.of upd_same
        generalize upd H9 t (.tup [V.int m, kv]) = H10 at s10 ht10 ⊢
        walk_at "rd"
        refine ⟨by show 1 ≤ sizeLine; decide, fun p2 hp2 => ?_⟩
        have s11 := Same.upd (o := .lst [V.ref t]) hp2
        have hp11 : upd H10 p2 (.lst [V.ref t]) p2 = some (.lst [V.ref t]) := upd_same
        generalize upd H10 p2 (.lst [V.ref t]) = H11 at s11 hp11 ⊢
        have s911 := s10.trans s11
        refine ⟨p1, p2, _, _, rfl, rfl, s911 _ _ (way_bag.lst e9 hp7), hp11, ?_, fun p3 hp3 => ?_⟩
        · exact Nat.le_trans (by rw [List.length_take]; simp; omega) line_big
        have s12 := Same.upd (o := .lst (vs.take j ++ [V.ref t])) hp3
        have hp12 : upd H11 p3 (.lst (vs.take j ++ [V.ref t])) p3 = some (.lst (vs.take j ++ [V.ref t])) := upd_same
        generalize upd H11 p3 (.lst (vs.take j ++ [V.ref t])) = H12 at s12 hp12 ⊢
        walk_at "rd"
        have f9 := f7.trans e9
        have s912 := s911.trans s12
        have hR12 := s912 _ _ (way_bag.lst e9 hR7)
        refine ⟨_, rfl, ?_⟩
        walk_at "rd"
        refine r_slL (SqL.of hR12) fun p4 hp4 => ?_
        rw [cut_drop hj]
        have s13 := Same.upd (o := .lst (vs.drop j)) hp4
        have hp13 : upd H12 p4 (.lst (vs.drop j)) p4 = some (.lst (vs.drop j)) := upd_same
        generalize upd H12 p4 (.lst (vs.drop j)) = H13 at s13 hp13 ⊢
        refine ⟨p3, p4, _, _, rfl, rfl, s13 _ _ hp12, hp13, ?_, fun p5 hp5 => ?_⟩
        · exact Nat.le_trans (by rw [List.length_append, List.length_take, List.length_drop]; simp; omega) line_big
        have s14 := Same.upd (o := .lst (vs.take j ++ [V.ref t] ++ vs.drop j)) hp5
        have hp14 : upd H13 p5 (.lst (vs.take j ++ [V.ref t] ++ vs.drop j)) p5 = some (.lst (vs.take j ++ [V.ref t] ++ vs.drop j)) := upd_same
        have n5 : H p5 = none := f9.none (((s912.trans s13)).free hp5)
        generalize upd H13 p5 (.lst (vs.take j ++ [V.ref t] ++ vs.drop j)) = H14 at s14 hp14 ⊢
        have s914 := (s912.trans s13).trans s14
        have f14 := f9.trans (Bg.same f9.bag s914)
        have g14 := (g5.sd (way_bag.sd (e67.trans (e9.trans (Bg.same e9.bag s914))))).put j (.one (Sd.tup (Sd.of (((s11.trans s12).trans s13).trans s14)) ht10) (Dp.same s914 hkv) Gk)
        walk_at "rd"
        exact ⟨p5, _, _, _, rfl, f14, n5, hp14, g14.mono (by decide)⟩
    rintro σ' H5 ⟨R', vs, rows, o7, rfl, f5, nR', hR5, g5⟩
    walk_at "rd"
    exact k _ _ f5 ⟨R', vs, rows, rfl, nR', hR5, g5⟩
end
end Tx

/-! ## Pr14 -/
set_option maxHeartbeats 4000000
/-! A row of kinds at once: what the law asks of it. -/
namespace Tx
open PySem PySem.Spec PyProof.Rows L2 Gd
local macro_rules | `(tactic| walk_at "rd1") => `(tactic| first
  | ((with_reducible show tVar _ _ _ _); refine r_var (by rfl) ?_)
  | with_reducible refine r_c ?_
  | with_reducible refine r_seq ?_
  | with_reducible refine r_asg ?_
  | with_reducible refine r_name ?_
  | with_reducible refine r_op ?_
  | with_reducible refine r_I0 ?_
  | with_reducible refine r_cons ?_
  | with_reducible refine r_nil ?_
  | with_reducible refine r_call ?_
  | with_reducible refine r_ret ?_
  | with_reducible refine r_cb ?_
  | with_reducible refine r_ifS ?_
  | with_reducible refine r_test ?_
  | with_reducible refine r_bl ?_
  | with_reducible refine r_dget ?_
  | with_reducible refine r_dput ?_
  | ((with_reducible show (∃ k, [V.int _] = [V.int k] ∧ _) ∨ _); refine Or.inl ⟨_, rfl, ?_⟩)
  | with_reducible refine r_lcR ?_
  | with_reducible refine r_lcL ?_
  | with_reducible refine r_lcT ?_
  | with_reducible refine r_m1 ?_
  | with_reducible refine r_gSub ?_
  | with_reducible refine r_forR ?_
  | with_reducible refine r_forL ?_
  | with_reducible refine r_forT ?_
  | with_reducible refine r_bm ?_
  | with_reducible refine r_next ?_
  | with_reducible refine r_B ?_
  | with_reducible refine r_not ?_
  | with_reducible refine r_and ?_
  | with_reducible refine r_or ?_
  | with_reducible refine r_andV ?_
  | with_reducible refine r_orV ?_
  | with_reducible refine r_notV ?_
  | with_reducible refine r_ifE ?_
  | with_reducible refine r_drop ?_
  | with_reducible refine r_tup ?_
  | with_reducible refine r_lst ?_
  | with_reducible refine r_un ?_
  | with_reducible refine r_U ?_)
local macro_rules | `(tactic| walk_at "rd") => `(tactic| repeat walk_at "rd1")
local macro_rules | `(tactic| walk_at "rd1") => `(tactic| first
  | with_reducible refine r_lcS ?_
  | with_reducible refine r_sl ?_
  | with_reducible refine r_noPart ?_
  | with_reducible refine r_partE ?_
  | with_reducible refine r_sfld ?_
  | with_reducible refine r_gc ?_
  | with_reducible refine r_gn ?_
  | with_reducible refine r_forE ?_
  | with_reducible refine r_makeK ?_
  | with_reducible refine r_make ?_
  | with_reducible refine r_fld ?_
  | with_reducible refine r_prop ?_
  | with_reducible refine r_meth ?_
  | with_reducible refine r_js ?_
  | with_reducible refine r_jn ?_
  | with_reducible refine r_fmt ?_
  | with_reducible refine r_chain ?_)
local macro_rules | `(tactic| walk_at "rd1") => `(tactic| first
  | with_reducible refine r_sfa ?_
  | with_reducible refine r_methR ?_)
local macro_rules | `(tactic| walk_at "rd1") => `(tactic| first
  | with_reducible refine r_sErr ?_)
local macro_rules | `(tactic| walk_at "rd1") => `(tactic| first
  | with_reducible refine r_star ?_
  | with_reducible refine r_callS ?_
  | with_reducible refine r_makeX ?_
  | with_reducible refine r_makeXD ?_
  | with_reducible refine r_xf ?_
  | with_reducible refine r_ixO ?_
  | with_reducible refine r_addO ?_
  | with_reducible refine r_lcF ?_)
/-- signs that a row may be made with -/
def SgOk (K : Frg) (H : Hp) (v : V) : Prop := ∃ sgd, Dp K H v sgd ∧ ((∃ m, v = .int m) ∨ OddV K H v) ∧ Shw (dueD sgd .bad)
section
variable {K : Frg} {H H' : Hp} {v : V}
theorem SgOk.same (h : SgOk K H v) (e : Same H H') : SgOk K H' v := by
  obtain ⟨d, a, b, c⟩ := h
  exact ⟨d, Dp.same e a, odd_grow e b, c⟩
theorem sg_m {m : Int} (h : Mm m) : SgOk K H (.int m) := ⟨_, .int m, .inl ⟨m, rfl⟩, shw_bad (sm_m h)⟩
theorem sg_small {m : Int} (h0 : 0 ≤ m) (h1 : m ≤ 600) : SgOk K H (.int m) := ⟨_, .int m, .inl ⟨m, rfl⟩, shw_bad ((Sm.int h0 h1 (k := 3)).mono (by decide) (Nat.le_refl _))⟩
theorem sg_neg : SgOk K H (.int (-2)) := ⟨_, .int (-2), .inl ⟨_, rfl⟩, shw_bad ⟨by decide +kernel, rfl, by decide +kernel, by decide +kernel, by decide +kernel⟩⟩
theorem sg_big : SgOk K H (.int (10 ^ (30 : Int).toNat)) := ⟨_, .int _, .inl ⟨_, rfl⟩, ⟨by decide +kernel, by decide +kernel, by decide +kernel, Nat.le_trans (by decide +kernel : (PyData.shown (dueD (.int (10 ^ (30 : Int).toNat)) .bad)).length ≤ 1000000) line_big⟩⟩
theorem sg_non : SgOk K H .non := ⟨_, .non, .inr (.inl ⟨_, .base .non, rfl⟩), shw_bad ⟨by decide +kernel, rfl, by decide +kernel, by decide +kernel, by decide +kernel⟩⟩
theorem sg_true : SgOk K H (.bl true) := ⟨_, .bl true, .inr (.inr ⟨_, rfl⟩), shw_bad ⟨by decide +kernel, rfl, by decide +kernel, by decide +kernel, by decide +kernel⟩⟩
theorem sg_two : SgOk K H (.str "2") := ⟨_, .str "2", .inr (.inl ⟨_, .base (.str _), rfl⟩), shw_bad ⟨by decide +kernel, rfl, by decide +kernel, by decide +kernel, by decide +kernel⟩⟩
theorem sg_list {p : Addr} (h : H p = some (.lst [.int 2])) : SgOk K H (.ref p) := ⟨_, .lst (SqL.of h) (.cons (.int 2) .nil), .inr (.inl ⟨_, .base (.lst h), rfl⟩), shw_bad ⟨by decide +kernel, by decide +kernel, by decide +kernel, by decide +kernel, by decide +kernel⟩⟩
end
theorem due_int {sg : V} {rows : Row} (h : dueOf sg rows = .ok) : ∃ m, sg = .int m ∧ Mm m ∧ dueRow m rows = .ok := by
  cases sg with
  | int m =>
    unfold dueOf at h
    simp only at h
    by_cases e : 2 ≤ m ∧ m ≤ 3
    · rw [if_pos e] at h
      refine ⟨m, rfl, ?_, h⟩
      have : m = 2 ∨ m = 3 := by omega
      exact this
    · rw [if_neg e] at h
      cases h
  | _ => cases h
def spRows (K : Frg) : Sp := fun vs H Q _ => ∃ (β : Bag) (b l n : Addr) (m : Int) (ks : List KD) (ns : List Str), vs = [.ref β.b, .ref b, .ref n] ∧ BagAt K β H ∧ SideAt K H b l m ks ∧ GoodT m ks ∧ ks.length ≤ 8 ∧ H n = some (.lst (ns.map V.str)) ∧ (∀ s ∈ ns, GoodN s) ∧ ns.Nodup ∧ 8 < ns.length ∧ ns.length ≤ 1000 ∧
  ∀ H', Bg K β H H' → Q (.bl true) H'
section
variable {P : Program} {w : World} {K : Frg} {mg : Str → Option Value} {base : Heap}
theorem sc_law_rows_told : FnScope ["_law_bag", "_law_side", "_law_names", "_law_signs", "_law_row", "_law_things", "_law_due", "_law_answer", "_law_one"] ["_law_bag", "_law_side", "_law_names"] (defScope s_law_rows_told) := ⟨rfl, rfl, rfl, by decide +kernel, rfl, by decide +kernel, by decide +kernel⟩
theorem ok_law_rows_told (T : Txt P K mg) : OkG P w K mg base 9 (He.ga K "_law_rows_told") ["_law_bag", "_law_side", "_law_names"] (spRows K) := by
  obtain ⟨fd, F⟩ := T.F_law_rows_told
  have b : Binds K fd ["_law_bag", "_law_side", "_law_names"] [] := F.bindsN fun _ _ _ _ _ _ us hl => match us, hl with | [_, _, _], _ => rfl
  refine okG_of F b sc_law_rows_told (fun vs H Q E h => ?_) (fun cdv A outer s H vs Q hgd hr h => ?_)
  · obtain ⟨β, b, l, n, m, ks, ns, rfl, _⟩ := h
    rfl
  · obtain ⟨β, b, l, n, m, ks, ns, rfl, B, S, G, l8, hn, gn, nd, n8, n1, k⟩ := h
    have nb := S.nb B
    have S0 := S
    obtain ⟨us, c, hb, hl, hus, hC⟩ := S.ex
    have hm := G.m_
    refine ⟨_, (pss_cons (ps_set (i := 3) sc_law_rows_told.nd rfl (Or.inl rfl) (pe_dget (hu_of hr) (pv 1) pe_str (fun _ _ => rfl)))
  (pss_cons (ps_set (i := 4) sc_law_rows_told.nd rfl (Or.inl rfl) (pk (ok_law_row_of T) hr rfl T.g_law_row_of (pa_cons (pv 0) (pa_cons (pv 1) (pa_cons (pv 2) pa_nil)))))
  (pss_cons (ps_setLc (i := 5) (own := [("_law_one", 8)]) rfl sc_law_rows_told.nd rfl rfl (sw_true rfl rfl rfl (by decide +kernel)) (pi_list (pv 4)) (blkOk_by (own := [("_law_one", 8)]) (N := ["_law_bag", "_law_side", "_law_names", "_law_signs", "_law_row", "_law_things", "_law_due", "_law_answer", "_law_one"]) (sc := defScope s_law_rows_told) (by decide +kernel)) (fun _ _ _ _ _ => (pg_name (i := 8) sc_law_rows_told.nd rfl (Or.inl rfl))) (fun _ _ _ _ _ => pts_nil) (fun _ _ _ _ _ => (pk (ok_law_object T) hr rfl T.g_law_object (pa_cons (pe_ix (ix_tupB (K := K) rfl) (pv 8) pe_int (fun _ _ => rfl)) (pa_cons (pe_ix (ix_tupB (K := K) rfl) (pv 8) pe_int (fun _ _ => rfl)) pa_nil)))))
  (Evl.pss_cut (ps_if (pt_val (pk (ok_law_one_in T) hr rfl T.g_law_one_in (pa_cons (pv 0) (pa_cons pe_int pa_nil)))) (pss_one (ps_set (i := 3) sc_law_rows_told.nd rfl (Or.inl rfl) (pk (ok_law_choice T) hr rfl T.g_law_choice (pa_cons (pv 0) (pa_cons (pe_lst (pa_cons pe_int (pa_cons pe_int (pa_cons pe_int (pa_cons (pe_un un_neg pe_int) (pa_cons pe_non (pa_cons pe_bl (pa_cons pe_str (pa_cons (pe_op op_pow pe_int pe_int) (pa_cons (pe_lst (pa_cons pe_int pa_nil)) pa_nil)))))))))) pa_nil))))) pss_nil)
  (pss_cons (ps_set (i := 6) sc_law_rows_told.nd rfl (Or.inl rfl) (pk (ok_law_due_of T) hr rfl T.g_law_due_of (pa_cons (pv 3) (pa_cons (pv 4) pa_nil))))
  (pss_cons (ps_set (i := 7) sc_law_rows_told.nd rfl (Or.inl rfl) (pk (ok_law_at_once T) hr rfl T.g_law_at_once (pa_cons (pv 3) (pa_cons (pe_callTy call_tuple_of (by rfl) T.f_tuple (by decide +kernel) (pa_cons (pv 5) pa_nil)) pa_nil))))
  (pss_cons (ps_if (pt_cmpR op_notN (pv 6) pe_non (by first | exact nomark _ | rfl)) (pss_one (ps_ret (pkG (ok_law_same T) hgd hr rfl T.g_law_same (pa_cons (pv 7) (pa_cons (pv 6) pa_nil))))) pss_nil)
  (pss_one (ps_ret (pe_and (pe_cmpR op_eq (pe_ix ix_tup (pv 7) pe_int (fun _ _ => rfl)) pe_str (by first | exact nomark _ | rfl)) (pe_one (pkG (ok_law_told_of T) hgd hr rfl T.g_law_told_of (pa_cons (pe_ix ix_tup (pv 7) pe_int (fun _ _ => rfl)) (pa_cons (pv 3) (pa_cons (pe_lc (own := [("_law_one", 8)]) rfl sc_law_rows_told.nd (pi_list (pv 4)) (blkOk_by (own := [("_law_one", 8)]) (N := ["_law_bag", "_law_side", "_law_names", "_law_signs", "_law_row", "_law_things", "_law_due", "_law_answer", "_law_one"]) (sc := defScope s_law_rows_told) (by decide +kernel)) (fun _ _ _ _ _ => (pg_name (i := 8) sc_law_rows_told.nd rfl (Or.inl rfl))) (fun _ _ _ _ _ => pts_nil) (fun _ _ _ _ _ => (pe_ix (ix_tupB (K := K) rfl) (pv 8) pe_int (fun _ _ => rfl)))) (pa_cons (pv 2) pa_nil)))))))))))))))), ?_⟩
    walk_at "rd"
    refine r_dgot (DGet_k hb side_sg) ?_
    walk_at "rd"
    refine r_row (E := E0) B S0 G l8 (SqL.of hn) gn nd n8 n1 fun R vs rows H1 e1 nR hR g1 => ?_
    walk_at "rd"
    refine lcL (P := fun i v H' => ∃ (a : Addr) (r : Int × KD), v = .ref a ∧ rows[i]? = some r ∧ KindAt K H' a r.1 r.2) way_same (Same.refl _) (SqL.of hR) (by have := g1.ln; omega) (fun i v A B e ⟨a, r, h1, h2, h3⟩ => ⟨a, r, h1, h2, h3.sd e⟩) (fun i v H2 hi e2 Qe qq => ?_) fun D H2 zs hD e2 hz hzl hzs => ?_
    · refine r_name ⟨rfl, ?_⟩
      obtain ⟨r, h1, p, u, rfl, h2, h3⟩ := g1.at_.get hi
      walk_at "rd"
      refine r_ixT (Sd.tup (Sd.of e2) h2) (v := .int r.1) (atI_nat (j := 0) rfl) ?_
      walk_at "rd"
      refine r_ixT (Sd.tup (Sd.of e2) h2) (v := u) (atI_nat (j := 1) rfl) ?_
      walk_at "rd"
      refine r_object (E := E0) (Dp.same e2 h3) (g1.good r (List.mem_of_getElem? h1)) fun x H3 s3 hX => ?_
      exact qq _ _ s3 ⟨x, r, rfl, h1, hX⟩
    have vl := g1.at_.1
    have gl := g1.len
    obtain ⟨as, rfl, has⟩ := refs_read (P := fun i a => ∃ r, rows[i]? = some r ∧ KindAt K H2 a r.1 r.2) fun i y hyi => by
      obtain ⟨a, r, h1, h2, h3⟩ := hzs i y hyi
      exact ⟨a, h1, r, h2, h3⟩
    rw [List.length_map] at hzl
    have hKs : KsAt K H2 as rows := ⟨by omega, fun i a r h1 h2 => by
      obtain ⟨r', h3, h4⟩ := has i a h1
      rw [h3] at h2
      cases (show some r' = some r from h2)
      exact h4⟩
    have f2 := e1.trans (Bg.same e1.bag e2)
    walk_at "rd"
    refine ⟨fun σ' H' => ∃ sg : V, σ' = [some (.ref β.b), some (.ref b), some (.ref n), some sg, some (.ref R), some (.ref D), none, none, none] ∧ Bg K β H2 H' ∧ SgOk K H' sg, ?_, ?_⟩
    · walk_at "rd"
      refine r_one f2.bag (by decide) (by decide) fun q H3 e3 => ?_
      cases q with
      | false =>
        refine r_bl (r_iF ?_)
        walk_at "rd"
        exact ⟨.int m, rfl, e3, sg_m hm⟩
      | true =>
        refine r_bl (r_iT ?_)
        walk_at "rd"
        have neg2 : (-2 : Int) = -2 := rfl
        refine r_I ⟨by decide, by decide, by decide⟩ ?_
        walk_at "rd"
        refine ⟨by show 1 ≤ sizeLine; decide, fun p9 hp9 => ?_⟩
        have s4 := Same.upd (o := .lst [V.int 2]) hp9
        have hp94 : upd H3 p9 (.lst [V.int 2]) p9 = some (.lst [V.int 2]) := upd_same
        generalize upd H3 p9 (.lst [V.int 2]) = H4 at s4 hp94 ⊢
        walk_at "rd"
        refine ⟨by show 9 ≤ sizeLine; decide, fun p hp => ?_⟩
        have s5 := Same.upd (o := .lst [V.int 1, V.int 4, V.int 0, V.int (-2), V.non, V.bl true, V.str "2", V.int (10 ^ (30 : Int).toNat), V.ref p9]) hp
        have hp5 : upd H4 p (.lst [V.int 1, V.int 4, V.int 0, V.int (-2), V.non, V.bl true, V.str "2", V.int (10 ^ (30 : Int).toNat), V.ref p9]) p = some (.lst [V.int 1, V.int 4, V.int 0, V.int (-2), V.non, V.bl true, V.str "2", V.int (10 ^ (30 : Int).toNat), V.ref p9]) := upd_same
        generalize upd H4 p (.lst [V.int 1, V.int 4, V.int 0, V.int (-2), V.non, V.bl true, V.str "2", V.int (10 ^ (30 : Int).toNat), V.ref p9]) = H5 at s5 hp5 ⊢
        have f5 := e3.trans (Bg.same e3.bag (s4.trans s5))
        walk_at "rd"
        refine r_choice f5.bag (SqL.of hp5) (by show 0 < 9; decide) (by show 9 ≤ 100000; decide) fun j pv H6 hpv e6 => ?_
        walk_at "rd"
        refine ⟨pv, rfl, f5.trans e6, ?_⟩
        have := List.mem_of_getElem? hpv
        simp only [List.mem_cons, List.not_mem_nil, or_false] at this
        rcases this with rfl | rfl | rfl | rfl | rfl | rfl | rfl | rfl | rfl
        · exact sg_small (by decide) (by decide)
        · exact sg_small (by decide) (by decide)
        · exact sg_small (by decide) (by decide)
        · exact sg_neg
        · exact sg_non
        · exact sg_true
        · exact sg_two
        · exact sg_big
        · exact sg_list (way_bag.lst e6 (s5 _ _ hp94))
    rintro σ' H3 ⟨sg, rfl, e3, sgd, hsd, hodd, shb⟩
    have f3 := f2.trans e3
    have hR3 := way_bag.lst e3 (e2 _ _ hR)
    have g3 := g1.sd ((Sd.of e2).trans (way_bag.sd e3))
    have hKs3 := hKs.sd (way_bag.sd e3)
    have hD3 := way_bag.lst e3 hz
    walk_at "rd"
    refine ⟨sg, sgd, R, vs, rows, rfl, hsd, hodd, SqL.of hR3, g3.at_, by omega, fun vd H4 s4 hvd dN dR => ?_⟩
    walk_at "rd"
    refine ⟨D, _, rfl, .inl ⟨SqL.of (s4 _ _ hD3), fun tp htp => ?_⟩⟩
    have s5 := Same.upd (o := .tup (as.map V.ref)) htp
    have htp5 : SqT K (upd H4 tp (.tup (as.map V.ref))) tp (as.map V.ref) := SqT.of upd_same
    generalize upd H4 tp (.tup (as.map V.ref)) = H5 at s5 htp5 ⊢
    have s35 := s4.trans s5
    walk_at "rd"
    refine ⟨sg, sgd, tp, as, rows, rfl, Dp.same s35 hsd, odd_grow s35 hodd, htp5, hKs3.sd (Sd.of s35), g3.good, by omega, fun m' em dok x q H6 s6 hq cat => ?_, fun dno wv H6 s6 hw => ?_⟩
    rotate_left
    · walk_at "rd"
      refine ⟨rfl, ?_⟩
      obtain ⟨tv, rfl⟩ := dR dno
      refine r_bl (r_iT ?_)
      walk_at "rd"
      refine r_same (E := E0) hw (Dp.same (s5.trans s6) hvd) (shw_due shb g3.good) ?_
      exact k _ (f3.trans (Bg.same f3.bag (s35.trans s6)))
    obtain ⟨m2, em2, hm2, dr⟩ := due_int dok
    rw [em] at em2
    cases em2
    subst em
    have vn := dN dok
    subst vn
    obtain ⟨w8, wm, wn⟩ := due_ok dr
    have G2 : GoodT m' (rows.map Prod.snd) := ⟨hm2, fun kd hkd => by
      obtain ⟨r, hr', rfl⟩ := List.mem_map.mp hkd
      have := g3.good r hr'
      rw [wm r hr'] at this
      exact this, by
      have e : (rows.map Prod.snd).map KD.name = rowNames rows := by unfold rowNames; rw [List.map_map]; rfl
      rw [e]
      exact wn⟩
    have s36 := s35.trans s6
    have hR6 := s36 _ _ hR3
    have f6 := f3.trans (Bg.same f3.bag s36)
    walk_at "rd"
    refine ⟨rfl, ?_⟩
    refine r_bl (r_iF ?_)
    walk_at "rd"
    refine r_ixT hq (v := .str "good") (atI_nat (j := 0) rfl) ?_
    walk_at "rd"
    refine r_eq rfl ?_
    rw [decide_eq_true rfl]
    refine r_bl (r_iT ?_)
    walk_at "rd"
    refine r_ixT hq (v := .ref x) (atI_nat (j := 1) rfl) ?_
    walk_at "rd"
    refine lcL (P := fun i v H' => ∃ r : Int × KD, rows[i]? = some r ∧ Dp K H' v r.2.data) way_same (Same.refl _) (SqL.of hR6) (by omega) (fun i v A B e ⟨r, h1, h2⟩ => ⟨r, h1, Dp.sd e _ _ (flat_kd r.2) h2⟩) (fun i v H7 hi e7 Qe qq => ?_) fun W H7 ws hW e7 hw7 hwl hws => ?_
    · refine r_name ⟨rfl, ?_⟩
      obtain ⟨r, h1, p, u, rfl, h2, h3⟩ := (g3.at_.sd (Sd.of (s36.trans e7))).get hi
      walk_at "rd"
      refine r_ixT h2 (v := u) (atI_nat (j := 1) rfl) ?_
      exact qq _ _ (Same.refl _) ⟨r, h1, h3⟩
    walk_at "rd"
    have hus7 : DpAll K H7 ws ((rows.map Prod.snd).map KD.data) := DpAll.of_at (by rw [List.length_map, List.length_map]; omega) fun i v d h1 h2 => by
      rw [List.getElem?_map, List.getElem?_map] at h2
      obtain ⟨r, h3, h4⟩ := hws i v h1
      rw [h3] at h2
      cases (show some r.2.data = some d from h2)
      exact h4
    have f7 := f6.trans (Bg.same f6.bag e7)
    refine ⟨x, W, n, m', rows.map Prod.snd, ws, ns, rfl, cat.sd (Sd.of e7), G2, by rw [List.length_map]; omega, SqL.of hw7, hus7, way_bag.lst f7 hn, n1, fun s hs => asked_good (gn s hs), fun H8 s8 => ?_⟩
    exact k _ (f7.trans (Bg.same f7.bag s8))
end
end Tx

/-! ## Pr15 -/
set_option maxHeartbeats 4000000
/-! Catalogues compared. -/
namespace Tx
open PySem PySem.Spec PyProof.Rows L2 Gd
local macro_rules | `(tactic| walk_at "rd1") => `(tactic| first
  | ((with_reducible show tVar _ _ _ _); refine r_var (by rfl) ?_)
  | with_reducible refine r_c ?_
  | with_reducible refine r_seq ?_
  | with_reducible refine r_asg ?_
  | with_reducible refine r_name ?_
  | with_reducible refine r_op ?_
  | with_reducible refine r_I0 ?_
  | with_reducible refine r_cons ?_
  | with_reducible refine r_nil ?_
  | with_reducible refine r_call ?_
  | with_reducible refine r_ret ?_
  | with_reducible refine r_cb ?_
  | with_reducible refine r_ifS ?_
  | with_reducible refine r_test ?_
  | with_reducible refine r_bl ?_
  | with_reducible refine r_dget ?_
  | with_reducible refine r_dput ?_
  | ((with_reducible show (∃ k, [V.int _] = [V.int k] ∧ _) ∨ _); refine Or.inl ⟨_, rfl, ?_⟩)
  | with_reducible refine r_lcR ?_
  | with_reducible refine r_lcL ?_
  | with_reducible refine r_lcT ?_
  | with_reducible refine r_m1 ?_
  | with_reducible refine r_gSub ?_
  | with_reducible refine r_forR ?_
  | with_reducible refine r_forL ?_
  | with_reducible refine r_forT ?_
  | with_reducible refine r_bm ?_
  | with_reducible refine r_next ?_
  | with_reducible refine r_B ?_
  | with_reducible refine r_not ?_
  | with_reducible refine r_and ?_
  | with_reducible refine r_or ?_
  | with_reducible refine r_andV ?_
  | with_reducible refine r_orV ?_
  | with_reducible refine r_notV ?_
  | with_reducible refine r_ifE ?_
  | with_reducible refine r_drop ?_
  | with_reducible refine r_tup ?_
  | with_reducible refine r_lst ?_
  | with_reducible refine r_un ?_
  | with_reducible refine r_U ?_)
local macro_rules | `(tactic| walk_at "rd") => `(tactic| repeat walk_at "rd1")
local macro_rules | `(tactic| walk_at "rd1") => `(tactic| first
  | with_reducible refine r_lcS ?_
  | with_reducible refine r_sl ?_
  | with_reducible refine r_noPart ?_
  | with_reducible refine r_partE ?_
  | with_reducible refine r_sfld ?_
  | with_reducible refine r_gc ?_
  | with_reducible refine r_gn ?_
  | with_reducible refine r_forE ?_
  | with_reducible refine r_makeK ?_
  | with_reducible refine r_make ?_
  | with_reducible refine r_fld ?_
  | with_reducible refine r_prop ?_
  | with_reducible refine r_meth ?_
  | with_reducible refine r_js ?_
  | with_reducible refine r_jn ?_
  | with_reducible refine r_fmt ?_
  | with_reducible refine r_chain ?_)
local macro_rules | `(tactic| walk_at "rd1") => `(tactic| first
  | with_reducible refine r_sfa ?_
  | with_reducible refine r_methR ?_)
local macro_rules | `(tactic| walk_at "rd1") => `(tactic| first
  | with_reducible refine r_sErr ?_)
local macro_rules | `(tactic| walk_at "rd1") => `(tactic| first
  | with_reducible refine r_star ?_
  | with_reducible refine r_callS ?_
  | with_reducible refine r_makeX ?_
  | with_reducible refine r_makeXD ?_
  | with_reducible refine r_xf ?_
  | with_reducible refine r_ixO ?_
  | with_reducible refine r_addO ?_
  | with_reducible refine r_lcF ?_)
section
variable {K : Frg} {H : Hp} {Q : VK} {a b : Addr} {m m' : Int} {ks ls : List KD}
/-- two catalogues that are the same; that are not; a catalogue and a text -/
theorem r_catT (G : GoodT m ks) (h1 : CatAt K H a m ks) (h2 : CatAt K H b m ks) (h : ∀ H', Same H H' → Q (.bl true) H') : rEqO (He.ga K "Catalogue") (spCatEq K) (.ref a) (.ref b) H Q := by
  have h1' := h1
  have h2' := h2
  obtain ⟨dx1, _, _, _, i1, _⟩ := h1'.ex
  obtain ⟨dx2, _, _, _, i2, _⟩ := h2'.ex
  exact ⟨a, dx1, _, rfl, i1, .inl ⟨b, dx2, _, rfl, i2⟩, a, .ref b, rfl, .inl ⟨b, rfl, ⟨m, ks, G, h1, h2⟩, fun H' s => ⟨true, rfl, h H' s⟩⟩⟩
theorem r_catN (G : GoodT m ks) (G' : GoodT m' ls) (h1 : CatAt K H a m ks) (h2 : CatAt K H b m' ls) (n : m ≠ m' ∨ (m = m' ∧ Differ ks ls)) (h : ∀ H', Same H H' → Q (.bl false) H') : rEqO (He.ga K "Catalogue") (spCatEq K) (.ref a) (.ref b) H Q := by
  have h1' := h1
  have h2' := h2
  obtain ⟨dx1, _, _, _, i1, _⟩ := h1'.ex
  obtain ⟨dx2, _, _, _, i2, _⟩ := h2'.ex
  exact ⟨a, dx1, _, rfl, i1, .inl ⟨b, dx2, _, rfl, i2⟩, a, .ref b, rfl, .inr (.inl ⟨b, rfl, ⟨m, m', ks, ls, G, G', h1, h2, n⟩, fun H' s => ⟨false, rfl, h H' s⟩⟩)⟩
theorem r_catS {t : Str} (h1 : CatAt K H a m ks) (h : Q (.bl false) H) : rEqO (He.ga K "Catalogue") (spCatEq K) (.ref a) (.str t) H Q := by
  obtain ⟨dx1, _, _, _, i1, _⟩ := h1.ex
  exact ⟨a, dx1, _, rfl, i1, .inr ⟨t, rfl⟩, a, .str t, rfl, .inr (.inr ⟨t, rfl, ⟨false, rfl, h⟩⟩)⟩
theorem GoodT.perm (G : GoodT m ks) (p : ls.Perm ks) : GoodT m ls := ⟨G.m_, fun k hk => G.good k (p.mem_iff.mp hk), (p.map KD.name).nodup_iff.mpr G.nd⟩
theorem GoodT.drop (G : GoodT m ks) (n : Nat) : GoodT m (ks.drop n) := ⟨G.m_, fun k hk => G.good k (List.mem_of_mem_drop hk), by rw [List.map_drop]; exact G.nd.sublist (List.drop_sublist _ _)⟩
theorem first_two (nd : (ks.map KD.name).Nodup) (h : 1 < ks.length) : (ks[0]'(by omega)).name ≠ (ks[1]'h).name := fun e => by
  have b0 : 0 < (ks.map KD.name).length := by rw [List.length_map]; omega
  have b1 : 1 < (ks.map KD.name).length := by rw [List.length_map]; omega
  have := (List.getElem_inj (h₀ := b0) (h₁ := b1) nd).mp (by rw [List.getElem_map, List.getElem_map]; exact e)
  omega
theorem differ_drop (nd : (ks.map KD.name).Nodup) (h : 0 < ks.length) : Differ ks (ks.drop 1) := by
  refine ⟨0, Nat.zero_le _, fun i hi => (by omega), ?_⟩
  by_cases h1 : 1 < ks.length
  · refine .inl ⟨ks[0], ks[1], List.getElem?_eq_getElem h, ?_, first_two nd h1⟩
    rw [List.getElem?_drop, List.getElem?_eq_getElem h1]
  · refine .inr ⟨?_, ?_⟩ <;> rw [List.length_drop] <;> omega
theorem differ_turn (nd : (ks.map KD.name).Nodup) (h1 : 1 < ks.length) : Differ ks (ks.drop 1 ++ ks.take 1) := by
  refine ⟨0, Nat.zero_le _, fun i hi => (by omega), .inl ⟨ks[0], ks[1], List.getElem?_eq_getElem (by omega), ?_, first_two nd h1⟩⟩
  rw [List.getElem?_append_left (by rw [List.length_drop]; omega), List.getElem?_drop, List.getElem?_eq_getElem h1]
theorem turn_perm : (ks.drop 1 ++ ks.take 1).Perm ks := (List.perm_append_comm).trans (by rw [List.take_append_drop])
theorem KindsAt.drop {as : List Addr} (h : KindsAt K H as m ks) (n : Nat) : KindsAt K H (as.drop n) m (ks.drop n) := ⟨by rw [List.length_drop, List.length_drop, h.len], fun i a k h1 h2 => by
  rw [List.getElem?_drop] at h1 h2
  exact h.at_ _ a k h1 h2⟩
theorem KindsAt.take {as : List Addr} (h : KindsAt K H as m ks) (n : Nat) : KindsAt K H (as.take n) m (ks.take n) := ⟨by rw [List.length_take, List.length_take, h.len], fun i a k h1 h2 => by
  have hi : i < n := by
    have := (List.getElem?_eq_some_iff.mp h1).1
    rw [List.length_take] at this
    omega
  rw [List.getElem?_take_of_lt hi] at h1 h2
  exact h.at_ _ a k h1 h2⟩
theorem KindsAt.append {as bs : List Addr} (h : KindsAt K H as m ks) (h' : KindsAt K H bs m ls) : KindsAt K H (as ++ bs) m (ks ++ ls) := ⟨by rw [List.length_append, List.length_append, h.len, h'.len], fun i a k h1 h2 => by
  have l := h.len
  by_cases hi : i < as.length
  · rw [List.getElem?_append_left hi] at h1
    rw [List.getElem?_append_left (by omega)] at h2
    exact h.at_ i a k h1 h2
  · rw [List.getElem?_append_right (by omega)] at h1
    rw [List.getElem?_append_right (by omega), ← l] at h2
    exact h'.at_ _ a k h1 h2⟩
end
theorem goodT_nil {m : Int} (hm : Mm m) : GoodT m [] := ⟨hm, fun _ h => (by cases h), List.Pairwise.nil⟩
def spEqual (K : Frg) : Sp := fun vs H Q _ => ∃ (b l b2 l2 : Addr) (m m2 : Int) (ks ks2 : List KD), vs = [.ref b, .ref b2] ∧ SideAt K H b l m ks ∧ GoodT m ks ∧ ks.length ≤ 8 ∧ SideAt K H b2 l2 m2 ks2 ∧ GoodT m2 ks2 ∧ m ≠ m2 ∧ ∀ H', Same H H' → Q (.bl true) H'
section
variable {P : Program} {w : World} {K : Frg} {mg : Str → Option Value} {base : Heap}
theorem sc_law_equal_told : FnScope ["_law_side", "_law_other", "_law_made", "_law_held", "_law_things", "_law_kind"] ["_law_side", "_law_other"] (defScope s_law_equal_told) := ⟨rfl, rfl, rfl, by decide +kernel, rfl, by decide +kernel, by decide +kernel⟩
theorem ok_law_equal_told (T : Txt P K mg) : OkG P w K mg base 8 (He.ga K "_law_equal_told") ["_law_side", "_law_other"] (spEqual K) := by
  obtain ⟨fd, F⟩ := T.F_law_equal_told
  have b : Binds K fd ["_law_side", "_law_other"] [] := F.bindsN fun _ _ _ _ _ _ us hl => match us, hl with | [_, _], _ => rfl
  refine okG_of F b sc_law_equal_told (fun vs H Q E h => ?_) (fun cdv A outer s H vs Q hgd hr h => ?_)
  · obtain ⟨b, l, b2, l2, m, m2, ks, ks2, rfl, _⟩ := h
    rfl
  · obtain ⟨b, l, b2, l2, m, m2, ks, ks2, rfl, S, G, l8, S2, G2, mm, k⟩ := h
    obtain ⟨us, c, hb, hl, hus, hC⟩ := S.ex
    obtain ⟨us2, c2, hb2, hl2, hus2, hC2⟩ := S2.ex
    have hm := G.m_
    have ul := DpAll.len hus
    rw [List.length_map] at ul
    refine ⟨_, (pss_cons (ps_set (i := 2) sc_law_equal_told.nd rfl (Or.inl rfl) (pe_dget (hu_of hr) (pv 0) pe_str (fun _ _ => rfl)))
  (pss_cons (ps_set (i := 3) sc_law_equal_told.nd rfl (Or.inl rfl) (pe_dget (hu_of hr) (pv 0) pe_str (fun _ _ => rfl)))
  (pss_cons (ps_setLc (i := 4) (own := [("_law_kind", 5)]) rfl sc_law_equal_told.nd rfl rfl (sw_true rfl rfl rfl (by decide +kernel)) (pi_list (pv 3)) (blkOk_by (own := [("_law_kind", 5)]) (N := ["_law_side", "_law_other", "_law_made", "_law_held", "_law_things", "_law_kind"]) (sc := defScope s_law_equal_told) (by decide +kernel)) (fun _ _ _ _ _ => (pg_name (i := 5) sc_law_equal_told.nd rfl (Or.inl rfl))) (fun _ _ _ _ _ => pts_nil) (fun _ _ _ _ _ => (pk (ok_law_object T) hr rfl T.g_law_object (pa_cons (pe_dget (hu_of hr) (pv 0) pe_str (fun _ _ => rfl)) (pa_cons (pv 5) pa_nil)))))
  (pss_cons (ps_if (PW.pt (pw_or (pt_not (pt_val (pkG (ok_law_same T) hgd hr rfl T.g_law_same (pa_cons (pe_cmpR (k_eq_Catalogue T hr) (pv 2) (k_mk_Catalogue T hr (fun σ => passAt takes_none5 σ) (pa_cons (pe_dget (hu_of hr) (pv 0) pe_str (fun _ _ => rfl)) (pa_cons (pv 4) pa_nil))) (by first | exact nomark _ | rfl)) (pa_cons pe_bl pa_nil))))) (pw_or1 (pt_not (pt_val (pkG (ok_law_same T) hgd hr rfl T.g_law_same (pa_cons (pe_cmpR (k_eq_Catalogue T hr) (pv 2) pe_str (by first | exact nomark _ | rfl)) (pa_cons pe_bl pa_nil)))))))) (pss_one (ps_ret pe_bl)) pss_nil)
  (pss_cons (ps_if (PW.pt (pw_or (pt_not (pt_val (pkG (ok_law_same T) hgd hr rfl T.g_law_same (pa_cons (pe_cmpR (k_eq_Catalogue T hr) (pv 2) (pe_dget (hu_of hr) (pv 1) pe_str (fun _ _ => rfl)) (by first | exact nomark _ | rfl)) (pa_cons pe_bl pa_nil))))) (pw_or1 (pt_not (pt_val (pkG (ok_law_same T) hgd hr rfl T.g_law_same (pa_cons (pe_cmpR (k_eq_Catalogue T hr) (k_mk1_Catalogue T hr (fun σ => passAt takes_none5 σ) (pa_cons pe_int pa_nil)) (k_mk1_Catalogue T hr (fun σ => passAt takes_none5 σ) (pa_cons pe_int pa_nil)) (by first | exact nomark _ | rfl)) (pa_cons pe_bl pa_nil)))))))) (pss_one (ps_ret pe_bl)) pss_nil)
  (pss_cons (ps_if (PW.pt (pw_and (pt_cmpR (op_neD hr.units) (pv 3) (pe_lst pa_nil) (by first | exact nomark _ | rfl)) (pw_and1 (pt_not (pt_val (pkG (ok_law_same T) hgd hr rfl T.g_law_same (pa_cons (pe_cmpR (k_eq_Catalogue T hr) (pv 2) (k_mk_Catalogue T hr (fun σ => passAt takes_none5 σ) (pa_cons (pe_dget (hu_of hr) (pv 0) pe_str (fun _ _ => rfl)) (pa_cons (pe_slice sl_list (pv 4) (po_some pe_int) po_none) pa_nil))) (by first | exact nomark _ | rfl)) (pa_cons pe_bl pa_nil)))))))) (pss_one (ps_ret pe_bl)) pss_nil)
  (pss_cons (ps_if (PW.pt (pw_and (pt_cmpR op_gt (pe_callB call_len_seq (by rfl) T.f_len (by decide +kernel) (pa_cons (pv 3) pa_nil)) pe_int (by first | exact nomark _ | rfl)) (pw_and1 (pt_not (pt_val (pkG (ok_law_same T) hgd hr rfl T.g_law_same (pa_cons (pe_cmpR (k_eq_Catalogue T hr) (pv 2) (k_mk_Catalogue T hr (fun σ => passAt takes_none5 σ) (pa_cons (pe_dget (hu_of hr) (pv 0) pe_str (fun _ _ => rfl)) (pa_cons (pe_op op_cat (pe_slice sl_list (pv 4) (po_some pe_int) po_none) (pe_slice sl_list (pv 4) po_none (po_some pe_int))) pa_nil))) (by first | exact nomark _ | rfl)) (pa_cons pe_bl pa_nil)))))))) (pss_one (ps_ret pe_bl)) pss_nil)
  (pss_one (ps_ret pe_bl))))))))), ?_⟩
    walk_at "rd"
    refine r_dgot (DGet_k hb side_ma) ?_
    walk_at "rd"
    refine r_dgot (DGet_k hb side_he) ?_
    walk_at "rd"
    refine lcL (P := fun i v H' => ∃ (a : Addr) (kd : KD), v = .ref a ∧ ks[i]? = some kd ∧ KindAt K H' a m kd) way_same (Same.refl _) (SqL.of hl) (by omega) (fun i v A B e ⟨a, kd, h1, h2, h3⟩ => ⟨a, kd, h1, h2, h3.sd e⟩) (fun i v H1 hi e1 Qe qq => ?_) fun D H1 zs hD e1 hz hzl hzs => ?_
    · refine r_name ⟨rfl, ?_⟩
      obtain ⟨d, h1, h2⟩ := DpAll.at_ hus hi
      rw [List.getElem?_map] at h1
      obtain ⟨kd, hkd, rfl⟩ := Option.map_eq_some_iff.mp h1
      walk_at "rd"
      refine r_dgot (DGet_k (e1 _ _ hb) side_sg) ?_
      walk_at "rd"
      refine r_object (E := E0) (Dp.same e1 h2) (G.good kd (List.mem_of_getElem? hkd)) fun x H2 s2 hX => ?_
      exact qq _ _ s2 ⟨x, kd, rfl, hkd, hX⟩
    obtain ⟨as, rfl, has⟩ := refs_read (P := fun i a => ∃ kd, ks[i]? = some kd ∧ KindAt K H1 a m kd) fun i y hyi => by
      obtain ⟨a, kd, h1, h2, h3⟩ := hzs i y hyi
      exact ⟨a, h1, kd, h2, h3⟩
    rw [List.length_map] at hzl
    have hKs : KindsAt K H1 as m ks := ⟨by omega, fun i a r h1 h2 => by
      obtain ⟨kd, h3, h4⟩ := has i a h1
      rw [h3] at h2
      cases (show some kd = some r from h2)
      exact h4⟩
    walk_at "rd"
    refine r_dgot (DGet_k (e1 _ _ hb) side_sg) ?_
    walk_at "rd"
    intro x dx nx nd ne
    refine r_catV hm nx nd ne rfl (.inl (SqL.of hz)) hKs G l8 fun H2 e2 cat => ?_
    refine r_catT G (hC.sd (Sd.of (e1.trans e2))) cat fun H3 e3 => ?_
    walk_at "rd"
    refine r_same (E := E0) (.bl _) (.bl _) (shw_bool _) ?_
    refine r_bl (r_iF ?_)
    have e3 := e2.trans e3
    walk_at "rd"
    refine r_catS (hC.sd (Sd.of (e1.trans e3))) ?_
    walk_at "rd"
    refine r_same (E := E0) (.bl _) (.bl _) (shw_bool _) ?_
    refine r_bl (r_iF ?_)
    walk_at "rd"
    refine r_dgot (DGet_k (e3 _ _ (e1 _ _ hb2)) side_ma) ?_
    refine r_catN G G2 (hC.sd (Sd.of (e1.trans e3))) (hC2.sd (Sd.of (e1.trans e3))) (.inl mm) fun H4 e4 => ?_
    walk_at "rd"
    refine r_same (E := E0) (.bl _) (.bl _) (shw_bool _) ?_
    refine r_bl (r_iF ?_)
    have e4 := e3.trans e4
    walk_at "rd"
    intro y dy ny ndy ney
    refine r_cat0 T (.inl rfl) ny ndy ney fun H5 e5 cat2 => ?_
    walk_at "rd"
    intro z dz nz ndz nez
    refine r_cat0 T (.inr rfl) nz ndz nez fun H6 e6 cat3 => ?_
    refine r_catN (goodT_nil (.inl rfl)) (goodT_nil (.inr rfl)) (cat2.sd (Sd.of e6)) cat3 (.inl (by decide)) fun H7 e7 => ?_
    walk_at "rd"
    refine r_same (E := E0) (.bl _) (.bl _) (shw_bool _) ?_
    refine r_bl (r_iF ?_)
    have e7 := ((e4.trans e5).trans e6).trans e7
    walk_at "rd"
    refine ⟨by show 0 ≤ sizeLine; decide, fun q hq => ?_⟩
    walk_at "rd"
    have s8 := Same.upd (o := .lst ([] : List V)) hq
    have hq8 : Dp K (upd H7 q (.lst ([] : List V))) (.ref q) (.list []) := .lst (SqL.of upd_same) .nil
    generalize upd H7 q (.lst ([] : List V)) = H8 at s8 hq8 ⊢
    have e8 := e1.trans (e7.trans s8)
    have hl8 := e8 _ _ hl
    refine r_neD (.lst (SqL.of hl8) (DpAll.sd (Sd.of e8) _ _ (flat_kds ks) hus)) hq8 (shaped_kinds G.good) shaped_nil ?_
    rw [eqv_nil, List.length_map]
    refine r_bl ?_
    by_cases h0 : ks.length = 0
    · rw [decide_eq_true h0]
      refine r_iF (r_iF ?_)
      walk_at "rd"
      refine ⟨_, _, rfl, .inl (SqL.of hl8), ?_⟩
      walk_at "rd"
      rw [decide_eq_false (by omega)]
      refine r_iF (r_iF ?_)
      walk_at "rd"
      exact k _ e8
    rw [decide_eq_false h0]
    refine r_iT ?_
    walk_at "rd"
    refine r_dgot (DGet_k (e8 _ _ hb) side_sg) ?_
    walk_at "rd"
    have e18 := e7.trans s8
    refine ⟨_, rfl, ?_⟩
    walk_at "rd"
    refine r_slL (SqL.of (e18 _ _ hz)) fun p1 hp1 => ?_
    have ec : cutV (as.map V.ref) (some 1) none = (as.drop 1).map V.ref := by
      rw [show (1 : Int) = ((1 : Nat) : Int) from rfl, cut_drop (by rw [List.length_map]; omega), List.map_drop]
    rw [ec]
    have s9 := Same.upd (o := .lst ((as.drop 1).map V.ref)) hp1
    have hp9 : upd H8 p1 (.lst ((as.drop 1).map V.ref)) p1 = some (.lst ((as.drop 1).map V.ref)) := upd_same
    generalize upd H8 p1 (.lst ((as.drop 1).map V.ref)) = H9 at s9 hp9 ⊢
    have e19 := e18.trans s9
    walk_at "rd"
    intro x3 dx3 nx3 nd3 ne3
    refine r_catV hm nx3 nd3 ne3 rfl (.inl (SqL.of hp9)) ((hKs.sd (Sd.of e19)).drop 1) (G.drop 1) (by rw [List.length_drop]; omega) fun H10 e10 cat3 => ?_
    have e10 := e19.trans e10
    refine r_catN G (G.drop 1) (hC.sd (Sd.of (e1.trans e10))) cat3 (.inr ⟨rfl, differ_drop G.nd (by omega)⟩) fun H11 e11 => ?_
    walk_at "rd"
    refine r_same (E := E0) (.bl _) (.bl _) (shw_bool _) ?_
    refine r_bl (r_iF ?_)
    have e11 := e10.trans e11
    walk_at "rd"
    refine ⟨_, _, rfl, .inl (SqL.of (e11 _ _ (e1 _ _ hl))), ?_⟩
    walk_at "rd"
    by_cases h1 : 1 < ks.length
    case neg =>
      rw [decide_eq_false (by omega)]
      refine r_iF (r_iF ?_)
      walk_at "rd"
      exact k _ (e1.trans e11)
    rw [decide_eq_true (by omega)]
    refine r_iT ?_
    walk_at "rd"
    refine r_dgot (DGet_k (e11 _ _ (e1 _ _ hb)) side_sg) ?_
    walk_at "rd"
    refine ⟨_, rfl, ?_⟩
    walk_at "rd"
    refine r_slL (SqL.of (e11 _ _ hz)) fun p2 hp2 => ?_
    rw [ec]
    have s12 := Same.upd (o := .lst ((as.drop 1).map V.ref)) hp2
    have hp12 : upd H11 p2 (.lst ((as.drop 1).map V.ref)) p2 = some (.lst ((as.drop 1).map V.ref)) := upd_same
    generalize upd H11 p2 (.lst ((as.drop 1).map V.ref)) = H12 at s12 hp12 ⊢
    have e12 := e11.trans s12
    walk_at "rd"
    refine ⟨_, rfl, r_slL (SqL.of (e12 _ _ hz)) fun p3 hp3 => ?_⟩
    have ec2 : cutV (as.map V.ref) none (some 1) = (as.take 1).map V.ref := by
      rw [show (1 : Int) = ((1 : Nat) : Int) from rfl, cut_take (by rw [List.length_map]; omega), List.map_take]
    rw [ec2]
    have s13 := Same.upd (o := .lst ((as.take 1).map V.ref)) hp3
    have hp13 : upd H12 p3 (.lst ((as.take 1).map V.ref)) p3 = some (.lst ((as.take 1).map V.ref)) := upd_same
    generalize upd H12 p3 (.lst ((as.take 1).map V.ref)) = H13 at s13 hp13 ⊢
    refine ⟨p2, p3, _, _, rfl, rfl, s13 _ _ hp12, hp13, Nat.le_trans (by rw [List.length_map, List.length_map, List.length_drop, List.length_take]; omega) line_big, fun p4 hp4 => ?_⟩
    rw [← List.map_append]
    have s14 := Same.upd (o := .lst ((as.drop 1 ++ as.take 1).map V.ref)) hp4
    have hp14 : upd H13 p4 (.lst ((as.drop 1 ++ as.take 1).map V.ref)) p4 = some (.lst ((as.drop 1 ++ as.take 1).map V.ref)) := upd_same
    generalize upd H13 p4 (.lst ((as.drop 1 ++ as.take 1).map V.ref)) = H14 at s14 hp14 ⊢
    have e14 := (e12.trans s13).trans s14
    have hKs14 := hKs.sd (Sd.of e14)
    walk_at "rd"
    intro x4 dx4 nx4 nd4 ne4
    refine r_catV hm nx4 nd4 ne4 rfl (.inl (SqL.of hp14)) ((hKs14.drop 1).append (hKs14.take 1)) (G.perm turn_perm) (by rw [turn_perm.length_eq]; omega) fun H15 e15 cat4 => ?_
    have e15 := e14.trans e15
    refine r_catN G (G.perm turn_perm) (hC.sd (Sd.of (e1.trans e15))) cat4 (.inr ⟨rfl, differ_turn G.nd h1⟩) fun H16 e16 => ?_
    walk_at "rd"
    refine r_same (E := E0) (.bl _) (.bl _) (shw_bool _) ?_
    refine r_bl (r_iF ?_)
    walk_at "rd"
    exact k _ ((e1.trans e15).trans e16)
end
end Tx

/-! ## Pr16 -/
set_option maxHeartbeats 4000000
/-! The law. -/
namespace Tx
open PySem PySem.Spec PyProof.Rows L2 Gd
local macro_rules | `(tactic| walk_at "rd1") => `(tactic| first
  | ((with_reducible show tVar _ _ _ _); refine r_var (by rfl) ?_)
  | with_reducible refine r_c ?_
  | with_reducible refine r_seq ?_
  | with_reducible refine r_asg ?_
  | with_reducible refine r_name ?_
  | with_reducible refine r_op ?_
  | with_reducible refine r_I0 ?_
  | with_reducible refine r_cons ?_
  | with_reducible refine r_nil ?_
  | with_reducible refine r_call ?_
  | with_reducible refine r_ret ?_
  | with_reducible refine r_cb ?_
  | with_reducible refine r_ifS ?_
  | with_reducible refine r_test ?_
  | with_reducible refine r_bl ?_
  | with_reducible refine r_dget ?_
  | with_reducible refine r_dput ?_
  | ((with_reducible show (∃ k, [V.int _] = [V.int k] ∧ _) ∨ _); refine Or.inl ⟨_, rfl, ?_⟩)
  | with_reducible refine r_lcR ?_
  | with_reducible refine r_lcL ?_
  | with_reducible refine r_lcT ?_
  | with_reducible refine r_m1 ?_
  | with_reducible refine r_gSub ?_
  | with_reducible refine r_forR ?_
  | with_reducible refine r_forL ?_
  | with_reducible refine r_forT ?_
  | with_reducible refine r_bm ?_
  | with_reducible refine r_next ?_
  | with_reducible refine r_B ?_
  | with_reducible refine r_not ?_
  | with_reducible refine r_and ?_
  | with_reducible refine r_or ?_
  | with_reducible refine r_andV ?_
  | with_reducible refine r_orV ?_
  | with_reducible refine r_notV ?_
  | with_reducible refine r_ifE ?_
  | with_reducible refine r_drop ?_
  | with_reducible refine r_tup ?_
  | with_reducible refine r_lst ?_
  | with_reducible refine r_un ?_
  | with_reducible refine r_U ?_)
local macro_rules | `(tactic| walk_at "rd") => `(tactic| repeat walk_at "rd1")
local macro_rules | `(tactic| walk_at "rd1") => `(tactic| first
  | with_reducible refine r_lcS ?_
  | with_reducible refine r_sl ?_
  | with_reducible refine r_noPart ?_
  | with_reducible refine r_partE ?_
  | with_reducible refine r_sfld ?_
  | with_reducible refine r_gc ?_
  | with_reducible refine r_gn ?_
  | with_reducible refine r_forE ?_
  | with_reducible refine r_makeK ?_
  | with_reducible refine r_make ?_
  | with_reducible refine r_fld ?_
  | with_reducible refine r_prop ?_
  | with_reducible refine r_meth ?_
  | with_reducible refine r_js ?_
  | with_reducible refine r_jn ?_
  | with_reducible refine r_fmt ?_
  | with_reducible refine r_chain ?_)
local macro_rules | `(tactic| walk_at "rd1") => `(tactic| first
  | with_reducible refine r_sfa ?_
  | with_reducible refine r_methR ?_)
local macro_rules | `(tactic| walk_at "rd1") => `(tactic| first
  | with_reducible refine r_sErr ?_)
local macro_rules | `(tactic| walk_at "rd1") => `(tactic| first
  | with_reducible refine r_star ?_
  | with_reducible refine r_callS ?_
  | with_reducible refine r_makeX ?_
  | with_reducible refine r_makeXD ?_
  | with_reducible refine r_xf ?_
  | with_reducible refine r_ixO ?_
  | with_reducible refine r_addO ?_
  | with_reducible refine r_lcF ?_)
theorem SideAt.tn {K : Frg} {β : Bag} {H H' : Hp} {b l b2 l2 : Addr} {m m2 : Int} {ks ks2 : List KD} (S2 : SideAt K H b2 l2 m2 ks2) (S : SideAt K H b l m ks) (e : Tn K β b l H H') (nb : b2 ≠ b) (nl : l2 ≠ l) : SideAt K H' b2 l2 m2 ks2 := by
  have sd := e.sd S
  have nB := S2.nb e.old
  obtain ⟨us, c, hb, hl, _⟩ := S.ex
  obtain ⟨us2, c2, hb2, hl2, hus2, hC2⟩ := S2.ex
  obtain ⟨kvs, hB⟩ := bag_dK e.old
  refine ⟨us2, c2, e.keep _ _ nB nb ?_ hb2, e.keep _ _ ?_ ?_ nl hl2, DpAll.sd sd _ _ (flat_kds ks2) hus2, hC2.sd sd⟩
  · rintro rfl; rw [hl] at hb2; cases hb2
  · rintro rfl; rw [hB] at hl2; cases hl2
  · rintro rfl; rw [hb] at hl2; cases hl2
theorem Tn.lst {K : Frg} {β : Bag} {H H' : Hp} {b l a : Addr} {m : Int} {ks : List KD} {xs : List V} (e : Tn K β b l H H') (S : SideAt K H b l m ks) (n : a ≠ l) (h : H a = some (.lst xs)) : H' a = some (.lst xs) := by
  obtain ⟨us, c, hb, hl, _⟩ := S.ex
  obtain ⟨kvs, hB⟩ := bag_dK e.old
  refine e.keep _ _ ?_ ?_ n h
  · rintro rfl; rw [hB] at h; cases h
  · rintro rfl; rw [hb] at h; cases h
/-- the two sides, the names, the bag -/
structure Two (K : Frg) (β : Bag) (b0 l0 b1 l1 n S : Addr) (ns : List Str) (ks0 ks1 : List KD) (H : Hp) : Prop where
  bag : BagAt K β H
  s0 : SideAt K H b0 l0 2 ks0
  g0 : GoodT 2 ks0
  n0 : ks0.length ≤ 8
  s1 : SideAt K H b1 l1 3 ks1
  g1 : GoodT 3 ks1
  n1 : ks1.length ≤ 8
  nm : H n = some (.lst (ns.map V.str))
  st : H S = some (.lst [.ref b0, .ref b1])
theorem Two.bg {K : Frg} {β : Bag} {b0 l0 b1 l1 n S : Addr} {ns : List Str} {ks0 ks1 : List KD} {H H' : Hp} (h : Two K β b0 l0 b1 l1 n S ns ks0 ks1 H) (e : Bg K β H H') : Two K β b0 l0 b1 l1 n S ns ks0 ks1 H' :=
  ⟨e.bag, h.s0.bg e, h.g0, h.n0, h.s1.bg e, h.g1, h.n1, way_bag.lst e h.nm, way_bag.lst e h.st⟩
theorem Two.same {K : Frg} {β : Bag} {b0 l0 b1 l1 n S : Addr} {ns : List Str} {ks0 ks1 : List KD} {H H' : Hp} (h : Two K β b0 l0 b1 l1 n S ns ks0 ks1 H) (e : Same H H') : Two K β b0 l0 b1 l1 n S ns ks0 ks1 H' := h.bg (Bg.same h.bag e)
def spLaw (K : Frg) : Sp := fun vs H Q _ => ∃ (a : Addr) (ns : List Int), vs = [.ref a] ∧ SqL K H a (ns.map V.int) ∧ ns.length ≤ 63 ∧ ∀ H', Q (.bl true) H'
section
variable {P : Program} {w : World} {K : Frg} {mg : Str → Option Value} {base : Heap}
theorem fnG_nox {x qual : Str} {params : Arguments} {body : List Stmt} {scope : Scope} {dvs : List V} {kws : List (Str × V)} {f : Addr} {fd : FuncData} {N ps : List Str} {k : Nat} {sp : Sp}
    (F : FunD K x qual params body scope dvs kws f fd) (S : FnScope N ps scope) (many : ∀ vs H Q E, sp vs H Q E → vs.length = ps.length)
    (hbody : ∀ (cdv : Value) (A : Around) (outer : List Env) (s : Shared) (H : Hp) (vs : List V) (Q : VK), A.guards = some [] →
      Room k (A.deeper (envOfC qual scope s.heap.objs.size f cdv)) → sp vs H Q E0 →
      ∃ t, PSs (cxOf CX0 P w K mg base N qual scope f cdv A outer s H E0).nox body t ∧ t { nx := fun _ H' => Q .non H', rt := Q } (L2.start N vs) H) :
    FnG P w K mg base (k + 1) f fd ps sp := fnG_of F S many fun cdv A outer s H vs Q hg hr h => by
  obtain ⟨t, p, q⟩ := hbody cdv A outer s H vs Q hg hr h
  exact ⟨t, p.nox, q⟩
theorem sc_law : FnScope ["_law_script", "_law_bag", "_law_names", "_law_sides", "_law_turn", "_law_k", "_law_side"] ["_law_script"] (defScope s_law) := ⟨rfl, rfl, rfl, by decide +kernel, rfl, by decide +kernel, by decide +kernel⟩
theorem fn_law (T : Txt P K mg) {fd : FuncData} (F : FunD K d_law.name d_law.qual (defArgs s_law) (defBody s_law) (defScope s_law) (d_law.dvs K) (d_law.kws K) (d_law.place K) fd) :
    FnG P w K mg base 10 (He.ga K "law") fd ["_law_script"] (spLaw K) := by
  refine fnG_nox F sc_law (fun vs H Q E h => ?_) (fun cdv A outer s H vs Q hgd hr h => ?_)
  · obtain ⟨a, ns, rfl, _⟩ := h
    rfl
  · obtain ⟨a, ins, rfl, hs, hn, k⟩ := h
    refine ⟨_, (pss_cons (ps_set (i := 1) sc_law.nd rfl (Or.inl rfl) (pk (ok_law_bag_of T) hr rfl T.g_law_bag_of (pa_cons (pv 0) pa_nil)))
  (pss_cons (ps_set (i := 2) sc_law.nd rfl (Or.inl rfl) (pk (ok_law_names_of T) hr rfl T.g_law_names_of (pa_cons (pv 1) (pa_cons pe_int pa_nil))))
  (pss_cons (ps_set (i := 3) sc_law.nd rfl (Or.inl rfl) (pe_lst (pa_cons (pk (ok_law_side_of T) hr rfl T.g_law_side_of (pa_cons (pv 1) (pa_cons pe_int (pa_cons (pv 2) pa_nil)))) (pa_cons (pk (ok_law_side_of T) hr rfl T.g_law_side_of (pa_cons (pv 1) (pa_cons pe_int (pa_cons (pk (ok_law_shuffled T) hr rfl T.g_law_shuffled (pa_cons (pv 1) (pa_cons (pv 2) pa_nil))) pa_nil)))) pa_nil))))
  (pss_cons (ps_for PassesOwn.never rfl (pi_range1 rfl T.f_range (pa_cons (pe_op op_add pe_int (pk (ok_law_pick T) hr rfl T.g_law_pick (pa_cons (pv 1) (pa_cons pe_int pa_nil)))) pa_nil)) (pg_name (i := 4) sc_law.nd rfl (Or.inl rfl)) (pss_one (ps_if (pt_not (pt_val (pkG (ok_law_turn_of T) hgd hr rfl T.g_law_turn_of (pa_cons (pv 1) (pa_cons (pk (ok_law_choice T) hr rfl T.g_law_choice (pa_cons (pv 1) (pa_cons (pv 3) pa_nil))) (pa_cons (pv 2) pa_nil)))))) (pss_one (ps_ret pe_bl)) pss_nil)))
  (pss_cons (ps_for PassesOwn.never rfl (pi_range1 rfl T.f_range (pa_cons pe_int pa_nil)) (pg_name (i := 5) sc_law.nd rfl (Or.inl rfl)) (pss_cons (ps_set (i := 6) sc_law.nd rfl (Or.inl rfl) (pe_ix ix_list (pv 3) (pv 5) (fun _ _ => rfl)))
  (pss_cons (ps_if (pt_not (pt_val (pkG (ok_law_told_of T) hgd hr rfl T.g_law_told_of (pa_cons (pe_dget (hu_of hr) (pv 6) pe_str (fun _ _ => rfl)) (pa_cons (pe_dget (hu_of hr) (pv 6) pe_str (fun _ _ => rfl)) (pa_cons (pe_dget (hu_of hr) (pv 6) pe_str (fun _ _ => rfl)) (pa_cons (pv 2) pa_nil))))))) (pss_one (ps_ret pe_bl)) pss_nil)
  (pss_one (ps_if (PW.pt (pw_or (pt_not (pt_val (pkG (ok_law_equal_told T) hgd hr rfl T.g_law_equal_told (pa_cons (pv 6) (pa_cons (pe_ix ix_list (pv 3) (pe_op op_sub pe_int (pv 5)) (fun _ _ => rfl)) pa_nil))))) (pw_or1 (pt_not (pt_val (pkG (ok_law_rows_told T) hgd hr rfl T.g_law_rows_told (pa_cons (pv 1) (pa_cons (pv 6) (pa_cons (pv 2) pa_nil))))))))) (pss_one (ps_ret pe_bl)) pss_nil)))))
  (pss_one (ps_ret pe_bl))))))), ?_⟩
    walk_at "rd"
    refine ⟨a, ins, rfl, hs, hn, fun β H1 s1 nb B => ?_⟩
    walk_at "rd"
    refine r_names (E := E0) B (by decide) (by decide) fun n ns H2 e2 nn hnm nl N => ?_
    walk_at "rd"
    refine r_side (E := E0) e2.bag (.inl rfl) (SqL.of hnm) N.good N.nd (by omega) fun b0 l0 ks0 H3 e3 nb0 nl0 S0 G0 k0 => ?_
    have hn3 := way_bag.lst e3 hnm
    have nnl0 : n ≠ l0 := ne_of_none hnm nl0
    have ap0 : Apart K β l0 := Apart.of e2.bag nl0
    walk_at "rd"
    refine r_shuffled (E := E0) e3.bag (SqL.of hn3) (by omega) fun p ns2 H4 e4 np hp pm => ?_
    have S04 := S0.bg e4
    have hn4 := way_bag.lst e4 hn3
    walk_at "rd"
    refine r_side (E := E0) e4.bag (.inr rfl) (SqL.of hp) (fun s hs => N.good s (pm.mem_iff.mp hs)) (pm.nodup_iff.mpr N.nd) (by rw [pm.length_eq]; omega) fun b1 l1 ks1 H5 e5 nb1 nl1 S1 G1 k1 => ?_
    have S05 := S04.bg e5
    have hn5 := way_bag.lst e5 hn4
    have nnl1 : n ≠ l1 := ne_of_none hn4 nl1
    have ap1 : Apart K β l1 := Apart.of e4.bag nl1
    have nbb : b0 ≠ b1 := by
      obtain ⟨_, _, hb, _, _⟩ := S04.ex
      exact ne_of_none hb nb1
    have nll : l0 ≠ l1 := by
      obtain ⟨_, _, _, hl, _⟩ := S04.ex
      exact ne_of_none hl nl1
    walk_at "rd"
    refine ⟨by show 2 ≤ sizeLine; decide, fun S hS => ?_⟩
    have s6 := Same.upd (o := .lst [V.ref b0, V.ref b1]) hS
    have hS6 : upd H5 S (.lst [V.ref b0, V.ref b1]) S = some (.lst [V.ref b0, V.ref b1]) := upd_same
    have nSl0 : S ≠ l0 := by
      obtain ⟨_, _, _, hl, _⟩ := S05.ex
      exact (ne_of_none hl hS).symm
    have nSl1 : S ≠ l1 := by
      obtain ⟨_, _, _, hl, _⟩ := S1.ex
      exact (ne_of_none hl hS).symm
    have W : Two K β b0 l0 b1 l1 n S ns ks0 ks1 (upd H5 S (.lst [V.ref b0, V.ref b1])) := ⟨e5.bag.same s6, S05.same s6, G0, k0, S1.same s6, G1, k1, s6 _ _ hn5, hS6⟩
    clear s6 hS6 hS
    generalize upd H5 S (.lst [V.ref b0, V.ref b1]) = H6 at W ⊢
    have n12 : 8 < ns.length := by omega
    have n1k : ns.length ≤ 1000 := by omega
    walk_at "rd"
    refine r_pick (E := E0) W.bag (by decide) (by decide) fun r H7 e7 r0 r1 => ?_
    have W := W.bg e7
    walk_at "rd"
    refine forR (fun j σ' H' => ∃ (ks0 ks1 : List KD) (o4 : Option V), σ' = [some (.ref a), some (.ref β.b), some (.ref n), some (.ref S), o4, none, none] ∧ Two K β b0 l0 b1 l1 n S ns ks0 ks1 H') ⟨by omega, by omega⟩ ⟨ks0, ks1, none, rfl, W⟩ ?_ ?_
    · rintro j σ' H8 hj ⟨ks0, ks1, o4, rfl, W⟩
      walk_at "rd"
      refine r_choice (E := E0) W.bag (SqL.of W.st) (by show 0 < 2; decide) (by show 2 ≤ 100000; decide) fun i v H9 hv e9 => ?_
      have W := W.bg e9
      walk_at "rd"
      have := List.mem_of_getElem? hv
      simp only [List.mem_cons, List.not_mem_nil, or_false] at this
      rcases this with rfl | rfl
      · refine ⟨β, b0, l0, n, 2, ks0, ns, rfl, W.bag, W.s0, W.g0, W.n0, SqL.of W.nm, N.good, by omega, n1k, ap0, fun H10 ks' tn S' G' n' => ?_⟩
        refine r_bl (r_iF ?_)
        walk_at "rd"
        exact ⟨ks', ks1, _, rfl, tn.bag, S', G', n', W.s1.tn W.s0 tn nbb.symm nll.symm, W.g1, W.n1, tn.lst W.s0 nnl0 W.nm, tn.lst W.s0 nSl0 W.st⟩
      · refine ⟨β, b1, l1, n, 3, ks1, ns, rfl, W.bag, W.s1, W.g1, W.n1, SqL.of W.nm, N.good, by omega, n1k, ap1, fun H10 ks' tn S' G' n' => ?_⟩
        refine r_bl (r_iF ?_)
        walk_at "rd"
        exact ⟨ks0, ks', _, rfl, tn.bag, W.s0.tn W.s1 tn nbb nll, W.g0, W.n0, S', G', n', tn.lst W.s1 nnl1 W.nm, tn.lst W.s1 nSl1 W.st⟩
    rintro σ' H8 ⟨ks0, ks1, o4, rfl, W⟩
    walk_at "rd"
    refine forR (fun j σ' H' => ∃ (o5 o6 : Option V), σ' = [some (.ref a), some (.ref β.b), some (.ref n), some (.ref S), o4, o5, o6] ∧ Two K β b0 l0 b1 l1 n S ns ks0 ks1 H') ⟨by decide, by decide⟩ ⟨none, none, rfl, W⟩ ?_ ?_
    · rintro j σ' H9 hj ⟨o5, o6, rfl, W⟩
      walk_at "rd"
      obtain ⟨b, l, b', l', m, m', ks, ks', hbv, hbv', mm, Sa, Ga, na, Sb, Gb, nb'⟩ : ∃ (b l b' l' : Addr) (m m' : Int) (ks ks' : List KD), atI [V.ref b0, V.ref b1] (j : Int) = some (.ref b) ∧ atI [V.ref b0, V.ref b1] (1 - (j : Int)) = some (.ref b') ∧ m ≠ m' ∧ SideAt K H9 b l m ks ∧ GoodT m ks ∧ ks.length ≤ 8 ∧ SideAt K H9 b' l' m' ks' ∧ GoodT m' ks' ∧ ks'.length ≤ 8 := by
        have : j = 0 ∨ j = 1 := by omega
        rcases this with rfl | rfl
        · exact ⟨b0, l0, b1, l1, 2, 3, ks0, ks1, rfl, rfl, by decide, W.s0, W.g0, W.n0, W.s1, W.g1, W.n1⟩
        · exact ⟨b1, l1, b0, l0, 3, 2, ks1, ks0, rfl, rfl, by decide, W.s1, W.g1, W.n1, W.s0, W.g0, W.n0⟩
      have Sa2 := Sa
      obtain ⟨us, c, hb, hl, hus, hC⟩ := Sa2.ex
      refine r_ixL (SqL.of W.st) hbv ?_
      walk_at "rd"
      refine r_dgot (DGet_k hb side_ma) ?_
      walk_at "rd"
      refine r_dgot (DGet_k hb side_sg) ?_
      walk_at "rd"
      refine r_dgot (DGet_k hb side_he) ?_
      walk_at "rd"
      refine ⟨c, l, n, m, ks, us, ns, rfl, hC, Ga, na, SqL.of hl, hus, W.nm, n1k, fun s hs => asked_good (N.good s hs), fun H10 s10 => ?_⟩
      refine r_bl (r_iF ?_)
      walk_at "rd"
      refine r_ixL (SqL.of (s10 _ _ W.st)) hbv' ?_
      walk_at "rd"
      refine ⟨b, l, b', l', m, m', ks, ks', rfl, Sa.same s10, Ga, na, Sb.same s10, Gb, mm, fun H11 s11 => ?_⟩
      have s11 := s10.trans s11
      have W := W.same s11
      refine r_bl (r_iF ?_)
      walk_at "rd"
      refine ⟨β, b, l, n, m, ks, ns, rfl, W.bag, Sa.same s11, Ga, na, W.nm, N.good, N.nd, n12, n1k, fun H12 e12 => ?_⟩
      refine r_bl (r_iF ?_)
      walk_at "rd"
      exact ⟨_, _, rfl, W.bg e12⟩
    rintro σ' H9 ⟨o5, o6, rfl, W⟩
    walk_at "rd"
    exact k H9
end
end Tx

/-! ## Hd -/
set_option maxHeartbeats 0
namespace Tx
open PySem PySem.W PySem.Calls PyProof.Rows
abbrev R : OpenRow := OpenLaw.row PySem.Challenge.rw_tinkerhall_k06_catalogues
abbrev qv : Program := view R.prog [54]
def names0 : List PySem.Str := ["_wall", "__name__", "TinkerError", "BadSigns", "BadName", "BadKind", "TooMany", "Twice", "Unknown", "Unlike", "is_number", "is_list", "are_signs", "are_different", "WORDS", "is_name", "MOST_KINDS", "MOST_PRICE", "MOST_WAYS", "Kind", "Catalogue", "_is_table", "_are_ways", "_is_way", "_law_bag_of", "_law_pick", "_law_choice", "_law_one_in", "_law_shuffled", "_law_integer"]
def names1 : List PySem.Str := ["_law_letters", "_law_reserved", "_law_names_of", "_law_table_of", "_law_way_table", "_law_kind_of", "_law_same", "_law_object", "_law_parts_of", "_law_item", "_law_told_of", "_law_added", "_law_at_once", "_law_due_of", "_law_new", "_law_side_of", "_law_turn_of", "_law_row_of", "_law_rows_told", "_law_equal_told"]
def names : List PySem.Str := names0 ++ (names1)
abbrev hk : PySem.W.Hook := Gd.hookE PySem.Challenge.rw_tinkerhall_k06_catalogues.prog 5 ts ds es
def ob (s : PySem.W.SharedT) : Gd.ObsE := Gd.obsAtE PySem.Challenge.rw_tinkerhall_k06_catalogues.prog 5 ts ds es (HandSHeadRun.getT s)
theorem ob_eq (s : PySem.W.SharedT) : ob s = hk.obs s.abs := Gd.obsAtE_eq (HandSHeadRun.getT_eq s)
theorem run (w : World) : HandSHeadRun.RunEq R qv hk ob 9000 names w := by
  intro os
  kernel_rfl
end Tx

/-! ## End -/
set_option maxHeartbeats 4000000
namespace Tx
open PySem PySem.Spec PyProof.Rows L2 Gd
theorem top_ok : ((PySem.Challenge.rw_tinkerhall_k06_catalogues).prog.main.scope.names.lookup ("super" : Str)).isSome = false := by kernel_rfl
theorem facts {P : Program} {w : World} {K : Frg} {h : Heap} {mg : Str → Option Value} {f : Addr} (X : K.In h) (G : h.Ns mainGlobals mg) (hfa : mg ("law" : Str) = some (.ref f)) (tp : (P.main.scope.names.lookup ("super" : Str)).isSome = false) (c : TellsE P ts ds es K) :
    ∃ fd : FuncData, (∀ (s : Shared) (v : Value), BindsTo s fd ⟨[v], []⟩ [("_law_script", v)]) ∧ ∀ base : Heap, K.In base → base.Ns mainGlobals mg → FnG P w K mg base 10 f fd ["_law_script"] (spLaw K) := by
  have T : Txt P K mg := ⟨c, tp, h, X, G⟩
  have e := hfa.symm.trans T.g_law
  cases e
  obtain ⟨fd, F⟩ := T.F_law
  have b := FunD.bindsA (ps := ["_law_script"]) F fun _ _ _ _ _ _ us hl => match us, hl with | [_], _ => rfl
  refine ⟨fd, fun s v => b s [v] rfl, fun base _ _ => ?_⟩
  exact fn_law T F
end Tx
open PySem PySem.W PySem.Calls PyProof.Rows
theorem PySem.Challenge.cw_tinkerhall_k06_catalogues_holds : PySem.Challenge.rw_tinkerhall_k06_catalogues.Holds := by
  w_on; o_law
  refine HandSHeadRun.head_any (r := OpenLaw.row PySem.Challenge.rw_tinkerhall_k06_catalogues) (q := Tx.qv) (H := Tx.hk) (ob := Tx.ob) (M := 9000) (loose := Tx.names) (d := HandSHeadRun.topDef (OpenLaw.row PySem.Challenge.rw_tinkerhall_k06_catalogues).prog 54) (kwd := []) Tx.ob_eq
    (by kernel_rfl) (fun s => by kernel_rfl) Tx.run (by kernel_rfl) (by kernel_rfl) (by kernel_rfl) (by rfl) (by first | assumption | decide +kernel) (by decide +kernel) ⟨rfl, rfl, rfl, rfl, rfl, by decide +kernel⟩ ?hw ?hc
  case hw => w_witness2
  case hc =>
    refine Gd.walk_G (l := PySem.Challenge.rw_tinkerhall_k06_catalogues) (n := 63) (k := 10) (x := "_law_script") rfl (by decide) (by kernel_rfl) ⟨rfl, by decide, by decide⟩ ?F
    intro w mg fa h Y G hmg0
    obtain ⟨K, KX, c⟩ := Y
    have hmg : mg ("law" : PySem.Str) = some (.ref fa) := by
      have e : (HandSHeadRun.topDef (OpenLaw.row PySem.Challenge.rw_tinkerhall_k06_catalogues).prog 54).name = ("law" : PySem.Str) := by kernel_rfl
      rw [← e]
      exact hmg0
    obtain ⟨fd, hb, hF⟩ := Tx.facts (P := (PySem.Challenge.rw_tinkerhall_k06_catalogues).prog) (w := w) KX G hmg Tx.top_ok c
    exact ⟨K, fd, Tx.spLaw K, KX, hb, fun H a ns hl _ hS => ⟨a, ns, rfl, hS, hl, fun _ => rfl⟩, hF⟩
