import PyProof.Rows.All
import Wide.All
import OpenK.AllK
import Wide.FinOn
import KE.KStateDown
import HandS.ForMost
import HandS.Defaults
import HandS.MakeKwOnly
import HandS.Star
import HandS.FStr
import HandS.IsInst
import HandS.TupAny
import HandS.Property
import HandS.OwnEq
import HandS.Exc
import HandS.Evl
import PyProof.ReprRoads
import HandS.Head0
import HandS.Head1
import HandS.Head2
import HandS.HeadEnd
import HandS.HeadHook1
import HandS.HeadHook2
import PySem.Challenge.RW_tinkerhall_k07_catalogue_lines
import HandS.OwnIter
import HandS.IterVal
import HandS.More
set_option Elab.async false
set_option linter.all false
set_option maxRecDepth 100000
/-! ## Lay1 -/
set_option maxHeartbeats 4000000
/-! A layer of the prover's own over HandS: defs that are run where no repr is on the stack. -/
namespace Gd
open PySem PySem.Spec PyProof.Rows L2

section
variable {P : Program} {w : World} {K : PySem.W.Frag} {mg : Str → Option Value} {base : Heap}

/-- a def's promise, told only where the stack holds no guard (so that a text of data can be made) -/
structure FnG (P : Program) (w : World) (K : PySem.W.Frag) (mg : Str → Option Value) (base : Heap) (k : Nat) (f : Addr) (fd : FuncData) (ps : List Str) (sp : Sp) : Prop where
  many : ∀ vs H Q E, sp vs H Q E → vs.length = ps.length
  goes : ∀ (A : Around) (outer : List Env) (s : Shared) (H : Hp) (args : Args) (us : List Value) (vs : List V) (Q : VK),
    A.guards = some [] → Room k A → Env0 P w K mg base A outer s H → BindsTo s fd args (ps.zip us) → Vals vs us → sp vs H Q E0 →
    codeAny (model P w) A (.call (.ref f) args) (CR CX0 outer P w H s Q E0) s

theorem FnG.of {k : Nat} {f : Addr} {fd : FuncData} {ps : List Str} {sp : Sp} (F : FnOk P w K mg base CX0 k f fd ps sp) : FnG P w K mg base k f fd ps sp :=
  ⟨F.len, fun A outer s H args us vs Q _ hr he hb hv hs => F.run A outer s H args us vs Q E0 hr he hb hv hs⟩

/-- the body of such a def: as for the layer's own rule, with the stack's fact besides -/
theorem fnG_of {k : Nat} {f : Addr} {x qual : Str} {params : Arguments} {body : List Stmt} {scope : Scope} {dvs : List V} {kws : List (Str × V)} {fd : FuncData} {N ps : List Str} {sp : Sp}
    (F : FunD K x qual params body scope dvs kws f fd) (S : FnScope N ps scope) (many : ∀ vs H Q E, sp vs H Q E → vs.length = ps.length)
    (hbody : ∀ (cdv : Value) (A : Around) (outer : List Env) (s : Shared) (H : Hp) (vs : List V) (Q : VK), A.guards = some [] →
      Room k (A.deeper (envOfC qual scope s.heap.objs.size f cdv)) → sp vs H Q E0 →
      ∃ t, PSs (cxOf CX0 P w K mg base N qual scope f cdv A outer s H E0) body t ∧ t { nx := fun _ H' => Q .non H', rt := Q } (start N vs) H) :
    FnG P w K mg base (k + 1) f fd ps sp := by
  obtain ⟨oc, od, dV, kV, doc, pm, an, cdv, ct, osl, rfl, lk, hcd, _, _⟩ := F.ex
  refine ⟨many, fun A outer s H args us vs Q hg hr e0 hb r hsp => ?_⟩
  have many' := many _ _ _ _ hsp
  have stays : ∀ b o, base.get? b = some o → s.heap.get? b = some o := fun b o e => (e0.bs b o e).1
  have inK := e0.mod.kin.keeps stays
  have free := e0.mod.nolimit.keeps stays
  have kinds : ∀ q ∈ ps.zip us, scope.names.lookup q.1 = some .local ∨
      (scope.names.lookup q.1 = some .cell ∧ ((cellsFrom (s.heap.objs.size + 1) scope.names []).lookup q.1).isSome = true) := by
    rintro ⟨n, v⟩ hq
    cases S.par n (List.of_mem_zip hq).1 with
    | inl l => exact Or.inl l
    | inr c => exact Or.inr ⟨c, PySem.W.cellsFrom_some _ _ _ (Or.inl c)⟩
  refine codeAny_call_function hr.depth (inK _ _ lk) rfl S.co S.gen rfl
    (PySem.W.codeRec_of inK hcd) (hb _ _ _ _ ?_)
  refine wpAny_newFunctionEnv_cells S.kind kinds fun env made s1 entered => ?_
  subst made
  refine ⟨free.keeps entered.toInCall.keep, codeAny_func ?_⟩
  obtain ⟨t, runs, reads⟩ := hbody cdv A outer s H vs Q hg (hr.deeper _) hsp
  have I : Inv (cxOf CX0 P w K mg base N qual scope f cdv A outer s H E0) [] (start N vs) H s1 :=
    inv_start S hr.hd e0 many' r entered
  refine wpAny_mono (runs.run [] s1 (start N vs) H _ I reads) (fun fl s' ends => ?_)
    fun _ _ z => z
  cases fl with
  | ret u =>
    obtain ⟨v, _, H', J, rv, q⟩ := ends
    exact ⟨v, H', J.os, J.bare, J.base, J.hok, rv, q⟩
  | next =>
    obtain ⟨_, H', J, q⟩ := ends
    exact ⟨V.non, H', J.os, J.bare, J.base, J.hok, rfl, q⟩
  | brk => obtain ⟨_, _, _, z⟩ := ends; exact z.elim
  | cont => obtain ⟨_, _, _, z⟩ := ends; exact z.elim
end

/-! ### the call of such a def in a body that knows its stack -/
section
variable {X : Cx} {k : Nat} {f : Addr} {fd : FuncData} {ps : List Str} {sp : Sp} {x : Str} {p pos : Pos} {e : Expr} {es : List Expr} {t : TA}
theorem pe_callG (F : FnG X.prog X.w X.K X.mg X.base k f fd ps sp) (hgd : X.A.guards = some []) (hr : Room k X.A) (hg : Gl X x)
    (hm : X.mg x = some (.ref f)) (hk : PySem.W.keepIn X.K (.ref f) = true) (hb : Binds X.K fd ps []) (ha : PA X (e :: es) t)
    (hdb : (x == ("__debug__" : Str)) = false := by decide)
    (he : starEach (e :: es) X.env = (false, eval e X.env) :: starEach es X.env := by rfl)
    (hpl : (backTo pos (starEach es X.env)).any (·.1) = false := by rfl) :
    PE X (.Call (.Name x p) (e :: es) [] pos) (tCall sp [] E0 t) := by
  constructor
  intro pins s σ H Q I h
  refine wpAny_Call_Name_kw (ld_glob I hg hm ?_ hdb)
  refine PySem.W.callWith_K (h₀ := X.base) I.ok.mod.kin hk
    (thn (ha.run pos pins s σ H _ I h) ?_) he hpl
  rintro us s1 ⟨vs, H1, I1, r, q⟩
  refine ⟨I1.kIn, ?_⟩
  have q : sp vs H1 Q E0 := by
    have q' : sp (vs ++ []) H1 Q E0 := q
    rw [List.append_nil] at q'
    exact q'
  have n : (us ++ []).length = ps.length := by
    rw [List.append_nil, ← r.length]
    exact F.many _ _ _ _ q
  have bound := hb s1 us I1.kIn n
  rw [List.append_nil] at bound
  refine wpAny_call (codeAny_mono (F.goes X.A X.stack s1 H1 _ us vs Q hgd hr I1.env0 bound r q) fun res s' hq => ?_)
  match res, hq with
  | .error er, hq => exact False.elim hq
  | .ok (.ret u), hq => exact I1.after hq
end

/-! ### the text of data -/
/-- repr of a piece of data, where the stack holds no guard -/
def rRepr (K : PySem.W.Frag) : List V → Hp → VK → Prop := fun xs H Q => ∃ v d, xs = [v] ∧ Dp K H v d ∧ d.showable = true ∧ d.hasDict = false ∧ d.depth ≤ 64 ∧ d.shown.length ≤ sizeLine ∧ Q (.str d.shown) H
section
variable {X : Cx}
theorem call_repr (hgd : X.A.guards = some []) (hu : X.A.units + 100 < cLine) : CallR X (.builtin "repr") (rRepr X.K) := by
  intro pins s σ H xs us Q I r h
  obtain ⟨v, d, rfl, hd, hs, hn, hdep, hsz, q⟩ := h
  cases r with
  | cons rv rn =>
    cases rn
    rename_i u
    obtain ⟨as, rd⟩ := Dp.reads I d v u hd rv
    cases hd with
    | non =>
      cases (show u = Value.none from rv)
      refine PySem.P.repr_of_none ⟨.str _, H, I.tok _, ⟨_, rfl⟩, ?_⟩
      simpa only [PyData.shown] using q
    | bl b =>
      cases (show u = Value.bool b from rv)
      refine PySem.P.repr_of_bool ⟨.str _, H, I.tok _, ⟨_, rfl⟩, ?_⟩
      simpa only [PyData.shown] using q
    | int i =>
      obtain ⟨tk, rfl⟩ := rv
      refine PySem.P.repr_of_int (by simpa [PyData.showable] using hs) ⟨.str _, H, I.tok _, ⟨_, rfl⟩, ?_⟩
      simpa only [PyData.shown] using q
    | str x =>
      obtain ⟨tk, rfl⟩ := rv
      refine PySem.P.repr_of_str ⟨.str _, H, I.tok _, ⟨_, rfl⟩, ?_⟩ (by simpa only [PyData.shown] using hsz)
      simpa only [PyData.shown] using q
    | lst h1 h2 =>
      rename_i a xs ds
      cases (show u = Value.ref a from rv)
      refine repr_of_reads' rd hs (fun z => by rw [hn] at z; cases z) hgd (by omega) (fun _ _ e => e) (fun h' tx tk kp => ?_) hsz
      exact ⟨.str _, H, I.kept kp, ⟨_, rfl⟩, q⟩
    | tup h1 h2 =>
      rename_i a xs ds
      cases (show u = Value.ref a from rv)
      refine repr_of_reads' rd hs (fun z => by rw [hn] at z; cases z) hgd (by omega) (fun _ _ e => e) (fun h' tx tk kp => ?_) hsz
      exact ⟨.str _, H, I.kept kp, ⟨_, rfl⟩, q⟩
end

/-! ### the law's own call: from what its def promises, told for the caller's stack -/
section
variable {P : Program} {w : World} {K : PySem.W.Frag} {mg mb : Str → Option Value} {k : Nat} {fa a : Addr} {fd : FuncData} {x : Str} {sp : Sp} {t₁ : Shared} {vs : List Value} {ns : List Int}
/-- the end, from an abstract heap that tracks nothing but (perhaps) the script -/
theorem from_heap (KX : K.In t₁.heap) (hns : t₁.heap.Ns mainGlobals mg) (hb : t₁.heap.Ns builtinsNs mb) (hbb : ∀ y : Str, y ≠ "__name__" → mb y = bootBuiltins y)
    (hlim : t₁.heap.NoLimit) (hgen : t₁.gens = #[]) (ha : t₁.heap.get? a = some { cls := .type "list", data := .seq vs.toArray }) (hr : Room k callerA)
    (F : ∀ base : Heap, K.In base → base.Ns mainGlobals mg → FnG P w K mg base k fa fd [x] sp)
    (hbind : ∀ (s : Shared) (u : Value), BindsTo s fd ⟨[u], []⟩ [(x, u)])
    (H : Hp) (only : Only H) (hok : HOk P w H t₁.heap) (at_a : ∀ b, H b ≠ none → b = a) (notK : H a ≠ none → K.lookup a = none)
    (hsp : sp [.ref a] H (fun v _ => v = .bl true) E0) :
    codeAny (model P w) callerA (.call (.ref fa) ⟨[.ref a], []⟩)
      (fun r s' => r = .ok (.ret (.bool true)) ∧ OldK t₁.heap s'.heap ∧ s'.os = t₁.os ∧ AllBare s'.gens) t₁ := by
  have untracked : ∀ {b : Addr} {o : Obj}, t₁.heap.get? b = some o → b ≠ a → H b = none := fun {b o} _ hne => by
    cases e : H b with
    | none => rfl
    | some u => exact absurd (at_a b (by rw [e]; simp)) hne
  have dict_ne : ∀ {b : Addr} {o : Obj} {es : Array DictEntry} {n : Nat}, t₁.heap.get? b = some o → o.data = .dict es n → b ≠ a := by
    rintro b o es n e d rfl
    rw [ha] at e
    cases e
    cases (show Data.seq vs.toArray _ = Data.dict es n from d)
  have ns_to : ∀ {b : Addr} {m : Str → Option Value}, t₁.heap.Ns b m → (hidT t₁.heap H).Ns b m := by
    rintro b m ⟨o, es, n, e, d, rest⟩
    exact ⟨o, es, n, hidT_get e (untracked e (dict_ne e d)), d, rest⟩
  have inBase : K.In (hidT t₁.heap H) := by
    intro b o e
    refine hidT_get (KX b o e) ?_
    cases q : H b with
    | none => rfl
    | some u =>
      have hq : H b ≠ none := by rw [q]; simp
      have eb := at_a b hq
      subst eb
      rw [notK hq] at e
      cases e
  have lim : (hidT t₁.heap H).NoLimit := by
    obtain ⟨m, h1, h2⟩ := hlim
    exact ⟨m, ns_to h1, h2⟩
  have e0 : Env0 P w K mg (hidT t₁.heap H) callerA [] t₁ H :=
    ⟨rfl, ⟨inBase, ns_to hns, ⟨mb, ns_to hb, hbb⟩, lim⟩, fun _ _ e => of_hidT e, Nat.le_of_eq (hidT_size _ _), trivial,
      fun b z => absurd (show b ∈ ([] : List Addr) from z) (by simp), hok, .of_eq hgen⟩
  refine codeAny_mono ((F _ inBase (ns_to hns)).goes callerA [] t₁ H ⟨[.ref a], []⟩ [.ref a] [.ref a] _ rfl hr e0
    (hbind t₁ (.ref a)) (.cons rfl .nil) hsp) fun res s' h => ?_
  match res, h with
  | .error _, h => exact False.elim h
  | .ok (.ret u), h =>
    obtain ⟨v, H', os, bare, un, hok', rv, rfl⟩ := h
    cases (show u = Value.bool true from rv)
    refine ⟨rfl, OldK.of_keep fun b o e => ?_, os, bare⟩
    cases q : H b with
    | none => exact un.keep b o e q (fun z => absurd (show b ∈ ([] : List Addr) from z) (by simp)) (by simp)
    | some u =>
      rcases only b with z | ⟨ob, ys, z⟩
      · rw [q] at z; cases z
      · obtain ⟨g1, _⟩ := hok b _ z
        obtain ⟨g2, _⟩ := hok' b _ (un.frzs b ob _ z)
        rw [e] at g1
        cases g1
        exact g2

theorem law_callG (KX : K.In t₁.heap) (hns : t₁.heap.Ns mainGlobals mg) (hb : t₁.heap.Ns builtinsNs mb) (hbb : ∀ y : Str, y ≠ "__name__" → mb y = bootBuiltins y)
    (hlim : t₁.heap.NoLimit) (hgen : t₁.gens = #[]) (ha : t₁.heap.get? a = some { cls := .type "list", data := .seq vs.toArray }) (hi : IntsAre vs ns) (hl : ns.length ≤ sizeLine)
    (hr : Room k callerA) (F : ∀ base : Heap, K.In base → base.Ns mainGlobals mg → FnG P w K mg base k fa fd [x] sp)
    (hbind : ∀ (s : Shared) (u : Value), BindsTo s fd ⟨[u], []⟩ [(x, u)])
    (hsp : ∀ H : Hp, Only H → SqL K H a (ns.map V.int) → sp [.ref a] H (fun v _ => v = .bl true) E0) :
    codeAny (model P w) callerA (.call (.ref fa) ⟨[.ref a], []⟩)
      (fun r s' => r = .ok (.ret (.bool true)) ∧ OldK t₁.heap s'.heap ∧ s'.os = t₁.os ∧ AllBare s'.gens) t₁ := by
  have rel := vals_ints hi
  cases inK : K.lookup a with
  | some o =>
    have e := KX a o inK
    rw [ha] at e
    cases e
    have len : (ns.map V.int).length ≤ sizeLine := by rw [List.length_map]; exact hl
    refine from_heap KX hns hb hbb hlim hgen ha hr F hbind (fun _ => none) (fun _ => Or.inl rfl)
      (fun b u z => by cases (show (none : Option HO) = some u from z)) (fun b z => absurd rfl z) (fun z => absurd rfl z) ?_
    refine hsp _ (fun _ => Or.inl rfl) (Or.inr ⟨_, vs.toArray, _, inK, rfl, rfl, rfl, ?_, by simpa using rel⟩)
    rw [List.size_toArray, hi.length]
    exact hl
  | none =>
    have there : ∀ b, (if b = a then some (HO.frz { cls := .type "list", data := .seq vs.toArray } (.lst (ns.map V.int))) else none : Option HO) ≠ none → b = a := by
      intro b z
      by_cases h : b = a
      · exact h
      · exact absurd (if_neg h) z
    have known : Only (fun b => if b = a then some (HO.frz { cls := .type "list", data := .seq vs.toArray } (.lst (ns.map V.int))) else none) := by
      intro b
      by_cases h : b = a
      · exact Or.inr ⟨_, _, if_pos h⟩
      · exact Or.inl (if_neg h)
    refine from_heap KX hns hb hbb hlim hgen ha hr F hbind _ known ?_ there (fun _ => inK)
      (hsp _ known (Or.inl (Or.inr ⟨_, if_pos rfl⟩)))
    intro b u z
    by_cases h : b = a
    · subst h
      cases (if_pos rfl).symm.trans z
      exact ⟨ha, by rw [List.length_map]; exact hl, vs, _, rel, ha⟩
    · cases (if_neg h).symm.trans z
end

/-- the end of a law's row over a head by facts -/
theorem walk_G {l : PySem.W.OpenLaw} {n k : Nat} {q : Program} {loose : List Str} {XP : (Str → Option Value) → Heap → Prop} {YP : World → Heap → Prop} {d : DefRec} {x : Str}
    (hn : l.most = some n) (hn2 : n ≤ sizeLine) (hdf : d.params.defaults = []) (hr : Room k callerA)
    (F : ∀ (w : World) (mg : Str → Option Value) (fa : Addr) (h : Heap), YP w h → h.Ns mainGlobals mg → mg d.name = some (.ref fa) →
      ∃ (K : PySem.W.Frag) (fd : FuncData) (sp : Sp), K.In h ∧ (∀ (s : Shared) (u : Value), BindsTo s fd ⟨[u], []⟩ [(x, u)]) ∧
        (∀ (H : Hp) (a : Addr) (ns : List Int), ns.length ≤ n → Only H → SqL K H a (ns.map V.int) → sp [.ref a] H (fun v _ => v = .bl true) E0) ∧
        ∀ base : Heap, K.In base → base.Ns mainGlobals mg → FnG l.prog w K mg base k fa fd [x] sp) :
    PySem.W.WalkO q loose XP YP l.row.toRowW d [] (fun f vs => PySem.call f vs) := by
  refine Att.attach_call hn hdf ?_
  intro w s₀ s₁ mg mb fa o pm cd doc a vs ns G Y _ _ _ hmg hobj hints hlen hg
  obtain ⟨K, fd, sp, KX, bound, hsp, hF⟩ := F w mg fa _ Y G.T.g hmg
  exact law_callG KX G.T.g G.T.b G.T.builtins G.T.nolimit hg hobj hints (Nat.le_trans hlen hn2) hr hF bound
    fun H hO hS => hsp H a ns hlen hO hS
end Gd

/-! ## Lay2 -/
set_option maxHeartbeats 4000000
namespace Gd
open PySem PySem.Spec PyProof.Rows L2

/-! ### a def that keeps its promise, in short -/
section
variable {P : Program} {w : World} {K : PySem.W.Frag} {mg : Str → Option Value} {base : Heap}
/-- the def at f, called with as many values as it has parameters -/
def Ok (P : Program) (w : World) (K : PySem.W.Frag) (mg : Str → Option Value) (base : Heap) (k : Nat) (f : Addr) (ps : List Str) (sp : Sp) : Prop :=
  ∃ fd, FnOk P w K mg base CX0 k f fd ps sp ∧ Binds K fd ps [] ∧ PySem.W.keepIn K (.ref f) = true
def OkG (P : Program) (w : World) (K : PySem.W.Frag) (mg : Str → Option Value) (base : Heap) (k : Nat) (f : Addr) (ps : List Str) (sp : Sp) : Prop :=
  ∃ fd, FnG P w K mg base k f fd ps sp ∧ Binds K fd ps [] ∧ PySem.W.keepIn K (.ref f) = true
theorem Ok.mono {j k : Nat} {f : Addr} {ps : List Str} {sp : Sp} (F : Ok P w K mg base j f ps sp) (h : j ≤ k) : Ok P w K mg base k f ps sp :=
  let ⟨fd, a, b, c⟩ := F; ⟨fd, a.mono h, b, c⟩
/-- from its body -/
theorem ok_of {x qual : Str} {params : Arguments} {body : List Stmt} {scope : Scope} {dvs : List V} {kws : List (Str × V)} {f : Addr} {fd : FuncData} {N ps : List Str} {k : Nat} {sp : Sp}
    (F : FunD K x qual params body scope dvs kws f fd) (b : Binds K fd ps []) (S : FnScope N ps scope) (many : ∀ vs H Q E, sp vs H Q E → vs.length = ps.length)
    (hbody : ∀ (cdv : Value) (A : Around) (outer : List Env) (s : Shared) (H : Hp) (vs : List V) (Q : VK) (E : XK), Room k (A.deeper (envOfC qual scope s.heap.objs.size f cdv)) → sp vs H Q E →
      ∃ t, PSs (cxOf CX0 P w K mg base N qual scope f cdv A outer s H E).nox body t ∧ t { nx := fun _ H' => Q .non H', rt := Q } (start N vs) H) :
    Ok P w K mg base (k + 1) f ps sp := by
  refine ⟨fd, F.ok S many fun cdv A outer s H vs Q E hr h => ?_, b, F.kp⟩
  obtain ⟨t, p, q⟩ := hbody cdv A outer s H vs Q E hr h
  exact ⟨t, p.nox, q⟩
theorem okG_of {x qual : Str} {params : Arguments} {body : List Stmt} {scope : Scope} {dvs : List V} {kws : List (Str × V)} {f : Addr} {fd : FuncData} {N ps : List Str} {k : Nat} {sp : Sp}
    (F : FunD K x qual params body scope dvs kws f fd) (b : Binds K fd ps []) (S : FnScope N ps scope) (many : ∀ vs H Q E, sp vs H Q E → vs.length = ps.length)
    (hbody : ∀ (cdv : Value) (A : Around) (outer : List Env) (s : Shared) (H : Hp) (vs : List V) (Q : VK), A.guards = some [] →
      Room k (A.deeper (envOfC qual scope s.heap.objs.size f cdv)) → sp vs H Q E0 →
      ∃ t, PSs (cxOf CX0 P w K mg base N qual scope f cdv A outer s H E0).nox body t ∧ t { nx := fun _ H' => Q .non H', rt := Q } (start N vs) H) :
    OkG P w K mg base (k + 1) f ps sp := by
  refine ⟨fd, fnG_of F S many fun cdv A outer s H vs Q hg hr h => ?_, b, F.kp⟩
  obtain ⟨t, p, q⟩ := hbody cdv A outer s H vs Q hg hr h
  exact ⟨t, p.nox, q⟩
end
section
variable {X : Cx} {n k : Nat} {f C : Addr} {ps : List Str} {sp : Sp} {x m : Str} {p pos apos : Pos} {e o : Expr} {es : List Expr} {t : TA} {ta : TE}
theorem pk (F : Ok X.prog X.w X.K X.mg X.base k f ps sp) (hr : Room n X.A) (hg : Gl X x) (hm : X.mg x = some (.ref f)) (ha : PA X (e :: es) t) (hk : k ≤ n := by decide)
    (hdb : (x == ("__debug__" : Str)) = false := by decide)
    (he : starEach (e :: es) X.env = (false, eval e X.env) :: starEach es X.env := by rfl) (hpl : (backTo pos (starEach es X.env)).any (·.1) = false := by rfl) :
    PE X (.Call (.Name x p) (e :: es) [] pos) (tCall sp [] E0 t) := by
  obtain ⟨fd, F, b, kp⟩ := F
  exact pe_call F (hr.mono hk) hg hm kp b .nil pass0 ha hdb he hpl
theorem pk0 (F : Ok X.prog X.w X.K X.mg X.base k f ps sp) (hr : Room n X.A) (hg : Gl X x) (hm : X.mg x = some (.ref f)) (hk : k ≤ n := by decide)
    (hdb : (x == ("__debug__" : Str)) = false := by decide) : PE X (.Call (.Name x p) [] [] pos) (tCall sp [] E0 tNil) := by
  obtain ⟨fd, F, b, kp⟩ := F
  exact pe_call0 F (hr.mono hk) hg hm kp b .nil pass0 hdb
theorem pkG (F : OkG X.prog X.w X.K X.mg X.base k f ps sp) (hgd : X.A.guards = some []) (hr : Room n X.A) (hg : Gl X x) (hm : X.mg x = some (.ref f)) (ha : PA X (e :: es) t) (hk : k ≤ n := by decide)
    (hdb : (x == ("__debug__" : Str)) = false := by decide)
    (he : starEach (e :: es) X.env = (false, eval e X.env) :: starEach es X.env := by rfl) (hpl : (backTo pos (starEach es X.env)).any (·.1) = false := by rfl) :
    PE X (.Call (.Name x p) (e :: es) [] pos) (tCall sp [] E0 t) := by
  obtain ⟨fd, F, b, kp⟩ := F
  exact pe_callG F hgd (hr.mono hk) hg hm kp b ha hdb he hpl
theorem pkM (F : Ok X.prog X.w X.K X.mg X.base k f ps sp) (hr : Room n X.A) (c : Cls X.K C) (hm : Meth X.K C m f) (ho : PE X o ta) (ha : PA X (e :: es) t) (hk : k ≤ n := by decide) {pl : Sem Bool}
    (hst : starEach (e :: es) X.env = (false, eval e X.env) :: starEach es X.env := by rfl) (hpl : (backTo pos (starEach es X.env)).any (·.1) = false := by rfl)
    (ht : eval (.Call (.Attribute o m apos) (e :: es) [] pos) X.env = (do
      let ov ← eval o X.env
      standAt apos.atName
      let (f, first) ← holding [ov] (getMethod ov m pl)
      callWith pos f first (backTo pos (starEach (e :: es) X.env)) (backToKw pos (keywordEach [] X.env))) := by rfl) :
    PE X (.Call (.Attribute o m apos) (e :: es) [] pos) (tMeth C m sp [] E0 ta t) := by
  obtain ⟨fd, F, b, kp⟩ := F
  exact pe_meth ho c hm F (hr.mono hk) b .nil pass0 ha hst hpl ht
theorem pkM0 (F : Ok X.prog X.w X.K X.mg X.base k f ps sp) (hr : Room n X.A) (c : Cls X.K C) (hm : Meth X.K C m f) (ho : PE X o ta) (hk : k ≤ n := by decide) {pl : Sem Bool}
    (ht : eval (.Call (.Attribute o m apos) [] [] pos) X.env = (do
      let ov ← eval o X.env
      standAt apos.atName
      let (f, first) ← holding [ov] (getMethod ov m pl)
      callWith pos f first (backTo pos (starEach [] X.env)) (backToKw pos (keywordEach [] X.env))) := by rfl) :
    PE X (.Call (.Attribute o m apos) [] [] pos) (tMeth C m sp [] E0 ta tNil) := by
  obtain ⟨fd, F, b, kp⟩ := F
  exact pe_meth0 ho c hm F (hr.mono hk) b .nil pass0 ht
end
end Gd

/-! ## Lay3 -/
set_option maxHeartbeats 4000000
/-! What the top leaves, by tests of my own on the written part, and defs found at any address. -/
namespace Gd
open PySem PySem.Spec PyProof.Rows L2
abbrev Frg := PySem.W.Frag
/-- a def of the text: where it stands, and what it says -/
structure DefA where
  place : Frg → Addr
  name : Str
  qual : Str
  stm : Stmt
  dfl : List He.Dv := []
  kwd : List (Str × He.Dv) := []
def seenAt (K : Frg) (a : Addr) : He.FnW :=
  match K.lookup a with
  | some ⟨_, _, .func fd, _⟩ => some (fd.name, fd.qualname, fd.params, fd.body, fd.scope, fd.globals, fd.closure, fd.builtins)
  | _ => none
def DefA.due (d : DefA) : He.FnW := some (d.name, d.qual, defArgs d.stm, .stmts (defBody d.stm), defScope d.stm, mainGlobals, [], builtinsNs)
def DefA.dvs (d : DefA) (K : Frg) : List V := d.dfl.map (He.Dv.v K)
def DefA.kws (d : DefA) (K : Frg) : List (Str × V) := d.kwd.map fun q => (q.1, q.2.v K)
def DefA.good (d : DefA) (K : Frg) : Bool :=
  PySem.W.keepIn K (.ref (d.place K)) &&
    match K.lookup (d.place K) with
    | some ⟨_, _, .func fd, _⟩ => PySem.W.codeIn K fd.code d.qual && (He.dflB K fd.defaults (d.dvs K) && He.kwdB K fd.kwdefaults (d.kws K))
    | _ => false
theorem both {a b : Bool} (h : (a && b) = true) : a = true ∧ b = true := by
  cases a <;> cases b <;> simp_all
theorem DefA.fun {K : Frg} {d : DefA} (e : seenAt K (d.place K) = d.due) (c : d.good K = true) :
    ∃ fd, FunD K d.name d.qual (defArgs d.stm) (defBody d.stm) (defScope d.stm) (d.dvs K) (d.kws K) (d.place K) fd := by
  have c1 := (both c).1
  have c2 := (both c).2
  unfold seenAt at e
  cases q : K.lookup (d.place K) with
  | none => rw [q] at c2; cases c2
  | some o =>
    rw [q] at c2 e
    obtain ⟨oc, od, dt, osl⟩ := o
    cases dt with
    | func fd =>
      obtain ⟨m1, m2, m3, m4, m5, m6, m7, m8, m9, m10, m11, m12, m13, m14, m15⟩ := fd
      have e' : (some (m1, m2, m3, m4, m5, m6, m7, m15) : He.FnW) =
        some (d.name, d.qual, defArgs d.stm, .stmts (defBody d.stm), defScope d.stm, mainGlobals, [], builtinsNs) := e
      simp only [Option.some.injEq, Prod.mk.injEq] at e'
      obtain ⟨rfl, rfl, rfl, rfl, rfl, rfl, rfl, rfl⟩ := e'
      have c3 : (PySem.W.codeIn K m13 d.qual && (He.dflB K m8 (d.dvs K) && He.kwdB K m9 (d.kws K))) = true := c2
      have c4 := both (both c3).2
      exact ⟨_, ⟨oc, od, m8, m9, m10, m11, m12, m13, m14, osl, rfl, q, (both c3).1, He.dflB_ok c4.1, He.kwdB_ok c4.2⟩, c1⟩
    | _ => cases c2

abbrev Obs : Type := Bool × List He.FnW
def obsOf (ts : List (Frg → Bool)) (ds : List DefA) (K : Frg) : Obs :=
  ((ts.all fun t => t K) && ds.all fun d => d.good K, ds.map fun d => seenAt K (d.place K))
def dueOf (ds : List DefA) : Obs := (true, ds.map DefA.due)
def Tells (ts : List (Frg → Bool)) (ds : List DefA) (K : Frg) : Prop := obsOf ts ds K = dueOf ds
def obsAt (n : Nat) (ts : List (Frg → Bool)) (ds : List DefA) (g : Addr → Option Obj) : Obs := obsOf ts ds (He.frG g (He.asD g n))
def hook (n : Nat) (ts : List (Frg → Bool)) (ds : List DefA) : PySem.W.Hook where
  α := Obs
  obs s := obsAt n ts ds s.heap.get?
  val _ := dueOf ds
  says _ h := ∃ K : Frg, K.In h ∧ Tells ts ds K
  of _ _ e := ⟨_, He.frG_in, e⟩
  keeps := by
    rintro _ h h' ⟨K, hK, c⟩ k
    exact ⟨K, PySem.W.Frag.In.keeps hK k, c⟩
theorem obsAt_eq {n : Nat} {ts : List (Frg → Bool)} {ds : List DefA} {g : Addr → Option Obj} {s : Shared} (h : ∀ a, g a = s.heap.get? a) :
    obsAt n ts ds g = (hook n ts ds).obs s := by
  have e : g = s.heap.get? := funext h
  subst e
  rfl
section
variable {ts : List (Frg → Bool)} {ds : List DefA} {K : Frg}
theorem Tells.test (c : Tells ts ds K) (i : Nat) {t : Frg → Bool} (h : ts[i]? = some t := by rfl) : t K = true := by
  have c1 : ((ts.all fun t => t K) && ds.all fun d => d.good K) = true := congrArg Prod.fst c
  exact List.all_eq_true.mp (both c1).1 t (List.mem_of_getElem? h)
theorem Tells.fun (c : Tells ts ds K) (i : Nat) {d : DefA} (h : ds[i]? = some d := by rfl) :
    ∃ fd, FunD K d.name d.qual (defArgs d.stm) (defBody d.stm) (defScope d.stm) (d.dvs K) (d.kws K) (d.place K) fd := by
  have c1 : ((ts.all fun t => t K) && ds.all fun d => d.good K) = true := congrArg Prod.fst c
  have e : ds.map (fun d => seenAt K (d.place K)) = ds.map DefA.due := congrArg Prod.snd c
  have e' := congrArg (fun l => l[i]?) e
  simp only [List.getElem?_map, h, Option.map_some] at e'
  exact DefA.fun (Option.some.inj e') (List.all_eq_true.mp (both c1).2 d (List.mem_of_getElem? h))
end
/-! ### tests -/
def tF (f : He.Fa) : Frg → Bool := fun K => f.ok K
/-- the def under a property of the class C -/
def getA (C f : Str) (K : Frg) : Addr := match PySem.W.recIn K (He.ma K (He.ga K C) f) "property" with
  | some (.ref g :: _) => g
  | _ => 0
def tProp (C f : Str) : Frg → Bool := fun K =>
  He.eqO (PySem.W.findIn K (.ref (He.ga K C)) f) (some (some (.ref (He.ma K (He.ga K C) f)))) &&
  (He.eqO (PySem.W.specialIn K (.ref (He.ma K (He.ga K C) f)) "__get__") (some (some (.builtin "property.__get__"))) &&
  (decide (PySem.W.takesIn K (.ref (He.ma K (He.ga K C) f)) = some true) &&
  (match PySem.W.recIn K (He.ma K (He.ga K C) f) "property" with
    | some (.ref _ :: _) => true
    | _ => false)))
theorem prop_of {K : Frg} {C f : Str} (h : tProp C f K = true) : PropOf K (He.ga K C) f (He.ma K (He.ga K C) f) (getA C f K) := by
  have h1 := both h
  have h2 := both h1.2
  have h3 := both h2.2
  refine ⟨He.eqO_ok h1.1, He.eqO_ok h2.1, of_decide_eq_true h3.1, ?_⟩
  have h4 := h3.2
  unfold getA
  split at h4
  · rename_i g rest e
    exact ⟨rest, by rw [e]⟩
  · cases h4
/-- what isinstance asks of a class of the program -/
structure Isi (K : Frg) (C : Addr) : Prop where
  ha : PySem.W.findIn K (.ref C) "__class__" = some (some (.builtin "object.__class__"))
  hn : PySem.W.specialIn K (.builtin "object.__class__") "__get__" = some (some (.builtin "getset_descriptor.__get__"))
  htk : PySem.W.takesIn K (.builtin "object.__class__") = some true
  hm : PySem.W.mroIn K C (.type "object") = some true
def tIsi (C : Str) : Frg → Bool := fun K =>
  He.eqO (PySem.W.findIn K (.ref (He.ga K C)) "__class__") (some (some (.builtin "object.__class__"))) &&
  (He.eqO (PySem.W.specialIn K (.builtin "object.__class__") "__get__") (some (some (.builtin "getset_descriptor.__get__"))) &&
  (decide (PySem.W.takesIn K (.builtin "object.__class__") = some true) && decide (PySem.W.mroIn K (He.ga K C) (.type "object") = some true)))
theorem isi_of {K : Frg} {C : Str} (h : tIsi C K = true) : Isi K (He.ga K C) := by
  have h1 := both h
  have h2 := both h1.2
  have h3 := both h2.2
  exact ⟨He.eqO_ok h1.1, He.eqO_ok h2.1, of_decide_eq_true h3.1, of_decide_eq_true h3.2⟩
theorem Isi.ty {K : Frg} {C a dx : Addr} {fs : List (Str × V)} {H : Hp} (I : Isi K C) (c : Cls K C) (e : H a = some (.ins C dx fs)) : TyX K H (.ref a) (.ref C) := .base (.ins e c I.ha I.hn I.htk I.hm)
end Gd

/-! ## Lay4 -/
set_option maxHeartbeats 4000000
/-! Defs with keyword-only parameters that are all given; making; properties; rules within a comprehension's block. -/
namespace Gd
open PySem PySem.Spec PyProof.Rows L2
section
variable {P : Program} {w : World} {K : Frg} {mg : Str → Option Value} {base : Heap}
def KB (K : Frg) (fd : FuncData) (ps : List Str) (n : Nat) (ks : List Str) : Prop := KBn K fd ps n ks (fun us ws => us ++ ws) (fun vs zs => vs ++ zs)
theorem kb_of {x qual : Str} {params : Arguments} {body : List Stmt} {scope : Scope} {kws : List (Str × V)} {f : Addr} {fd : FuncData} {ps : List Str} {n : Nat} {ks : List Str} (F : FunD K x qual params body scope [] kws f fd) (hk : kws ≠ [])
    (h : ∀ (D : Addr) (doc pm : Value) (an : Option Addr) (cdv ct : Value) (us ws : List Value), us.length = n → ws.length = ks.length →
      bindArgs (PySem.W.fnOf x qual params body scope .none (.ref D) doc pm an cdv ct) ⟨us, ks.zip ws⟩ = pure (ps.zip (us ++ ws))) : KB K fd ps n ks := by
  obtain ⟨mv, b⟩ := F.kbinds0 (ps := ps) n ks [] (fun {α} us _ ws => us ++ ws) hk (by simp) (fun r1 _ r3 => r1.append r3) (fun D doc pm an cdv ct us mv ws l1 _ l3 => h D doc pm an cdv ct us ws l1 l3)
  exact b
def OkK (P : Program) (w : World) (K : Frg) (mg : Str → Option Value) (base : Heap) (k : Nat) (f : Addr) (ps : List Str) (sp : Sp) (n : Nat) (ks : List Str) : Prop :=
  ∃ fd, FnOk P w K mg base CX0 k f fd ps sp ∧ KB K fd ps n ks ∧ PySem.W.keepIn K (.ref f) = true
theorem okK_of {x qual : Str} {params : Arguments} {body : List Stmt} {scope : Scope} {dvs : List V} {kws : List (Str × V)} {f : Addr} {fd : FuncData} {N ps ks : List Str} {k n : Nat} {sp : Sp}
    (F : FunD K x qual params body scope dvs kws f fd) (b : KB K fd ps n ks) (S : FnScope N ps scope) (many : ∀ vs H Q E, sp vs H Q E → vs.length = ps.length)
    (hbody : ∀ (cdv : Value) (A : Around) (outer : List Env) (s : Shared) (H : Hp) (vs : List V) (Q : VK) (E : XK), Room k (A.deeper (envOfC qual scope s.heap.objs.size f cdv)) → sp vs H Q E →
      ∃ t, PSs (cxOf CX0 P w K mg base N qual scope f cdv A outer s H E).nox body t ∧ t { nx := fun _ H' => Q .non H', rt := Q } (start N vs) H) :
    OkK P w K mg base (k + 1) f ps sp n ks := by
  refine ⟨fd, F.ok S many fun cdv A outer s H vs Q E hr h => ?_, b, F.kp⟩
  obtain ⟨t, p, q⟩ := hbody cdv A outer s H vs Q E hr h
  exact ⟨t, p.nox, q⟩
end
section
variable {X : Cx} {n m k : Nat} {f C g : Addr} {ps ks : List Str} {sp : Sp} {x : Str} {p pos : Pos} {e : Expr} {es : List Expr} {kws : List Keyword} {t tk : TA} {ta : TE}
theorem pmkK (M : Mk X.K C f) (F : OkK X.prog X.w X.K X.mg X.base k f ps sp (n + 1) ks) (hr : Room m X.A) (hg : Gl X x) (hm : X.mg x = some (.ref C)) (ha : PA X (e :: es) t) (hkw : PK X kws tk) (hk : k + 1 ≤ m := by decide)
    (hall : (backToKw pos (keywordEach kws X.env)).all (·.1.isSome) = true := by rfl) (hks : (backToKw pos (keywordEach kws X.env)).filterMap (·.1) = ks := by rfl) (hdb : (x == ("__debug__" : Str)) = false := by decide)
    (he : starEach (e :: es) X.env = (false, eval e X.env) :: starEach es X.env := by rfl) (hpl : ((backTo pos (starEach (e :: es) X.env)).any (·.1) || (backToKw pos (keywordEach kws X.env)).any (·.1.isNone)) = false := by rfl) :
    PE X (.Call (.Name x p) (e :: es) kws pos) (tMakeK C n ks.length sp (fun vs zs => vs ++ zs) E0 t tk) := by
  obtain ⟨fd, F, b, kp⟩ := F
  exact pe_makeK M F (hr.mono hk) hg hm b pass0 ha hkw hall hks hdb he hpl
theorem pmk (M : Mk X.K C f) (F : Ok X.prog X.w X.K X.mg X.base k f ps sp) (hr : Room m X.A) (hg : Gl X x) (hm : X.mg x = some (.ref C)) (ha : PA X (e :: es) t) (hk : k + 1 ≤ m := by decide)
    (hdb : (x == ("__debug__" : Str)) = false := by decide)
    (he : starEach (e :: es) X.env = (false, eval e X.env) :: starEach es X.env := by rfl) (hpl : (backTo pos (starEach es X.env)).any (·.1) = false := by rfl) :
    PE X (.Call (.Name x p) (e :: es) [] pos) (tMake C sp [] E0 t) := by
  obtain ⟨fd, F, b, kp⟩ := F
  exact pe_make M F (hr.mono hk) hg hm b .nil pass0 ha hdb he hpl
theorem pprop {q : Addr} {y : Str} (F : Ok X.prog X.w X.K X.mg X.base k g ps sp) (hr : Room m X.A) (c : Cls X.K C) (hp : PropOf X.K C y q g) (he : PE X e ta) (hk : k + 1 ≤ m := by decide)
    (hab : attributeBase e y X.env (eval e X.env) = eval e X.env := by rfl) : PE X (.Attribute e y pos) (L2.tProp C sp [] E0 ta) := by
  obtain ⟨fd, F, b, kp⟩ := F
  exact pe_prop he c hp F (hr.mono hk) b .nil pass0 hab
end
section
variable {X : Cx} {K : Frg}
theorem pg_tupB (h : X.K = K) {pos : Pos} {es : List Expr} {k : Nat} {t : TGs} {n : Nat} (hc : X.calm = true) (hs : PGs X es t)
    (hn : (assignEach es X.env).length = n := by rfl) (hst : (assignEach es X.env).findIdx? (·.1) = none := by rfl) : PG X (.Tuple es k pos) (gTup K n t) := by
  subst h
  exact pg_tup hc hs hn hst
theorem ix_tupB (h : X.K = K) : IxR X (rIxT K) := h ▸ ix_tup
theorem ix_listB (h : X.K = K) : IxR X (rIxL K) := h ▸ ix_list
theorem op_in_seqB (h : X.K = K) : OpR X (compareOp .In) (rIn K false) := h ▸ op_in_seq
theorem op_notIn_seqB (h : X.K = K) : OpR X (compareOp .NotIn) (rIn K true) := h ▸ op_notIn_seq
theorem call_len_seqB (h : X.K = K) : CallR X (.builtin "len") (fun xs H Q => ∃ p ys, xs = [.ref p] ∧ (SqL K H p ys ∨ SqT K H p ys) ∧ Q (.int ys.length) H) := h ▸ call_len_seq
theorem sl_listB (h : X.K = K) : SlR X (rSlL K) := h ▸ sl_list
theorem sl_tupAB (h : X.K = K) : SlR X (rSlA K) := h ▸ sl_tupA
end
end Gd

/-! ## HkR0 -/
set_option maxHeartbeats 4000000
/-! What the top leaves, looked at by all addresses; the run's word in two halves. -/
namespace Gd
open PySem PySem.Spec PyProof.Rows L2
def obsAtL (as : List Addr) (ts : List (Frg → Bool)) (ds : List DefA) (g : Addr → Option Obj) : Obs := obsOf ts ds (He.frG g as)
def hookL (as : List Addr) (ts : List (Frg → Bool)) (ds : List DefA) : PySem.W.Hook where
  α := Obs
  obs s := obsAtL as ts ds s.heap.get?
  val _ := dueOf ds
  says _ h := ∃ K : Frg, K.In h ∧ Tells ts ds K
  of _ _ e := ⟨_, He.frG_in, e⟩
  keeps := by
    rintro _ h h' ⟨K, hK, c⟩ k
    exact ⟨K, PySem.W.Frag.In.keeps hK k, c⟩
theorem obsAtL_eq {as : List Addr} {ts : List (Frg → Bool)} {ds : List DefA} {g : Addr → Option Obj} {s : Shared} (h : ∀ a, g a = s.heap.get? a) :
    obsAtL as ts ds g = (hookL as ts ds).obs s := by
  have e : g = s.heap.get? := funext h
  subst e
  rfl
theorem split_run {S B : Type} {x : Option S} {l : S → Bool} {q : S → B} {v : B} {K : S → Frg} {ts : List (Frg → Bool)} {ds : List DefA}
    (h1 : x.map (fun s => (l s, q s, ts.all fun t => t (K s))) = some (true, v, true))
    (h2 : x.map (fun s => (ds.all fun d => d.good (K s), ds.map fun d => seenAt (K s) (d.place (K s)))) = some (true, ds.map DefA.due)) :
    x.map (fun s => (l s, q s, obsOf ts ds (K s))) = some (true, v, dueOf ds) := by
  cases x with
  | none => cases h1
  | some s =>
    simp only [Option.map_some, Option.some.injEq, Prod.mk.injEq] at h1 h2 ⊢
    obtain ⟨a, b, c⟩ := h1
    obtain ⟨d, e⟩ := h2
    refine ⟨a, b, ?_⟩
    unfold obsOf dueOf
    rw [c, d, e]
    rfl
end Gd

/-! ## Tx -/
set_option maxHeartbeats 4000000
/-! The text by places; what the top leaves. -/
namespace Tx
open PySem PySem.Spec PyProof.Rows L2 Gd
def top (i : Nat) : Stmt := PySem.Challenge.pw_tinkerhall_k07_catalogue_lines.main.body.getD i (.Pass ⟨0, 0, 0, 0⟩)
abbrev s_is_number : Stmt := top 12
def d_is_number : DefA := ⟨fun K => He.ga K "is_number", "is_number", "is_number", s_is_number, [], []⟩
abbrev s_is_list : Stmt := top 13
def d_is_list : DefA := ⟨fun K => He.ga K "is_list", "is_list", "is_list", s_is_list, [], []⟩
abbrev s_are_signs : Stmt := top 14
def d_are_signs : DefA := ⟨fun K => He.ga K "are_signs", "are_signs", "are_signs", s_are_signs, [], []⟩
abbrev s_are_different : Stmt := top 15
def d_are_different : DefA := ⟨fun K => He.ga K "are_different", "are_different", "are_different", s_are_different, [], []⟩
abbrev s_is_name : Stmt := top 18
def d_is_name : DefA := ⟨fun K => He.ga K "is_name", "is_name", "is_name", s_is_name, [], []⟩
abbrev s_write_digits : Stmt := top 19
def d_write_digits : DefA := ⟨fun K => He.ga K "write_digits", "write_digits", "write_digits", s_write_digits, [], []⟩
abbrev s_Kind_init : Stmt := inClass (top 24) 0
def d_Kind_init : DefA := ⟨fun K => He.ma K (He.ga K "Kind") "__init__", "__init__", "Kind.__init__", s_Kind_init, [], [("start", .non), ("price", .int 0)]⟩
abbrev s_Kind_keeps : Stmt := inClass (top 24) 1
def d_Kind_keeps : DefA := ⟨getA "Kind" "keeps", "keeps", "Kind.keeps", s_Kind_keeps, [], []⟩
abbrev s_Kind_len : Stmt := inClass (top 24) 2
def d_Kind_len : DefA := ⟨fun K => He.ma K (He.ga K "Kind") "__len__", "__len__", "Kind.__len__", s_Kind_len, [], []⟩
abbrev s_Kind_eq : Stmt := inClass (top 24) 3
def d_Kind_eq : DefA := ⟨fun K => He.ma K (He.ga K "Kind") "__eq__", "__eq__", "Kind.__eq__", s_Kind_eq, [], []⟩
abbrev s_Kind_flees : Stmt := inClass (top 24) 6
def d_Kind_flees : DefA := ⟨fun K => He.ma K (He.ga K "Kind") "flees", "flees", "Kind.flees", s_Kind_flees, [], []⟩
abbrev s_Catalogue_init : Stmt := inClass (top 25) 0
def d_Catalogue_init : DefA := ⟨fun K => He.ma K (He.ga K "Catalogue") "__init__", "__init__", "Catalogue.__init__", s_Catalogue_init, [.adr (He.dflAt ("Catalogue", some "__init__") 0)], []⟩
abbrev s_Catalogue_getitem : Stmt := inClass (top 25) 1
def d_Catalogue_getitem : DefA := ⟨fun K => He.ma K (He.ga K "Catalogue") "__getitem__", "__getitem__", "Catalogue.__getitem__", s_Catalogue_getitem, [], []⟩
abbrev s_Catalogue_contains : Stmt := inClass (top 25) 2
def d_Catalogue_contains : DefA := ⟨fun K => He.ma K (He.ga K "Catalogue") "__contains__", "__contains__", "Catalogue.__contains__", s_Catalogue_contains, [], []⟩
abbrev s_Catalogue_len : Stmt := inClass (top 25) 3
def d_Catalogue_len : DefA := ⟨fun K => He.ma K (He.ga K "Catalogue") "__len__", "__len__", "Catalogue.__len__", s_Catalogue_len, [], []⟩
abbrev s_Catalogue_iter : Stmt := inClass (top 25) 4
def d_Catalogue_iter : DefA := ⟨fun K => He.ma K (He.ga K "Catalogue") "__iter__", "__iter__", "Catalogue.__iter__", s_Catalogue_iter, [], []⟩
abbrev s_Catalogue_eq : Stmt := inClass (top 25) 5
def d_Catalogue_eq : DefA := ⟨fun K => He.ma K (He.ga K "Catalogue") "__eq__", "__eq__", "Catalogue.__eq__", s_Catalogue_eq, [], []⟩
abbrev s_Catalogue_add : Stmt := inClass (top 25) 6
def d_Catalogue_add : DefA := ⟨fun K => He.ma K (He.ga K "Catalogue") "__add__", "__add__", "Catalogue.__add__", s_Catalogue_add, [], []⟩
abbrev s_is_table : Stmt := top 26
def d_is_table : DefA := ⟨fun K => He.ga K "_is_table", "_is_table", "_is_table", s_is_table, [], []⟩
abbrev s_are_ways : Stmt := top 27
def d_are_ways : DefA := ⟨fun K => He.ga K "_are_ways", "_are_ways", "_are_ways", s_are_ways, [], []⟩
abbrev s_is_way : Stmt := top 28
def d_is_way : DefA := ⟨fun K => He.ga K "_is_way", "_is_way", "_is_way", s_is_way, [], []⟩
abbrev s_Lines_init : Stmt := inClass (top 31) 0
def d_Lines_init : DefA := ⟨fun K => He.ma K (He.ga K "Lines") "__init__", "__init__", "Lines.__init__", s_Lines_init, [], []⟩
abbrev s_Lines_first_word : Stmt := inClass (top 31) 1
def d_Lines_first_word : DefA := ⟨fun K => He.ma K (He.ga K "Lines") "first_word", "first_word", "Lines.first_word", s_Lines_first_word, [], []⟩
abbrev s_Lines_begin : Stmt := inClass (top 31) 2
def d_Lines_begin : DefA := ⟨fun K => He.ma K (He.ga K "Lines") "begin", "begin", "Lines.begin", s_Lines_begin, [], []⟩
abbrev s_Lines_finish : Stmt := inClass (top 31) 5
def d_Lines_finish : DefA := ⟨fun K => He.ma K (He.ga K "Lines") "finish", "finish", "Lines.finish", s_Lines_finish, [], []⟩
abbrev s_Words_init : Stmt := inClass (top 32) 0
def d_Words_init : DefA := ⟨fun K => He.ma K (He.ga K "Words") "__init__", "__init__", "Words.__init__", s_Words_init, [], []⟩
abbrev s_Words_coming : Stmt := inClass (top 32) 1
def d_Words_coming : DefA := ⟨fun K => He.ma K (He.ga K "Words") "coming", "coming", "Words.coming", s_Words_coming, [], []⟩
abbrev s_Words_take_name : Stmt := inClass (top 32) 3
def d_Words_take_name : DefA := ⟨fun K => He.ma K (He.ga K "Words") "take_name", "take_name", "Words.take_name", s_Words_take_name, [], []⟩
abbrev s_Words_take_number : Stmt := inClass (top 32) 4
def d_Words_take_number : DefA := ⟨fun K => He.ma K (He.ga K "Words") "take_number", "take_number", "Words.take_number", s_Words_take_number, [], []⟩
abbrev s_Words_take_digits : Stmt := inClass (top 32) 5
def d_Words_take_digits : DefA := ⟨fun K => He.ma K (He.ga K "Words") "take_digits", "take_digits", "Words.take_digits", s_Words_take_digits, [], []⟩
abbrev s_Words_finish : Stmt := inClass (top 32) 7
def d_Words_finish : DefA := ⟨fun K => He.ma K (He.ga K "Words") "finish", "finish", "Words.finish", s_Words_finish, [], []⟩
abbrev s_Words_taken : Stmt := inClass (top 32) 8
def d_Words_taken : DefA := ⟨fun K => He.ma K (He.ga K "Words") "_taken", "_taken", "Words._taken", s_Words_taken, [], []⟩
abbrev s_words : Stmt := top 33
def d_words : DefA := ⟨fun K => He.ga K "_words", "_words", "_words", s_words, [], []⟩
abbrev s_is_integer : Stmt := top 34
def d_is_integer : DefA := ⟨fun K => He.ga K "_is_integer", "_is_integer", "_is_integer", s_is_integer, [], []⟩
abbrev s_write_catalogue : Stmt := top 36
def d_write_catalogue : DefA := ⟨fun K => He.ga K "write_catalogue", "write_catalogue", "write_catalogue", s_write_catalogue, [], []⟩
abbrev s_read_catalogue : Stmt := top 37
def d_read_catalogue : DefA := ⟨fun K => He.ga K "read_catalogue", "read_catalogue", "read_catalogue", s_read_catalogue, [], []⟩
abbrev s_take_catalogue : Stmt := top 38
def d_take_catalogue : DefA := ⟨fun K => He.ga K "take_catalogue", "take_catalogue", "take_catalogue", s_take_catalogue, [], []⟩
abbrev s_made_catalogue : Stmt := top 39
def d_made_catalogue : DefA := ⟨fun K => He.ga K "made_catalogue", "made_catalogue", "made_catalogue", s_made_catalogue, [], []⟩
abbrev s_take_kind : Stmt := top 40
def d_take_kind : DefA := ⟨fun K => He.ga K "_take_kind", "_take_kind", "_take_kind", s_take_kind, [], []⟩
abbrev s_take_way : Stmt := top 41
def d_take_way : DefA := ⟨fun K => He.ga K "_take_way", "_take_way", "_take_way", s_take_way, [], []⟩
abbrev s_law_bag_of : Stmt := top 43
def d_law_bag_of : DefA := ⟨fun K => He.ga K "_law_bag_of", "_law_bag_of", "_law_bag_of", s_law_bag_of, [], []⟩
abbrev s_law_pick : Stmt := top 44
def d_law_pick : DefA := ⟨fun K => He.ga K "_law_pick", "_law_pick", "_law_pick", s_law_pick, [], []⟩
abbrev s_law_choice : Stmt := top 45
def d_law_choice : DefA := ⟨fun K => He.ga K "_law_choice", "_law_choice", "_law_choice", s_law_choice, [], []⟩
abbrev s_law_one_in : Stmt := top 46
def d_law_one_in : DefA := ⟨fun K => He.ga K "_law_one_in", "_law_one_in", "_law_one_in", s_law_one_in, [], []⟩
abbrev s_law_letters : Stmt := top 47
def d_law_letters : DefA := ⟨fun K => He.ga K "_law_letters", "_law_letters", "_law_letters", s_law_letters, [], []⟩
abbrev s_law_reserved : Stmt := top 48
def d_law_reserved : DefA := ⟨fun K => He.ga K "_law_reserved", "_law_reserved", "_law_reserved", s_law_reserved, [], []⟩
abbrev s_law_names : Stmt := top 49
def d_law_names : DefA := ⟨fun K => He.ga K "_law_names", "_law_names", "_law_names", s_law_names, [], []⟩
abbrev s_law_table_of : Stmt := top 50
def d_law_table_of : DefA := ⟨fun K => He.ga K "_law_table_of", "_law_table_of", "_law_table_of", s_law_table_of, [], []⟩
abbrev s_law_way_table : Stmt := top 51
def d_law_way_table : DefA := ⟨fun K => He.ga K "_law_way_table", "_law_way_table", "_law_way_table", s_law_way_table, [], []⟩
abbrev s_law_kind_of : Stmt := top 52
def d_law_kind_of : DefA := ⟨fun K => He.ga K "_law_kind_of", "_law_kind_of", "_law_kind_of", s_law_kind_of, [], []⟩
abbrev s_law_kind_objects : Stmt := top 53
def d_law_kind_objects : DefA := ⟨fun K => He.ga K "_law_kind_objects", "_law_kind_objects", "_law_kind_objects", s_law_kind_objects, [], []⟩
abbrev s_law_catalogue_of : Stmt := top 54
def d_law_catalogue_of : DefA := ⟨fun K => He.ga K "_law_catalogue_of", "_law_catalogue_of", "_law_catalogue_of", s_law_catalogue_of, [], []⟩
abbrev s_law_same : Stmt := top 55
def d_law_same : DefA := ⟨fun K => He.ga K "_law_same", "_law_same", "_law_same", s_law_same, [], []⟩
abbrev s_law_drawn : Stmt := top 56
def d_law_drawn : DefA := ⟨fun K => He.ga K "_law_drawn", "_law_drawn", "_law_drawn", s_law_drawn, [], []⟩
abbrev s_law_digits : Stmt := top 57
def d_law_digits : DefA := ⟨fun K => He.ga K "_law_digits", "_law_digits", "_law_digits", s_law_digits, [], []⟩
abbrev s_law_lines_of : Stmt := top 58
def d_law_lines_of : DefA := ⟨fun K => He.ga K "_law_lines_of", "_law_lines_of", "_law_lines_of", s_law_lines_of, [], []⟩
abbrev s_law_parts_of : Stmt := top 59
def d_law_parts_of : DefA := ⟨fun K => He.ga K "_law_parts_of", "_law_parts_of", "_law_parts_of", s_law_parts_of, [], []⟩
abbrev s_law_read_told : Stmt := top 60
def d_law_read_told : DefA := ⟨fun K => He.ga K "_law_read_told", "_law_read_told", "_law_read_told", s_law_read_told, [], []⟩
abbrev s_law : Stmt := top 61
def d_law : DefA := ⟨fun K => He.ga K "law", "law", "law", s_law, [], []⟩
def v_WORDS : List He.Dv := [.str "signs", .str "kind", .str "keeps", .str "table", .str "stands", .str "flees", .str "entry", .str "place", .str "from", .str "exit", .str "plan", .str "most", .str "come", .str "day", .str "build", .str "swap", .str "move", .str "back", .str "shelve", .str "scrap", .str "give", .str "take", .str "seen", .str "row", .str "sights", .str "told", .str "strike", .str "again", .str "test", .str "chapter", .str "look", .str "say", .str "if", .str "else", .str "end", .str "repeat", .str "leave", .str "call", .str "done", .str "quit", .str "any", .str "house", .str "customer"]
def ds0 : List DefA := [d_is_number, d_is_list, d_are_signs, d_are_different, d_is_name, d_write_digits, d_Kind_init, d_Kind_keeps, d_Kind_len, d_Kind_eq, d_Kind_flees, d_Catalogue_init, d_Catalogue_getitem, d_Catalogue_contains, d_Catalogue_len, d_Catalogue_iter, d_Catalogue_eq, d_Catalogue_add, d_is_table, d_are_ways, d_is_way, d_Lines_init, d_Lines_first_word, d_Lines_begin, d_Lines_finish]
def ds1 : List DefA := [d_Words_init, d_Words_coming, d_Words_take_name, d_Words_take_number, d_Words_take_digits, d_Words_finish, d_Words_taken, d_words, d_is_integer, d_write_catalogue, d_read_catalogue, d_take_catalogue, d_made_catalogue, d_take_kind, d_take_way, d_law_bag_of, d_law_pick, d_law_choice, d_law_one_in, d_law_letters, d_law_reserved, d_law_names, d_law_table_of, d_law_way_table, d_law_kind_of]
def ds2 : List DefA := [d_law_kind_objects, d_law_catalogue_of, d_law_same, d_law_drawn, d_law_digits, d_law_lines_of, d_law_parts_of, d_law_read_told, d_law]
def ds : List DefA := ds0 ++ (ds1 ++ (ds2))
def ts0 : List (Frg → Bool) := [tF (.glo "is_number"), tF (.glo "is_list"), tF (.glo "are_signs"), tF (.glo "are_different"), tF (.glo "is_name"), tF (.glo "write_digits"), tProp "Kind" "keeps", tF (.meth "Kind" "__len__"), tF (.meth "Kind" "__eq__"), tF (.meth "Kind" "flees"), tF (.meth "Catalogue" "__getitem__"), tF (.meth "Catalogue" "__contains__"), tF (.meth "Catalogue" "__len__"), tF (.meth "Catalogue" "__iter__"), tF (.meth "Catalogue" "__eq__"), tF (.meth "Catalogue" "__add__"), tF (.glo "_is_table"), tF (.glo "_are_ways"), tF (.glo "_is_way"), tF (.meth "Lines" "first_word"), tF (.meth "Lines" "begin"), tF (.meth "Lines" "finish"), tF (.meth "Words" "coming"), tF (.meth "Words" "take_name"), tF (.meth "Words" "take_number")]
def ts1 : List (Frg → Bool) := [tF (.meth "Words" "take_digits"), tF (.meth "Words" "finish"), tF (.meth "Words" "_taken"), tF (.glo "_words"), tF (.glo "_is_integer"), tF (.glo "write_catalogue"), tF (.glo "read_catalogue"), tF (.glo "take_catalogue"), tF (.glo "made_catalogue"), tF (.glo "_take_kind"), tF (.glo "_take_way"), tF (.glo "_law_bag_of"), tF (.glo "_law_pick"), tF (.glo "_law_choice"), tF (.glo "_law_one_in"), tF (.glo "_law_letters"), tF (.glo "_law_reserved"), tF (.glo "_law_names"), tF (.glo "_law_table_of"), tF (.glo "_law_way_table"), tF (.glo "_law_kind_of"), tF (.glo "_law_kind_objects"), tF (.glo "_law_catalogue_of"), tF (.glo "_law_same"), tF (.glo "_law_drawn")]
def ts2 : List (Frg → Bool) := [tF (.glo "_law_digits"), tF (.glo "_law_lines_of"), tF (.glo "_law_parts_of"), tF (.glo "_law_read_told"), tF (.glo "law"), tF (.glo "Kind"), tF (.cls "Kind"), tF (.mkr "Kind"), tF (.noat "Kind" "signs"), tF (.noat "Kind" "name"), tF (.noat "Kind" "inputs"), tF (.noat "Kind" "table"), tF (.noat "Kind" "start"), tF (.noat "Kind" "ways"), tF (.noat "Kind" "price"), tF (.glo "Catalogue"), tF (.cls "Catalogue"), tF (.mkr "Catalogue"), tF (.noat "Catalogue" "signs"), tF (.noat "Catalogue" "kinds"), tF (.noat "Catalogue" "_names"), tF (.glo "Lines"), tF (.cls "Lines"), tF (.mkr "Lines"), tF (.noat "Lines" "_texts")]
def ts3 : List (Frg → Bool) := [tF (.noat "Lines" "_at"), tF (.glo "Words"), tF (.cls "Words"), tF (.mkr "Words"), tF (.noat "Words" "_line"), tF (.noat "Words" "_words"), tF (.noat "Words" "_at"), tF (.free "isinstance"), tF (.free "int"), tF (.free "bool"), tF (.free "str"), tF (.free "list"), tF (.free "tuple"), tF (.free "len"), tF (.free "all"), tF (.free "range"), tF (.free "enumerate"), tF (.free "repr"), tF (.free "iter"), tF (.free "ValueError"), tF (.glo "WORDS"), (fun K => He.tupB K "WORDS" v_WORDS), tF (.int "MOST_KINDS" 8), tF (.int "MOST_PRICE" 600), tF (.int "MOST_WAYS" 6)]
def ts4 : List (Frg → Bool) := [tF (.int "MOST_DIGITS" 27), tIsi "Kind", tIsi "Catalogue"]
def ts : List (Frg → Bool) := ts0 ++ (ts1 ++ (ts2 ++ (ts3 ++ (ts4))))
/-- what stands behind the top -/
structure Txt (K : Frg) (mg : Str → Option Value) : Prop where
  c : Tells ts ds K
  heap : ∃ h : Heap, K.In h ∧ h.Ns mainGlobals mg
section
variable {K : Frg} {mg : Str → Option Value}
theorem Txt.g_is_number (T : Txt K mg) : mg "is_number" = some (.ref (He.ga K "is_number")) := let ⟨_, a, b⟩ := T.heap; He.glo_ok a b (T.c.test 0)
theorem Txt.g_is_list (T : Txt K mg) : mg "is_list" = some (.ref (He.ga K "is_list")) := let ⟨_, a, b⟩ := T.heap; He.glo_ok a b (T.c.test 1)
theorem Txt.g_are_signs (T : Txt K mg) : mg "are_signs" = some (.ref (He.ga K "are_signs")) := let ⟨_, a, b⟩ := T.heap; He.glo_ok a b (T.c.test 2)
theorem Txt.g_are_different (T : Txt K mg) : mg "are_different" = some (.ref (He.ga K "are_different")) := let ⟨_, a, b⟩ := T.heap; He.glo_ok a b (T.c.test 3)
theorem Txt.g_is_name (T : Txt K mg) : mg "is_name" = some (.ref (He.ga K "is_name")) := let ⟨_, a, b⟩ := T.heap; He.glo_ok a b (T.c.test 4)
theorem Txt.g_write_digits (T : Txt K mg) : mg "write_digits" = some (.ref (He.ga K "write_digits")) := let ⟨_, a, b⟩ := T.heap; He.glo_ok a b (T.c.test 5)
theorem Txt.p_Kind_keeps (T : Txt K mg) : PropOf K (He.ga K "Kind") "keeps" (He.ma K (He.ga K "Kind") "keeps") (getA "Kind" "keeps" K) := prop_of (T.c.test 6)
theorem Txt.m_Kind_len (T : Txt K mg) : Meth K (He.ga K "Kind") "__len__" (He.ma K (He.ga K "Kind") "__len__") := He.meth_ok (T.c.test 7)
theorem Txt.m_Kind_eq (T : Txt K mg) : Meth K (He.ga K "Kind") "__eq__" (He.ma K (He.ga K "Kind") "__eq__") := He.meth_ok (T.c.test 8)
theorem Txt.m_Kind_flees (T : Txt K mg) : Meth K (He.ga K "Kind") "flees" (He.ma K (He.ga K "Kind") "flees") := He.meth_ok (T.c.test 9)
theorem Txt.m_Catalogue_getitem (T : Txt K mg) : Meth K (He.ga K "Catalogue") "__getitem__" (He.ma K (He.ga K "Catalogue") "__getitem__") := He.meth_ok (T.c.test 10)
theorem Txt.m_Catalogue_contains (T : Txt K mg) : Meth K (He.ga K "Catalogue") "__contains__" (He.ma K (He.ga K "Catalogue") "__contains__") := He.meth_ok (T.c.test 11)
theorem Txt.m_Catalogue_len (T : Txt K mg) : Meth K (He.ga K "Catalogue") "__len__" (He.ma K (He.ga K "Catalogue") "__len__") := He.meth_ok (T.c.test 12)
theorem Txt.m_Catalogue_iter (T : Txt K mg) : Meth K (He.ga K "Catalogue") "__iter__" (He.ma K (He.ga K "Catalogue") "__iter__") := He.meth_ok (T.c.test 13)
theorem Txt.m_Catalogue_eq (T : Txt K mg) : Meth K (He.ga K "Catalogue") "__eq__" (He.ma K (He.ga K "Catalogue") "__eq__") := He.meth_ok (T.c.test 14)
theorem Txt.m_Catalogue_add (T : Txt K mg) : Meth K (He.ga K "Catalogue") "__add__" (He.ma K (He.ga K "Catalogue") "__add__") := He.meth_ok (T.c.test 15)
theorem Txt.g_is_table (T : Txt K mg) : mg "_is_table" = some (.ref (He.ga K "_is_table")) := let ⟨_, a, b⟩ := T.heap; He.glo_ok a b (T.c.test 16)
theorem Txt.g_are_ways (T : Txt K mg) : mg "_are_ways" = some (.ref (He.ga K "_are_ways")) := let ⟨_, a, b⟩ := T.heap; He.glo_ok a b (T.c.test 17)
theorem Txt.g_is_way (T : Txt K mg) : mg "_is_way" = some (.ref (He.ga K "_is_way")) := let ⟨_, a, b⟩ := T.heap; He.glo_ok a b (T.c.test 18)
theorem Txt.m_Lines_first_word (T : Txt K mg) : Meth K (He.ga K "Lines") "first_word" (He.ma K (He.ga K "Lines") "first_word") := He.meth_ok (T.c.test 19)
theorem Txt.m_Lines_begin (T : Txt K mg) : Meth K (He.ga K "Lines") "begin" (He.ma K (He.ga K "Lines") "begin") := He.meth_ok (T.c.test 20)
theorem Txt.m_Lines_finish (T : Txt K mg) : Meth K (He.ga K "Lines") "finish" (He.ma K (He.ga K "Lines") "finish") := He.meth_ok (T.c.test 21)
theorem Txt.m_Words_coming (T : Txt K mg) : Meth K (He.ga K "Words") "coming" (He.ma K (He.ga K "Words") "coming") := He.meth_ok (T.c.test 22)
theorem Txt.m_Words_take_name (T : Txt K mg) : Meth K (He.ga K "Words") "take_name" (He.ma K (He.ga K "Words") "take_name") := He.meth_ok (T.c.test 23)
theorem Txt.m_Words_take_number (T : Txt K mg) : Meth K (He.ga K "Words") "take_number" (He.ma K (He.ga K "Words") "take_number") := He.meth_ok (T.c.test 24)
theorem Txt.m_Words_take_digits (T : Txt K mg) : Meth K (He.ga K "Words") "take_digits" (He.ma K (He.ga K "Words") "take_digits") := He.meth_ok (T.c.test 25)
theorem Txt.m_Words_finish (T : Txt K mg) : Meth K (He.ga K "Words") "finish" (He.ma K (He.ga K "Words") "finish") := He.meth_ok (T.c.test 26)
theorem Txt.m_Words_taken (T : Txt K mg) : Meth K (He.ga K "Words") "_taken" (He.ma K (He.ga K "Words") "_taken") := He.meth_ok (T.c.test 27)
theorem Txt.g_words (T : Txt K mg) : mg "_words" = some (.ref (He.ga K "_words")) := let ⟨_, a, b⟩ := T.heap; He.glo_ok a b (T.c.test 28)
theorem Txt.g_is_integer (T : Txt K mg) : mg "_is_integer" = some (.ref (He.ga K "_is_integer")) := let ⟨_, a, b⟩ := T.heap; He.glo_ok a b (T.c.test 29)
theorem Txt.g_write_catalogue (T : Txt K mg) : mg "write_catalogue" = some (.ref (He.ga K "write_catalogue")) := let ⟨_, a, b⟩ := T.heap; He.glo_ok a b (T.c.test 30)
theorem Txt.g_read_catalogue (T : Txt K mg) : mg "read_catalogue" = some (.ref (He.ga K "read_catalogue")) := let ⟨_, a, b⟩ := T.heap; He.glo_ok a b (T.c.test 31)
theorem Txt.g_take_catalogue (T : Txt K mg) : mg "take_catalogue" = some (.ref (He.ga K "take_catalogue")) := let ⟨_, a, b⟩ := T.heap; He.glo_ok a b (T.c.test 32)
theorem Txt.g_made_catalogue (T : Txt K mg) : mg "made_catalogue" = some (.ref (He.ga K "made_catalogue")) := let ⟨_, a, b⟩ := T.heap; He.glo_ok a b (T.c.test 33)
theorem Txt.g_take_kind (T : Txt K mg) : mg "_take_kind" = some (.ref (He.ga K "_take_kind")) := let ⟨_, a, b⟩ := T.heap; He.glo_ok a b (T.c.test 34)
theorem Txt.g_take_way (T : Txt K mg) : mg "_take_way" = some (.ref (He.ga K "_take_way")) := let ⟨_, a, b⟩ := T.heap; He.glo_ok a b (T.c.test 35)
theorem Txt.g_law_bag_of (T : Txt K mg) : mg "_law_bag_of" = some (.ref (He.ga K "_law_bag_of")) := let ⟨_, a, b⟩ := T.heap; He.glo_ok a b (T.c.test 36)
theorem Txt.g_law_pick (T : Txt K mg) : mg "_law_pick" = some (.ref (He.ga K "_law_pick")) := let ⟨_, a, b⟩ := T.heap; He.glo_ok a b (T.c.test 37)
theorem Txt.g_law_choice (T : Txt K mg) : mg "_law_choice" = some (.ref (He.ga K "_law_choice")) := let ⟨_, a, b⟩ := T.heap; He.glo_ok a b (T.c.test 38)
theorem Txt.g_law_one_in (T : Txt K mg) : mg "_law_one_in" = some (.ref (He.ga K "_law_one_in")) := let ⟨_, a, b⟩ := T.heap; He.glo_ok a b (T.c.test 39)
theorem Txt.g_law_letters (T : Txt K mg) : mg "_law_letters" = some (.ref (He.ga K "_law_letters")) := let ⟨_, a, b⟩ := T.heap; He.glo_ok a b (T.c.test 40)
theorem Txt.g_law_reserved (T : Txt K mg) : mg "_law_reserved" = some (.ref (He.ga K "_law_reserved")) := let ⟨_, a, b⟩ := T.heap; He.glo_ok a b (T.c.test 41)
theorem Txt.g_law_names (T : Txt K mg) : mg "_law_names" = some (.ref (He.ga K "_law_names")) := let ⟨_, a, b⟩ := T.heap; He.glo_ok a b (T.c.test 42)
theorem Txt.g_law_table_of (T : Txt K mg) : mg "_law_table_of" = some (.ref (He.ga K "_law_table_of")) := let ⟨_, a, b⟩ := T.heap; He.glo_ok a b (T.c.test 43)
theorem Txt.g_law_way_table (T : Txt K mg) : mg "_law_way_table" = some (.ref (He.ga K "_law_way_table")) := let ⟨_, a, b⟩ := T.heap; He.glo_ok a b (T.c.test 44)
theorem Txt.g_law_kind_of (T : Txt K mg) : mg "_law_kind_of" = some (.ref (He.ga K "_law_kind_of")) := let ⟨_, a, b⟩ := T.heap; He.glo_ok a b (T.c.test 45)
theorem Txt.g_law_kind_objects (T : Txt K mg) : mg "_law_kind_objects" = some (.ref (He.ga K "_law_kind_objects")) := let ⟨_, a, b⟩ := T.heap; He.glo_ok a b (T.c.test 46)
theorem Txt.g_law_catalogue_of (T : Txt K mg) : mg "_law_catalogue_of" = some (.ref (He.ga K "_law_catalogue_of")) := let ⟨_, a, b⟩ := T.heap; He.glo_ok a b (T.c.test 47)
theorem Txt.g_law_same (T : Txt K mg) : mg "_law_same" = some (.ref (He.ga K "_law_same")) := let ⟨_, a, b⟩ := T.heap; He.glo_ok a b (T.c.test 48)
theorem Txt.g_law_drawn (T : Txt K mg) : mg "_law_drawn" = some (.ref (He.ga K "_law_drawn")) := let ⟨_, a, b⟩ := T.heap; He.glo_ok a b (T.c.test 49)
theorem Txt.g_law_digits (T : Txt K mg) : mg "_law_digits" = some (.ref (He.ga K "_law_digits")) := let ⟨_, a, b⟩ := T.heap; He.glo_ok a b (T.c.test 50)
theorem Txt.g_law_lines_of (T : Txt K mg) : mg "_law_lines_of" = some (.ref (He.ga K "_law_lines_of")) := let ⟨_, a, b⟩ := T.heap; He.glo_ok a b (T.c.test 51)
theorem Txt.g_law_parts_of (T : Txt K mg) : mg "_law_parts_of" = some (.ref (He.ga K "_law_parts_of")) := let ⟨_, a, b⟩ := T.heap; He.glo_ok a b (T.c.test 52)
theorem Txt.g_law_read_told (T : Txt K mg) : mg "_law_read_told" = some (.ref (He.ga K "_law_read_told")) := let ⟨_, a, b⟩ := T.heap; He.glo_ok a b (T.c.test 53)
theorem Txt.g_law (T : Txt K mg) : mg "law" = some (.ref (He.ga K "law")) := let ⟨_, a, b⟩ := T.heap; He.glo_ok a b (T.c.test 54)
theorem Txt.g_Kind (T : Txt K mg) : mg "Kind" = some (.ref (He.ga K "Kind")) := let ⟨_, a, b⟩ := T.heap; He.glo_ok a b (T.c.test 55)
theorem Txt.c_Kind (T : Txt K mg) : Cls K (He.ga K "Kind") := He.cls_ok (T.c.test 56)
theorem Txt.k_Kind (T : Txt K mg) : Mk K (He.ga K "Kind") (He.ma K (He.ga K "Kind") "__init__") := He.mkr_ok (T.c.test 57)
theorem Txt.n_Kind_signs (T : Txt K mg) : NoAttr K (He.ga K "Kind") "signs" := He.noat_ok (T.c.test 58)
theorem Txt.n_Kind_name (T : Txt K mg) : NoAttr K (He.ga K "Kind") "name" := He.noat_ok (T.c.test 59)
theorem Txt.n_Kind_inputs (T : Txt K mg) : NoAttr K (He.ga K "Kind") "inputs" := He.noat_ok (T.c.test 60)
theorem Txt.n_Kind_table (T : Txt K mg) : NoAttr K (He.ga K "Kind") "table" := He.noat_ok (T.c.test 61)
theorem Txt.n_Kind_start (T : Txt K mg) : NoAttr K (He.ga K "Kind") "start" := He.noat_ok (T.c.test 62)
theorem Txt.n_Kind_ways (T : Txt K mg) : NoAttr K (He.ga K "Kind") "ways" := He.noat_ok (T.c.test 63)
theorem Txt.n_Kind_price (T : Txt K mg) : NoAttr K (He.ga K "Kind") "price" := He.noat_ok (T.c.test 64)
theorem Txt.g_Catalogue (T : Txt K mg) : mg "Catalogue" = some (.ref (He.ga K "Catalogue")) := let ⟨_, a, b⟩ := T.heap; He.glo_ok a b (T.c.test 65)
theorem Txt.c_Catalogue (T : Txt K mg) : Cls K (He.ga K "Catalogue") := He.cls_ok (T.c.test 66)
theorem Txt.k_Catalogue (T : Txt K mg) : Mk K (He.ga K "Catalogue") (He.ma K (He.ga K "Catalogue") "__init__") := He.mkr_ok (T.c.test 67)
theorem Txt.n_Catalogue_signs (T : Txt K mg) : NoAttr K (He.ga K "Catalogue") "signs" := He.noat_ok (T.c.test 68)
theorem Txt.n_Catalogue_kinds (T : Txt K mg) : NoAttr K (He.ga K "Catalogue") "kinds" := He.noat_ok (T.c.test 69)
theorem Txt.n_Catalogue_names (T : Txt K mg) : NoAttr K (He.ga K "Catalogue") "_names" := He.noat_ok (T.c.test 70)
theorem Txt.g_Lines (T : Txt K mg) : mg "Lines" = some (.ref (He.ga K "Lines")) := let ⟨_, a, b⟩ := T.heap; He.glo_ok a b (T.c.test 71)
theorem Txt.c_Lines (T : Txt K mg) : Cls K (He.ga K "Lines") := He.cls_ok (T.c.test 72)
theorem Txt.k_Lines (T : Txt K mg) : Mk K (He.ga K "Lines") (He.ma K (He.ga K "Lines") "__init__") := He.mkr_ok (T.c.test 73)
theorem Txt.n_Lines_texts (T : Txt K mg) : NoAttr K (He.ga K "Lines") "_texts" := He.noat_ok (T.c.test 74)
theorem Txt.n_Lines_at (T : Txt K mg) : NoAttr K (He.ga K "Lines") "_at" := He.noat_ok (T.c.test 75)
theorem Txt.g_Words (T : Txt K mg) : mg "Words" = some (.ref (He.ga K "Words")) := let ⟨_, a, b⟩ := T.heap; He.glo_ok a b (T.c.test 76)
theorem Txt.c_Words (T : Txt K mg) : Cls K (He.ga K "Words") := He.cls_ok (T.c.test 77)
theorem Txt.k_Words (T : Txt K mg) : Mk K (He.ga K "Words") (He.ma K (He.ga K "Words") "__init__") := He.mkr_ok (T.c.test 78)
theorem Txt.n_Words_line (T : Txt K mg) : NoAttr K (He.ga K "Words") "_line" := He.noat_ok (T.c.test 79)
theorem Txt.n_Words_words (T : Txt K mg) : NoAttr K (He.ga K "Words") "_words" := He.noat_ok (T.c.test 80)
theorem Txt.n_Words_at (T : Txt K mg) : NoAttr K (He.ga K "Words") "_at" := He.noat_ok (T.c.test 81)
theorem Txt.f_isinstance (T : Txt K mg) : mg "isinstance" = none := let ⟨_, a, b⟩ := T.heap; He.free_ok a b (T.c.test 82)
theorem Txt.f_int (T : Txt K mg) : mg "int" = none := let ⟨_, a, b⟩ := T.heap; He.free_ok a b (T.c.test 83)
theorem Txt.f_bool (T : Txt K mg) : mg "bool" = none := let ⟨_, a, b⟩ := T.heap; He.free_ok a b (T.c.test 84)
theorem Txt.f_str (T : Txt K mg) : mg "str" = none := let ⟨_, a, b⟩ := T.heap; He.free_ok a b (T.c.test 85)
theorem Txt.f_list (T : Txt K mg) : mg "list" = none := let ⟨_, a, b⟩ := T.heap; He.free_ok a b (T.c.test 86)
theorem Txt.f_tuple (T : Txt K mg) : mg "tuple" = none := let ⟨_, a, b⟩ := T.heap; He.free_ok a b (T.c.test 87)
theorem Txt.f_len (T : Txt K mg) : mg "len" = none := let ⟨_, a, b⟩ := T.heap; He.free_ok a b (T.c.test 88)
theorem Txt.f_all (T : Txt K mg) : mg "all" = none := let ⟨_, a, b⟩ := T.heap; He.free_ok a b (T.c.test 89)
theorem Txt.f_range (T : Txt K mg) : mg "range" = none := let ⟨_, a, b⟩ := T.heap; He.free_ok a b (T.c.test 90)
theorem Txt.f_enumerate (T : Txt K mg) : mg "enumerate" = none := let ⟨_, a, b⟩ := T.heap; He.free_ok a b (T.c.test 91)
theorem Txt.f_repr (T : Txt K mg) : mg "repr" = none := let ⟨_, a, b⟩ := T.heap; He.free_ok a b (T.c.test 92)
theorem Txt.f_iter (T : Txt K mg) : mg "iter" = none := let ⟨_, a, b⟩ := T.heap; He.free_ok a b (T.c.test 93)
theorem Txt.f_ValueError (T : Txt K mg) : mg "ValueError" = none := let ⟨_, a, b⟩ := T.heap; He.free_ok a b (T.c.test 94)
theorem Txt.g_WORDS (T : Txt K mg) : mg "WORDS" = some (.ref (He.ga K "WORDS")) := let ⟨_, a, b⟩ := T.heap; He.glo_ok a b (T.c.test 95)
theorem Txt.t_WORDS (T : Txt K mg) (H : Hp) : SqT K H (He.ga K "WORDS") (v_WORDS.map (He.Dv.v K)) := He.tupB_ok (T.c.test 96) H
theorem Txt.i_MOST_KINDS (T : Txt K mg) : ∃ t, mg "MOST_KINDS" = some (.int 8 t) := let ⟨_, a, b⟩ := T.heap; He.int_ok a b (T.c.test 97)
theorem Txt.i_MOST_PRICE (T : Txt K mg) : ∃ t, mg "MOST_PRICE" = some (.int 600 t) := let ⟨_, a, b⟩ := T.heap; He.int_ok a b (T.c.test 98)
theorem Txt.i_MOST_WAYS (T : Txt K mg) : ∃ t, mg "MOST_WAYS" = some (.int 6 t) := let ⟨_, a, b⟩ := T.heap; He.int_ok a b (T.c.test 99)
theorem Txt.i_MOST_DIGITS (T : Txt K mg) : ∃ t, mg "MOST_DIGITS" = some (.int 27 t) := let ⟨_, a, b⟩ := T.heap; He.int_ok a b (T.c.test 100)
theorem Txt.s_Kind (T : Txt K mg) : Isi K (He.ga K "Kind") := isi_of (T.c.test 101)
theorem Txt.s_Catalogue (T : Txt K mg) : Isi K (He.ga K "Catalogue") := isi_of (T.c.test 102)
theorem Txt.F_is_number (T : Txt K mg) : ∃ fd, FunD K d_is_number.name d_is_number.qual (defArgs s_is_number) (defBody s_is_number) (defScope s_is_number) (d_is_number.dvs K) (d_is_number.kws K) (d_is_number.place K) fd := T.c.fun 0
theorem Txt.F_is_list (T : Txt K mg) : ∃ fd, FunD K d_is_list.name d_is_list.qual (defArgs s_is_list) (defBody s_is_list) (defScope s_is_list) (d_is_list.dvs K) (d_is_list.kws K) (d_is_list.place K) fd := T.c.fun 1
theorem Txt.F_are_signs (T : Txt K mg) : ∃ fd, FunD K d_are_signs.name d_are_signs.qual (defArgs s_are_signs) (defBody s_are_signs) (defScope s_are_signs) (d_are_signs.dvs K) (d_are_signs.kws K) (d_are_signs.place K) fd := T.c.fun 2
theorem Txt.F_are_different (T : Txt K mg) : ∃ fd, FunD K d_are_different.name d_are_different.qual (defArgs s_are_different) (defBody s_are_different) (defScope s_are_different) (d_are_different.dvs K) (d_are_different.kws K) (d_are_different.place K) fd := T.c.fun 3
theorem Txt.F_is_name (T : Txt K mg) : ∃ fd, FunD K d_is_name.name d_is_name.qual (defArgs s_is_name) (defBody s_is_name) (defScope s_is_name) (d_is_name.dvs K) (d_is_name.kws K) (d_is_name.place K) fd := T.c.fun 4
theorem Txt.F_write_digits (T : Txt K mg) : ∃ fd, FunD K d_write_digits.name d_write_digits.qual (defArgs s_write_digits) (defBody s_write_digits) (defScope s_write_digits) (d_write_digits.dvs K) (d_write_digits.kws K) (d_write_digits.place K) fd := T.c.fun 5
theorem Txt.F_Kind_init (T : Txt K mg) : ∃ fd, FunD K d_Kind_init.name d_Kind_init.qual (defArgs s_Kind_init) (defBody s_Kind_init) (defScope s_Kind_init) (d_Kind_init.dvs K) (d_Kind_init.kws K) (d_Kind_init.place K) fd := T.c.fun 6
theorem Txt.F_Kind_keeps (T : Txt K mg) : ∃ fd, FunD K d_Kind_keeps.name d_Kind_keeps.qual (defArgs s_Kind_keeps) (defBody s_Kind_keeps) (defScope s_Kind_keeps) (d_Kind_keeps.dvs K) (d_Kind_keeps.kws K) (d_Kind_keeps.place K) fd := T.c.fun 7
theorem Txt.F_Kind_len (T : Txt K mg) : ∃ fd, FunD K d_Kind_len.name d_Kind_len.qual (defArgs s_Kind_len) (defBody s_Kind_len) (defScope s_Kind_len) (d_Kind_len.dvs K) (d_Kind_len.kws K) (d_Kind_len.place K) fd := T.c.fun 8
theorem Txt.F_Kind_eq (T : Txt K mg) : ∃ fd, FunD K d_Kind_eq.name d_Kind_eq.qual (defArgs s_Kind_eq) (defBody s_Kind_eq) (defScope s_Kind_eq) (d_Kind_eq.dvs K) (d_Kind_eq.kws K) (d_Kind_eq.place K) fd := T.c.fun 9
theorem Txt.F_Kind_flees (T : Txt K mg) : ∃ fd, FunD K d_Kind_flees.name d_Kind_flees.qual (defArgs s_Kind_flees) (defBody s_Kind_flees) (defScope s_Kind_flees) (d_Kind_flees.dvs K) (d_Kind_flees.kws K) (d_Kind_flees.place K) fd := T.c.fun 10
theorem Txt.F_Catalogue_init (T : Txt K mg) : ∃ fd, FunD K d_Catalogue_init.name d_Catalogue_init.qual (defArgs s_Catalogue_init) (defBody s_Catalogue_init) (defScope s_Catalogue_init) (d_Catalogue_init.dvs K) (d_Catalogue_init.kws K) (d_Catalogue_init.place K) fd := T.c.fun 11
theorem Txt.F_Catalogue_getitem (T : Txt K mg) : ∃ fd, FunD K d_Catalogue_getitem.name d_Catalogue_getitem.qual (defArgs s_Catalogue_getitem) (defBody s_Catalogue_getitem) (defScope s_Catalogue_getitem) (d_Catalogue_getitem.dvs K) (d_Catalogue_getitem.kws K) (d_Catalogue_getitem.place K) fd := T.c.fun 12
theorem Txt.F_Catalogue_contains (T : Txt K mg) : ∃ fd, FunD K d_Catalogue_contains.name d_Catalogue_contains.qual (defArgs s_Catalogue_contains) (defBody s_Catalogue_contains) (defScope s_Catalogue_contains) (d_Catalogue_contains.dvs K) (d_Catalogue_contains.kws K) (d_Catalogue_contains.place K) fd := T.c.fun 13
theorem Txt.F_Catalogue_len (T : Txt K mg) : ∃ fd, FunD K d_Catalogue_len.name d_Catalogue_len.qual (defArgs s_Catalogue_len) (defBody s_Catalogue_len) (defScope s_Catalogue_len) (d_Catalogue_len.dvs K) (d_Catalogue_len.kws K) (d_Catalogue_len.place K) fd := T.c.fun 14
theorem Txt.F_Catalogue_iter (T : Txt K mg) : ∃ fd, FunD K d_Catalogue_iter.name d_Catalogue_iter.qual (defArgs s_Catalogue_iter) (defBody s_Catalogue_iter) (defScope s_Catalogue_iter) (d_Catalogue_iter.dvs K) (d_Catalogue_iter.kws K) (d_Catalogue_iter.place K) fd := T.c.fun 15
theorem Txt.F_Catalogue_eq (T : Txt K mg) : ∃ fd, FunD K d_Catalogue_eq.name d_Catalogue_eq.qual (defArgs s_Catalogue_eq) (defBody s_Catalogue_eq) (defScope s_Catalogue_eq) (d_Catalogue_eq.dvs K) (d_Catalogue_eq.kws K) (d_Catalogue_eq.place K) fd := T.c.fun 16
theorem Txt.F_Catalogue_add (T : Txt K mg) : ∃ fd, FunD K d_Catalogue_add.name d_Catalogue_add.qual (defArgs s_Catalogue_add) (defBody s_Catalogue_add) (defScope s_Catalogue_add) (d_Catalogue_add.dvs K) (d_Catalogue_add.kws K) (d_Catalogue_add.place K) fd := T.c.fun 17
theorem Txt.F_is_table (T : Txt K mg) : ∃ fd, FunD K d_is_table.name d_is_table.qual (defArgs s_is_table) (defBody s_is_table) (defScope s_is_table) (d_is_table.dvs K) (d_is_table.kws K) (d_is_table.place K) fd := T.c.fun 18
theorem Txt.F_are_ways (T : Txt K mg) : ∃ fd, FunD K d_are_ways.name d_are_ways.qual (defArgs s_are_ways) (defBody s_are_ways) (defScope s_are_ways) (d_are_ways.dvs K) (d_are_ways.kws K) (d_are_ways.place K) fd := T.c.fun 19
theorem Txt.F_is_way (T : Txt K mg) : ∃ fd, FunD K d_is_way.name d_is_way.qual (defArgs s_is_way) (defBody s_is_way) (defScope s_is_way) (d_is_way.dvs K) (d_is_way.kws K) (d_is_way.place K) fd := T.c.fun 20
theorem Txt.F_Lines_init (T : Txt K mg) : ∃ fd, FunD K d_Lines_init.name d_Lines_init.qual (defArgs s_Lines_init) (defBody s_Lines_init) (defScope s_Lines_init) (d_Lines_init.dvs K) (d_Lines_init.kws K) (d_Lines_init.place K) fd := T.c.fun 21
theorem Txt.F_Lines_first_word (T : Txt K mg) : ∃ fd, FunD K d_Lines_first_word.name d_Lines_first_word.qual (defArgs s_Lines_first_word) (defBody s_Lines_first_word) (defScope s_Lines_first_word) (d_Lines_first_word.dvs K) (d_Lines_first_word.kws K) (d_Lines_first_word.place K) fd := T.c.fun 22
theorem Txt.F_Lines_begin (T : Txt K mg) : ∃ fd, FunD K d_Lines_begin.name d_Lines_begin.qual (defArgs s_Lines_begin) (defBody s_Lines_begin) (defScope s_Lines_begin) (d_Lines_begin.dvs K) (d_Lines_begin.kws K) (d_Lines_begin.place K) fd := T.c.fun 23
theorem Txt.F_Lines_finish (T : Txt K mg) : ∃ fd, FunD K d_Lines_finish.name d_Lines_finish.qual (defArgs s_Lines_finish) (defBody s_Lines_finish) (defScope s_Lines_finish) (d_Lines_finish.dvs K) (d_Lines_finish.kws K) (d_Lines_finish.place K) fd := T.c.fun 24
theorem Txt.F_Words_init (T : Txt K mg) : ∃ fd, FunD K d_Words_init.name d_Words_init.qual (defArgs s_Words_init) (defBody s_Words_init) (defScope s_Words_init) (d_Words_init.dvs K) (d_Words_init.kws K) (d_Words_init.place K) fd := T.c.fun 25
theorem Txt.F_Words_coming (T : Txt K mg) : ∃ fd, FunD K d_Words_coming.name d_Words_coming.qual (defArgs s_Words_coming) (defBody s_Words_coming) (defScope s_Words_coming) (d_Words_coming.dvs K) (d_Words_coming.kws K) (d_Words_coming.place K) fd := T.c.fun 26
theorem Txt.F_Words_take_name (T : Txt K mg) : ∃ fd, FunD K d_Words_take_name.name d_Words_take_name.qual (defArgs s_Words_take_name) (defBody s_Words_take_name) (defScope s_Words_take_name) (d_Words_take_name.dvs K) (d_Words_take_name.kws K) (d_Words_take_name.place K) fd := T.c.fun 27
theorem Txt.F_Words_take_number (T : Txt K mg) : ∃ fd, FunD K d_Words_take_number.name d_Words_take_number.qual (defArgs s_Words_take_number) (defBody s_Words_take_number) (defScope s_Words_take_number) (d_Words_take_number.dvs K) (d_Words_take_number.kws K) (d_Words_take_number.place K) fd := T.c.fun 28
theorem Txt.F_Words_take_digits (T : Txt K mg) : ∃ fd, FunD K d_Words_take_digits.name d_Words_take_digits.qual (defArgs s_Words_take_digits) (defBody s_Words_take_digits) (defScope s_Words_take_digits) (d_Words_take_digits.dvs K) (d_Words_take_digits.kws K) (d_Words_take_digits.place K) fd := T.c.fun 29
theorem Txt.F_Words_finish (T : Txt K mg) : ∃ fd, FunD K d_Words_finish.name d_Words_finish.qual (defArgs s_Words_finish) (defBody s_Words_finish) (defScope s_Words_finish) (d_Words_finish.dvs K) (d_Words_finish.kws K) (d_Words_finish.place K) fd := T.c.fun 30
theorem Txt.F_Words_taken (T : Txt K mg) : ∃ fd, FunD K d_Words_taken.name d_Words_taken.qual (defArgs s_Words_taken) (defBody s_Words_taken) (defScope s_Words_taken) (d_Words_taken.dvs K) (d_Words_taken.kws K) (d_Words_taken.place K) fd := T.c.fun 31
theorem Txt.F_words (T : Txt K mg) : ∃ fd, FunD K d_words.name d_words.qual (defArgs s_words) (defBody s_words) (defScope s_words) (d_words.dvs K) (d_words.kws K) (d_words.place K) fd := T.c.fun 32
theorem Txt.F_is_integer (T : Txt K mg) : ∃ fd, FunD K d_is_integer.name d_is_integer.qual (defArgs s_is_integer) (defBody s_is_integer) (defScope s_is_integer) (d_is_integer.dvs K) (d_is_integer.kws K) (d_is_integer.place K) fd := T.c.fun 33
theorem Txt.F_write_catalogue (T : Txt K mg) : ∃ fd, FunD K d_write_catalogue.name d_write_catalogue.qual (defArgs s_write_catalogue) (defBody s_write_catalogue) (defScope s_write_catalogue) (d_write_catalogue.dvs K) (d_write_catalogue.kws K) (d_write_catalogue.place K) fd := T.c.fun 34
theorem Txt.F_read_catalogue (T : Txt K mg) : ∃ fd, FunD K d_read_catalogue.name d_read_catalogue.qual (defArgs s_read_catalogue) (defBody s_read_catalogue) (defScope s_read_catalogue) (d_read_catalogue.dvs K) (d_read_catalogue.kws K) (d_read_catalogue.place K) fd := T.c.fun 35
theorem Txt.F_take_catalogue (T : Txt K mg) : ∃ fd, FunD K d_take_catalogue.name d_take_catalogue.qual (defArgs s_take_catalogue) (defBody s_take_catalogue) (defScope s_take_catalogue) (d_take_catalogue.dvs K) (d_take_catalogue.kws K) (d_take_catalogue.place K) fd := T.c.fun 36
theorem Txt.F_made_catalogue (T : Txt K mg) : ∃ fd, FunD K d_made_catalogue.name d_made_catalogue.qual (defArgs s_made_catalogue) (defBody s_made_catalogue) (defScope s_made_catalogue) (d_made_catalogue.dvs K) (d_made_catalogue.kws K) (d_made_catalogue.place K) fd := T.c.fun 37
theorem Txt.F_take_kind (T : Txt K mg) : ∃ fd, FunD K d_take_kind.name d_take_kind.qual (defArgs s_take_kind) (defBody s_take_kind) (defScope s_take_kind) (d_take_kind.dvs K) (d_take_kind.kws K) (d_take_kind.place K) fd := T.c.fun 38
theorem Txt.F_take_way (T : Txt K mg) : ∃ fd, FunD K d_take_way.name d_take_way.qual (defArgs s_take_way) (defBody s_take_way) (defScope s_take_way) (d_take_way.dvs K) (d_take_way.kws K) (d_take_way.place K) fd := T.c.fun 39
theorem Txt.F_law_bag_of (T : Txt K mg) : ∃ fd, FunD K d_law_bag_of.name d_law_bag_of.qual (defArgs s_law_bag_of) (defBody s_law_bag_of) (defScope s_law_bag_of) (d_law_bag_of.dvs K) (d_law_bag_of.kws K) (d_law_bag_of.place K) fd := T.c.fun 40
theorem Txt.F_law_pick (T : Txt K mg) : ∃ fd, FunD K d_law_pick.name d_law_pick.qual (defArgs s_law_pick) (defBody s_law_pick) (defScope s_law_pick) (d_law_pick.dvs K) (d_law_pick.kws K) (d_law_pick.place K) fd := T.c.fun 41
theorem Txt.F_law_choice (T : Txt K mg) : ∃ fd, FunD K d_law_choice.name d_law_choice.qual (defArgs s_law_choice) (defBody s_law_choice) (defScope s_law_choice) (d_law_choice.dvs K) (d_law_choice.kws K) (d_law_choice.place K) fd := T.c.fun 42
theorem Txt.F_law_one_in (T : Txt K mg) : ∃ fd, FunD K d_law_one_in.name d_law_one_in.qual (defArgs s_law_one_in) (defBody s_law_one_in) (defScope s_law_one_in) (d_law_one_in.dvs K) (d_law_one_in.kws K) (d_law_one_in.place K) fd := T.c.fun 43
theorem Txt.F_law_letters (T : Txt K mg) : ∃ fd, FunD K d_law_letters.name d_law_letters.qual (defArgs s_law_letters) (defBody s_law_letters) (defScope s_law_letters) (d_law_letters.dvs K) (d_law_letters.kws K) (d_law_letters.place K) fd := T.c.fun 44
theorem Txt.F_law_reserved (T : Txt K mg) : ∃ fd, FunD K d_law_reserved.name d_law_reserved.qual (defArgs s_law_reserved) (defBody s_law_reserved) (defScope s_law_reserved) (d_law_reserved.dvs K) (d_law_reserved.kws K) (d_law_reserved.place K) fd := T.c.fun 45
theorem Txt.F_law_names (T : Txt K mg) : ∃ fd, FunD K d_law_names.name d_law_names.qual (defArgs s_law_names) (defBody s_law_names) (defScope s_law_names) (d_law_names.dvs K) (d_law_names.kws K) (d_law_names.place K) fd := T.c.fun 46
theorem Txt.F_law_table_of (T : Txt K mg) : ∃ fd, FunD K d_law_table_of.name d_law_table_of.qual (defArgs s_law_table_of) (defBody s_law_table_of) (defScope s_law_table_of) (d_law_table_of.dvs K) (d_law_table_of.kws K) (d_law_table_of.place K) fd := T.c.fun 47
theorem Txt.F_law_way_table (T : Txt K mg) : ∃ fd, FunD K d_law_way_table.name d_law_way_table.qual (defArgs s_law_way_table) (defBody s_law_way_table) (defScope s_law_way_table) (d_law_way_table.dvs K) (d_law_way_table.kws K) (d_law_way_table.place K) fd := T.c.fun 48
theorem Txt.F_law_kind_of (T : Txt K mg) : ∃ fd, FunD K d_law_kind_of.name d_law_kind_of.qual (defArgs s_law_kind_of) (defBody s_law_kind_of) (defScope s_law_kind_of) (d_law_kind_of.dvs K) (d_law_kind_of.kws K) (d_law_kind_of.place K) fd := T.c.fun 49
theorem Txt.F_law_kind_objects (T : Txt K mg) : ∃ fd, FunD K d_law_kind_objects.name d_law_kind_objects.qual (defArgs s_law_kind_objects) (defBody s_law_kind_objects) (defScope s_law_kind_objects) (d_law_kind_objects.dvs K) (d_law_kind_objects.kws K) (d_law_kind_objects.place K) fd := T.c.fun 50
theorem Txt.F_law_catalogue_of (T : Txt K mg) : ∃ fd, FunD K d_law_catalogue_of.name d_law_catalogue_of.qual (defArgs s_law_catalogue_of) (defBody s_law_catalogue_of) (defScope s_law_catalogue_of) (d_law_catalogue_of.dvs K) (d_law_catalogue_of.kws K) (d_law_catalogue_of.place K) fd := T.c.fun 51
theorem Txt.F_law_same (T : Txt K mg) : ∃ fd, FunD K d_law_same.name d_law_same.qual (defArgs s_law_same) (defBody s_law_same) (defScope s_law_same) (d_law_same.dvs K) (d_law_same.kws K) (d_law_same.place K) fd := T.c.fun 52
theorem Txt.F_law_drawn (T : Txt K mg) : ∃ fd, FunD K d_law_drawn.name d_law_drawn.qual (defArgs s_law_drawn) (defBody s_law_drawn) (defScope s_law_drawn) (d_law_drawn.dvs K) (d_law_drawn.kws K) (d_law_drawn.place K) fd := T.c.fun 53
theorem Txt.F_law_digits (T : Txt K mg) : ∃ fd, FunD K d_law_digits.name d_law_digits.qual (defArgs s_law_digits) (defBody s_law_digits) (defScope s_law_digits) (d_law_digits.dvs K) (d_law_digits.kws K) (d_law_digits.place K) fd := T.c.fun 54
theorem Txt.F_law_lines_of (T : Txt K mg) : ∃ fd, FunD K d_law_lines_of.name d_law_lines_of.qual (defArgs s_law_lines_of) (defBody s_law_lines_of) (defScope s_law_lines_of) (d_law_lines_of.dvs K) (d_law_lines_of.kws K) (d_law_lines_of.place K) fd := T.c.fun 55
theorem Txt.F_law_parts_of (T : Txt K mg) : ∃ fd, FunD K d_law_parts_of.name d_law_parts_of.qual (defArgs s_law_parts_of) (defBody s_law_parts_of) (defScope s_law_parts_of) (d_law_parts_of.dvs K) (d_law_parts_of.kws K) (d_law_parts_of.place K) fd := T.c.fun 56
theorem Txt.F_law_read_told (T : Txt K mg) : ∃ fd, FunD K d_law_read_told.name d_law_read_told.qual (defArgs s_law_read_told) (defBody s_law_read_told) (defScope s_law_read_told) (d_law_read_told.dvs K) (d_law_read_told.kws K) (d_law_read_told.place K) fd := T.c.fun 57
theorem Txt.F_law (T : Txt K mg) : ∃ fd, FunD K d_law.name d_law.qual (defArgs s_law) (defBody s_law) (defScope s_law) (d_law.dvs K) (d_law.kws K) (d_law.place K) fd := T.c.fun 58
end
end Tx

/-! ## Hd -/
set_option maxHeartbeats 0
namespace Tx
open PySem PySem.W PySem.Calls PyProof.Rows
abbrev R : OpenRow := OpenLaw.row PySem.Challenge.rw_tinkerhall_k07_catalogue_lines
abbrev qv : Program := view R.prog [61]
def names0 : List PySem.Str := ["_wall", "__name__", "TinkerError", "BadSigns", "BadName", "BadKind", "BadLine", "TooMany", "Twice", "Unknown", "Unlike", "is_number", "is_list", "are_signs", "are_different", "WORDS", "is_name", "write_digits", "MOST_KINDS", "MOST_PRICE", "MOST_WAYS", "Kind", "Catalogue", "_is_table", "_are_ways", "_is_way", "MOST_DIGITS", "Lines", "Words", "_words"]
def names1 : List PySem.Str := ["_is_integer", "write_catalogue", "read_catalogue", "take_catalogue", "made_catalogue", "_take_kind", "_take_way", "_law_bag_of", "_law_pick", "_law_choice", "_law_one_in", "_law_letters", "_law_reserved", "_law_names", "_law_table_of", "_law_way_table", "_law_kind_of", "_law_kind_objects", "_law_catalogue_of", "_law_same", "_law_drawn", "_law_digits", "_law_lines_of", "_law_parts_of", "_law_read_told"]
def names : List PySem.Str := names0 ++ (names1)
abbrev asN : List PySem.Addr := List.range 2500
abbrev hk : PySem.W.Hook := Gd.hookL asN ts ds
def ob (s : PySem.W.SharedT) : Gd.Obs := Gd.obsAtL asN ts ds (HandSHeadRun.getT s)
theorem ob_eq (s : PySem.W.SharedT) : ob s = hk.obs s.abs := Gd.obsAtL_eq (HandSHeadRun.getT_eq s)
open HandSHeadRun Gd in
theorem runA (w : World) (os : OsState) : (endF (stepQ (denQ tabQ) R.prog w) 9000 R.prog w os).map (fun s => (looksF R.prog (boot_heap w.params) s.abs, seenQ qv names (importedModules R.prog.main.body) (fun s => xlAt qv [] s && recOk R.toRowW.records s) s.abs, ts.all fun t => t (He.frG (getT s) asN))) = some (true, openGood qv names, true) := by
  kernel_rfl
open HandSHeadRun Gd in
theorem runB (w : World) (os : OsState) : (endF (stepQ (denQ tabQ) R.prog w) 9000 R.prog w os).map (fun s => (ds.all fun d => d.good (He.frG (getT s) asN), ds.map fun d => seenAt (He.frG (getT s) asN) (d.place (He.frG (getT s) asN)))) = some (true, ds.map DefA.due) := by
  kernel_rfl
theorem run (w : World) : HandSHeadRun.RunEq R qv hk ob 9000 names w := fun os => Gd.split_run (K := fun s => He.frG (HandSHeadRun.getT s) asN) (runA w os) (runB w os)
end Tx

/-! ## Rd -/
set_option maxHeartbeats 4000000
/-! Reading, one step at a time: what each combinator asks, by its head alone. -/
namespace Gd
open PySem PySem.Spec PyProof.Rows L2
section
variable {σ : L2.St} {H : Hp} {Q : VK} {QT : Bool → Hp → Prop} {QA : List V → Hp → Prop} {ta tb tc te td ty tv : TE} {tt uu : TT} {tr : TA} {v x y z : V} {i j : Int} {b : Bool} {D : Ends} {s1 s2 : TS} {K : Frg} {sp : Sp}
theorem r_var {k : Nat} (e : σ[k]? = some (some v)) (h : Q v H) : tVar k σ H Q := ⟨v, e, h⟩
theorem r_c (h : Q v H) : tC v σ H Q := h
theorem r_op {r : R2} (h : ta σ H fun x H1 => tb σ H1 fun y H2 => r x y H2 Q) : tOp r ta tb σ H Q := h
theorem r_un {r : V → Hp → VK → Prop} (h : ta σ H fun x H1 => r x H1 Q) : tUn r ta σ H Q := h
theorem r_I0 {g : Int → Int → V} (h : Q (g i j) H) : rI0 g (.int i) (.int j) H Q := ⟨i, j, rfl, rfl, h⟩
theorem r_I {C : Int → Int → Prop} {g : Int → Int → V} (hc : C i j) (h : Q (g i j) H) : rI C g (.int i) (.int j) H Q := ⟨i, j, rfl, rfl, hc, h⟩
theorem r_U {g : Int → V} (h : Q (g i) H) : rU g (.int i) H Q := ⟨i, rfl, h⟩
theorem r_eq (hs : scal x y = true) (h : Q (.bl (decide (x = y))) H) : rEq x y H Q := ⟨hs, h⟩
theorem r_ne (hs : scal x y = true) (h : Q (.bl (!decide (x = y))) H) : rNe x y H Q := ⟨hs, h⟩
theorem r_seq (h : s1 { D with nx := s2 D } σ H) : tSeq s1 s2 D σ H := h
theorem r_next (h : D.nx σ H) : tNext D σ H := h
theorem r_asg {g : TG} (h : te σ H fun x H1 => g x σ H1 D.nx) : tAsg te g D σ H := h
theorem r_name {k : Nat} {R : L2.St → Hp → Prop} (h : R (σ.set k (some v)) H) : gName k v σ H R := h
theorem r_ret (h : te σ H D.rt) : tRet te D σ H := h
theorem r_drop (h : te σ H fun _ H1 => D.nx σ H1) : tDrop te D σ H := h
theorem r_ifS (h : tt σ H fun b H1 => if b = true then s1 D σ H1 else s2 D σ H1) : tIfS tt s1 s2 D σ H := h
theorem r_test (h : te σ H fun x H' => ∃ k, x = .bl k ∧ QT k H') : tTest te σ H QT := h
theorem r_B (h : te σ H fun x H' => ∃ k, x = .bl k ∧ QT k H') : tB te σ H QT := h
theorem r_bl {R : Bool → Prop} (h : R b) : ∃ k, V.bl b = .bl k ∧ R k := ⟨b, rfl, h⟩
theorem r_not (h : tt σ H fun c H1 => QT (!c) H1) : tNot tt σ H QT := h
theorem r_and (h : tt σ H fun c H1 => if c = true then uu σ H1 QT else QT false H1) : tAnd tt uu σ H QT := h
theorem r_or (h : tt σ H fun c H1 => if c = true then QT true H1 else uu σ H1 QT) : tOr tt uu σ H QT := h
theorem r_andV (h : ta σ H fun x H1 => ∃ c, x = .bl c ∧ if c = true then tb σ H1 Q else Q (.bl false) H1) : tAndV ta tb σ H Q := h
theorem r_orV (h : ta σ H fun x H1 => ∃ c, x = .bl c ∧ if c = true then Q (.bl true) H1 else tb σ H1 Q) : tOrV ta tb σ H Q := h
theorem r_notV (h : ta σ H fun x H1 => ∃ c, x = .bl c ∧ Q (.bl (!c)) H1) : tNotV ta σ H Q := h
theorem r_ifE (h : tt σ H fun c H1 => if c = true then ta σ H1 Q else tb σ H1 Q) : tIf tt ta tb σ H Q := h
theorem r_nil (h : QA [] H) : tNil σ H QA := h
theorem r_cons (h : ta σ H fun x H1 => tr σ H1 fun xs H2 => QA (x :: xs) H2) : tCons ta tr σ H QA := h
theorem r_cb {r : List V → Hp → VK → Prop} (h : tr σ H fun vs H1 => r vs H1 Q) : tCB r tr σ H Q := h
theorem r_call {dvs : List V} {E : XK} (h : tr σ H fun vs H1 => sp (vs ++ dvs) H1 Q E) : tCall sp dvs E tr σ H Q := h
theorem r_tup (h : tr σ H fun xs H1 => xs.length ≤ sizeLine ∧ ∀ p, H1 p = none → Q (.ref p) (upd H1 p (.tup xs))) : tTup tr σ H Q := h
theorem r_lst (h : tr σ H fun xs H1 => xs.length ≤ sizeLine ∧ ∀ p, H1 p = none → Q (.ref p) (upd H1 p (.lst xs))) : tLst tr σ H Q := h
theorem r_dget (h : td σ H fun x H1 => ty σ H1 fun y H2 => ∃ a v, x = .ref a ∧ DGet H2 a y (some v) ∧ Q v H2) : tDGet td ty σ H Q := h
theorem r_dgot {a : Addr} {R : V → Prop} (d : DGet H a y (some v)) (h : R v) : ∃ a' v', V.ref a = .ref a' ∧ DGet H a' y (some v') ∧ R v' := ⟨a, v, rfl, d, h⟩
theorem r_dput (h : tv σ H fun v H1 => td σ H1 fun x H2 => ty σ H2 fun y H3 => ∃ a H4, x = .ref a ∧ DPut H3 a y v H4 ∧ D.nx σ H4) : sDPut td ty tv D σ H := h
theorem r_dputs {a : Addr} {H' : Hp} {R : Hp → Prop} (d : DPut H a y v H') (h : R H') : ∃ a' H4, V.ref a = .ref a' ∧ DPut H a' y v H4 ∧ R H4 := ⟨a, H', rfl, d, h⟩
theorem r_ixL {p : Addr} {xs : List V} (s : SqL K H p xs) (a : atI xs i = some v) (h : Q v H) : rIxL K (.ref p) (.int i) H Q := ⟨p, xs, i, v, rfl, rfl, s, a, h⟩
theorem r_ixT {p : Addr} {xs : List V} (s : SqT K H p xs) (a : atI xs i = some v) (h : Q v H) : rIxT K (.ref p) (.int i) H Q := ⟨p, xs, i, v, rfl, rfl, s, a, h⟩
theorem r_ixS {w : Str} {c : Nat} (l : w.length ≤ sizeLine) (a : atI w.cps.toList i = some c) (h : Q (.str ⟨#[c]⟩) H) : rIxS (.str w) (.int i) H Q := ⟨w, i, c, rfl, rfl, l, a, h⟩
theorem r_iT {A B : Prop} (h : A) : if (true = true) then A else B := by rw [if_pos rfl]; exact h
theorem r_iF {A B : Prop} (h : B) : if (false = true) then A else B := by rw [if_neg Bool.false_ne_true]; exact h
theorem r_if2 {A B : Prop} (h1 : b = true → A) (h2 : b = false → B) : if b = true then A else B := by
  cases b with
  | true => exact r_iT (h1 rfl)
  | false => exact r_iF (h2 rfl)
theorem r_ifd {c A B : Prop} [Decidable c] (h1 : c → A) (h2 : ¬ c → B) : if decide c = true then A else B := by
  by_cases h : c
  · rw [if_pos (decide_eq_true h)]; exact h1 h
  · rw [if_neg (by rw [decide_eq_false h]; exact Bool.false_ne_true)]; exact h2 h
theorem r_int1 (h : Q (.int i) H) : (∃ k, [V.int i] = [.int k] ∧ Q (.int k) H) ∨ ∃ k, [V.int i] = [.bl k] ∧ Q (.int (if k then 1 else 0)) H := .inl ⟨i, rfl, h⟩
end
end Gd
namespace Gd
open PySem PySem.Spec PyProof.Rows L2
section
variable {σ : L2.St} {H : Hp} {Q : VK} {to te : TE} {tr : TA} {K : Frg}
theorem r_m1 {r : V → List V → Hp → VK → Prop} (h : to σ H fun x H1 => (∃ a, x = .str a) ∧ te σ H1 fun y H2 => r x [y] H2 Q) : tM1 r to te σ H Q := h
end
end Gd

/-! ## Way -/
set_option maxHeartbeats 4000000
/-! Ways from heap to heap; comprehensions and loops along them. -/
namespace Gd
open PySem PySem.Spec PyProof.Rows L2
/-- what nothing here ever changes -/
def Still : HO → Prop
  | .tup _ => True
  | .ins _ _ _ => True
  | .own _ => True
  | .frz _ _ => True
  | _ => False
/-- all that is still stands -/
def Sd (H H' : Hp) : Prop := ∀ a o, Still o → H a = some o → H' a = some o
section
variable {K : Frg} {H H' H'' : Hp} {a p : Addr} {o : HO} {xs : List V}
theorem Sd.refl (H : Hp) : Sd H H := fun _ _ _ h => h
theorem Sd.trans (x : Sd H H') (y : Sd H' H'') : Sd H H'' := fun a o s h => y a o s (x a o s h)
theorem Sd.of (x : Same H H') : Sd H H' := fun a o _ h => x a o h
theorem Sd.lst (e : H p = some (.lst xs)) : Sd H (upd H p o) := fun a u s h => by
  rw [upd_ne (ne_of h e (by rintro rfl; exact s))]
  exact h
theorem Sd.dK {kvs : List (Key × V)} (e : H p = some (.dK kvs)) : Sd H (upd H p o) := fun a u s h => by
  rw [upd_ne (ne_of h e (by rintro rfl; exact s))]
  exact h
theorem Sd.new (e : H p = none) : Sd H (upd H p o) := fun a u s h => by
  rw [upd_ne (ne_of_none h e)]
  exact h
theorem Sd.tup (x : Sd H H') (h : SqT K H a xs) : SqT K H' a xs := by
  rcases h with (h | ⟨o, h⟩) | h
  · exact .inl (.inl (x _ _ trivial h))
  · exact .inl (.inr ⟨o, x _ _ trivial h⟩)
  · exact .inr h
end
/-- a way: what a body may do to the heap -/
structure Way (R : Hp → Hp → Prop) : Prop where
  trans : ∀ {A B C}, R A B → R B C → R A C
  chg : ∀ {A B p o}, R A B → A p = none → R A (upd B p o)
  sd : ∀ {A B}, R A B → Sd A B
  lst : ∀ {A B a xs}, R A B → A a = some (.lst xs) → B a = some (.lst xs)
  back : ∀ {A B p}, R A B → B p = none → A p = none
  seq : ∀ {K A B a xs}, R A B → SqL K A a xs → SqL K B a xs
theorem way_same : Way Same where
  trans := fun x y => x.trans y
  chg := fun x n a u h => by rw [upd_ne (ne_of_none h n)]; exact x a u h
  sd := fun x => Sd.of x
  lst := fun x h => x _ _ h
  back := fun x h => x.free h
  seq := fun x h => x.seq h
/-- facts that stand while what is still stands -/
def Mono (P : Hp → Prop) : Prop := ∀ H H', Sd H H' → P H → P H'
section
variable {K : Frg} {R : Hp → Hp → Prop} {H : Hp} {σ : L2.St} {vs : List Nat} {g : TG} {te ta : TE} {t : TA} {Q : VK} {P : Nat → V → Hp → Prop} {n : Int} {a : Addr} {xs : List V}
/-- the body of a comprehension over a range, a list, a tuple -/
def mR (g : TG) (te : TE) (vs : List Nat) (ws : List V) (σ : L2.St) (H : Hp) (Q : VK) : Prop := tLc (iRng1 fun _ H' k => k ws H') g tYes te vs σ H Q
def mL (K : Frg) (g : TG) (te : TE) (vs : List Nat) (v : V) (σ : L2.St) (H : Hp) (Q : VK) : Prop := tLc (iList K fun _ H' k => k v H') g tYes te vs σ H Q
def mT (K : Frg) (g : TG) (te : TE) (vs : List Nat) (v : V) (σ : L2.St) (H : Hp) (Q : VK) : Prop := tLc (iTup K fun _ H' k => k v H') g tYes te vs σ H Q
theorem r_lcR (h : t σ H fun ws H1 => mR g te vs ws σ H1 Q) : tLc (iRng1 t) g tYes te vs σ H Q := h
theorem r_lcL (h : ta σ H fun v H1 => mL K g te vs v σ H1 Q) : tLc (iList K ta) g tYes te vs σ H Q := h
theorem r_lcT (h : ta σ H fun v H1 => mT K g te vs v σ H1 Q) : tLc (iTup K ta) g tYes te vs σ H Q := h
/-- what a comprehension has made behind i turns -/
def Made (R : Hp → Hp → Prop) (P : Nat → V → Hp → Prop) (H : Hp) (D : Addr) (i : Nat) (H' : Hp) : Prop :=
  ∃ ys, R H H' ∧ H' D = some (.lst ys) ∧ ys.length = i ∧ ∀ j y, ys[j]? = some y → P j y H'
theorem Made.start (W : Way R) (r0 : R H H) {D : Addr} (n : H D = none) : Made R P H D 0 (upd H D (.lst [])) :=
  ⟨[], W.chg r0 n, upd_same, rfl, fun j y h => by simp at h⟩
theorem Made.turn (W : Way R) (mono : ∀ i v, Mono (P i v)) {D : Addr} (nD : H D = none) {i : Nat} {H1 H2 : Hp} {y : V} (hi : i < 100000)
    (M : Made R P H D i H1) (r : R H1 H2) (p : P i y H2) : ∃ acc, H2 D = some (.lst acc) ∧ acc.length < sizeLine ∧ Made R P H D (i + 1) (upd H2 D (.lst (acc ++ [y]))) := by
  obtain ⟨ys, r1, hD, hl, hp⟩ := M
  have hD2 := W.lst r hD
  have up : Sd H2 (upd H2 D (.lst (ys ++ [y]))) := Sd.lst hD2
  refine ⟨ys, hD2, Nat.lt_of_lt_of_le (by omega : ys.length < 100000) (by decide), ys ++ [y], W.chg (W.trans r1 r) nD, upd_same, by rw [List.length_append, hl]; rfl, fun j z h => ?_⟩
  by_cases hj : j < ys.length
  · rw [List.getElem?_append_left hj] at h
    exact mono j z _ _ ((W.sd r).trans up) (hp j z h)
  · have e : j = i := by
      have := (List.getElem?_eq_some_iff.mp h).1
      rw [List.length_append] at this
      simp at this
      omega
    subst e
    rw [List.getElem?_append_right (by omega), hl, Nat.sub_self] at h
    cases (show some y = some z from h)
    exact mono j y _ _ up p
theorem lcR (W : Way R) (r0 : R H H) (hn : 0 ≤ n ∧ n ≤ 100000) (mono : ∀ i v, Mono (P i v))
    (step : ∀ (i : Nat) H1, (i : Int) < n → R H H1 → ∀ Qe : VK, (∀ y H3, R H1 H3 → P i y H3 → Qe y H3) → g (.int (i : Int)) (wipe σ vs) H1 fun σ2 H2 => wipe σ2 vs = wipe σ vs ∧ te σ2 H2 Qe)
    (fin : ∀ D H' ys, H D = none → R H H' → H' D = some (.lst ys) → ys.length = n.toNat → (∀ i y, ys[i]? = some y → P i y H') → Q (.ref D) H') :
    mR g te vs [.int n] σ H Q := by
  refine ⟨n, rfl, by omega, by omega, fun D hD => ?_⟩
  refine lc_range (lo := 0) (Made R P H D) (Made.start W r0 hD) (fun i H1 hi M => ?_) fun H' M => ?_
  · have e : (0 : Int) + (i : Int) = (i : Int) := Int.zero_add _
    have s := step i H1 (by omega) M.choose_spec.1 _ fun y H3 r3 p3 => Made.turn W mono hD (by omega) M r3 p3
    rw [e]
    simp only [tYes, ↓reduceIte]
    exact s
  · obtain ⟨ys, r, hy, hl, hp⟩ := M
    exact fin D H' ys hD r hy hl hp
theorem lcL (W : Way R) (r0 : R H H) (hs : SqL K H a xs) (hn : xs.length ≤ 100000) (mono : ∀ i v, Mono (P i v))
    (step : ∀ (i : Nat) x H1, xs[i]? = some x → R H H1 → ∀ Qe : VK, (∀ y H3, R H1 H3 → P i y H3 → Qe y H3) → g x (wipe σ vs) H1 fun σ2 H2 => wipe σ2 vs = wipe σ vs ∧ te σ2 H2 Qe)
    (fin : ∀ D H' ys, H D = none → R H H' → H' D = some (.lst ys) → ys.length = xs.length → (∀ i y, ys[i]? = some y → P i y H') → Q (.ref D) H') :
    mL K g te vs (.ref a) σ H Q := by
  refine ⟨a, rfl, ⟨xs, hs⟩, fun D hD => ?_⟩
  refine lc_list (xs := xs) (Made R P H D) (Made.start W r0 hD) (fun i H1 _ M => W.seq M.choose_spec.1 hs) (fun i x H1 hi M => ?_) fun H' M => ?_
  · have hlt := (List.getElem?_eq_some_iff.mp hi).1
    have s := step i x H1 hi M.choose_spec.1 _ fun y H3 r3 p3 => Made.turn W mono hD (by omega) M r3 p3
    simp only [tYes, ↓reduceIte]
    exact s
  · obtain ⟨ys, r, hy, hl, hp⟩ := M
    exact fin D H' ys hD r hy hl hp
theorem lcT (W : Way R) (r0 : R H H) (hs : SqT K H a xs) (hn : xs.length ≤ 100000) (mono : ∀ i v, Mono (P i v))
    (step : ∀ (i : Nat) x H1, xs[i]? = some x → R H H1 → ∀ Qe : VK, (∀ y H3, R H1 H3 → P i y H3 → Qe y H3) → g x (wipe σ vs) H1 fun σ2 H2 => wipe σ2 vs = wipe σ vs ∧ te σ2 H2 Qe)
    (fin : ∀ D H' ys, H D = none → R H H' → H' D = some (.lst ys) → ys.length = xs.length → (∀ i y, ys[i]? = some y → P i y H') → Q (.ref D) H') :
    mT K g te vs (.ref a) σ H Q := by
  refine ⟨a, rfl, ⟨xs, hs⟩, fun D hD => ?_⟩
  refine lc_tup (xs := xs) (Made R P H D) (Made.start W r0 hD) (fun i H1 _ M => (W.sd M.choose_spec.1).tup hs) (fun i x H1 hi M => ?_) fun H' M => ?_
  · have hlt := (List.getElem?_eq_some_iff.mp hi).1
    have s := step i x H1 hi M.choose_spec.1 _ fun y H3 r3 p3 => Made.turn W mono hD (by omega) M r3 p3
    simp only [tYes, ↓reduceIte]
    exact s
  · obtain ⟨ys, r, hy, hl, hp⟩ := M
    exact fin D H' ys hD r hy hl hp
/-- the body of a loop over a range, a list, a tuple -/
def fR (g : TG) (tb : TS) (ws : List V) (D : Ends) (σ : L2.St) (H : Hp) : Prop := tFor (iRng1 fun _ H' k => k ws H') g tb D σ H
def fL (K : Frg) (g : TG) (tb : TS) (v : V) (D : Ends) (σ : L2.St) (H : Hp) : Prop := tFor (iList K fun _ H' k => k v H') g tb D σ H
def fT (K : Frg) (g : TG) (tb : TS) (v : V) (D : Ends) (σ : L2.St) (H : Hp) : Prop := tFor (iTup K fun _ H' k => k v H') g tb D σ H
variable {tb : TS} {D : Ends}
theorem r_forR (h : t σ H fun ws H1 => fR g tb ws D σ H1) : tFor (iRng1 t) g tb D σ H := h
theorem r_forL (h : ta σ H fun v H1 => fL K g tb v D σ H1) : tFor (iList K ta) g tb D σ H := h
theorem r_forT (h : ta σ H fun v H1 => fT K g tb v D σ H1) : tFor (iTup K ta) g tb D σ H := h
theorem forR (Pv : Nat → L2.St → Hp → Prop) (hn : 0 ≤ n ∧ n ≤ 100000) (h0 : Pv 0 σ H)
    (turn : ∀ (i : Nat) σ' H', (i : Int) < n → Pv i σ' H' → g (.int (i : Int)) σ' H' fun σ2 H2 => tb { D with nx := Pv (i + 1), ct := Pv (i + 1), bk := D.nx } σ2 H2)
    (done : ∀ σ' H', Pv n.toNat σ' H' → D.nx σ' H') : fR g tb [.int n] D σ H := by
  refine ⟨n, rfl, by omega, by omega, for_range (lo := 0) Pv h0 (fun i σ' H' hi p => ?_) done⟩
  rw [Int.zero_add]
  exact turn i σ' H' (by omega) p
theorem forL (Pv : Nat → L2.St → Hp → Prop) (hs : SqL K H a xs) (h0 : Pv 0 σ H) (stays : ∀ i σ' H', i ≤ xs.length → Pv i σ' H' → SqL K H' a xs)
    (turn : ∀ (i : Nat) x σ' H', xs[i]? = some x → Pv i σ' H' → g x σ' H' fun σ2 H2 => tb { D with nx := Pv (i + 1), ct := Pv (i + 1), bk := D.nx } σ2 H2)
    (done : ∀ σ' H', Pv xs.length σ' H' → D.nx σ' H') : fL K g tb (.ref a) D σ H :=
  ⟨a, rfl, ⟨xs, hs⟩, for_list (xs := xs) Pv h0 stays turn done⟩
theorem forT (Pv : Nat → L2.St → Hp → Prop) (hs : SqT K H a xs) (h0 : Pv 0 σ H) (stays : ∀ i σ' H', i ≤ xs.length → Pv i σ' H' → SqT K H' a xs)
    (turn : ∀ (i : Nat) x σ' H', xs[i]? = some x → Pv i σ' H' → g x σ' H' fun σ2 H2 => tb { D with nx := Pv (i + 1), ct := Pv (i + 1), bk := D.nx } σ2 H2)
    (done : ∀ σ' H', Pv xs.length σ' H' → D.nx σ' H') : fT K g tb (.ref a) D σ H :=
  ⟨a, rfl, ⟨xs, hs⟩, for_tup (xs := xs) Pv h0 stays turn done⟩
end
/-! ### lists of texts, of numbers; a list's methods -/
section
variable {K : Frg} {H : Hp} {Q : VK} {p l : Addr} {x : Str} {ls : List Str} {xs : List V} {y : V} {to : TE} {tr : TA} {σ : L2.St}
theorem eqV_str (a b : Str) : eqV (.str a) (.str b) = decide (a = b) := by
  unfold eqV
  first | rfl | simp
theorem inV_str : inV (.str x) (ls.map V.str) = decide (x ∈ ls) := by
  unfold inV
  induction ls with
  | nil => simp
  | cons z r ih =>
    rw [List.map_cons, List.any_cons, ih, eqV_str]
    by_cases h : z = x
    · subst h; simp
    · simp [h, Ne.symm h, show ¬ x = z from fun e => h e.symm]
theorem flat_strs : (ls.map V.str).all flatV = true := by
  induction ls with
  | nil => rfl
  | cons z r ih => rw [List.map_cons, List.all_cons, ih]; rfl
theorem r_in (s : SqL K H p (ls.map V.str) ∨ SqT K H p (ls.map V.str)) (h : Q (.bl (decide (x ∈ ls))) H) : rIn K false (.str x) (.ref p) H Q :=
  ⟨p, _, rfl, s, rfl, flat_strs, by show Q (.bl (inV _ _)) H; rw [inV_str]; exact h⟩
theorem r_notIn (s : SqL K H p (ls.map V.str) ∨ SqT K H p (ls.map V.str)) (h : Q (.bl (!decide (x ∈ ls))) H) : rIn K true (.str x) (.ref p) H Q :=
  ⟨p, _, rfl, s, rfl, flat_strs, by show Q (.bl (!inV _ _)) H; rw [inV_str]; exact h⟩
theorem r_bm {T : String} {r : V → List V → Hp → VK → Prop} (h : to σ H fun x H1 => tyV K T x H1 ∧ tr σ H1 fun xs H2 => r x xs H2 Q) : tBM K T r to tr σ H Q := h
theorem r_tyL {A : Prop} (hl : H l = some (.lst xs)) (h : A) : tyV K "list" (.ref l) H ∧ A := ⟨.inl ⟨rfl, _, SqL.of hl⟩, h⟩
theorem r_append (hl : H l = some (.lst xs)) (n : xs.length < 100000) (h : Q .non (upd H l (.lst (xs ++ [y])))) : rAppend (.ref l) [y] H Q :=
  ⟨l, xs, y, rfl, rfl, hl, Nat.lt_of_lt_of_le n (by decide), h⟩
end
end Gd

/-! ## Dat -/
set_option maxHeartbeats 4000000
/-! Data of tuples: it stands while what is still stands. -/
namespace Gd
open PySem PySem.Spec PyProof.Rows L2
mutual
/-- no list in it -/
def flatD : PyData → Bool
  | .none | .bool _ | .int _ | .str _ => true
  | .tuple xs => flatDs xs
  | .list _ | .dict _ => false
def flatDs : List PyData → Bool
  | [] => true
  | x :: xs => flatD x && flatDs xs
end
section
variable {K : Frg} {H H' : Hp}
mutual
theorem Dp.sd (e : Sd H H') : ∀ (d : PyData) (v : V), flatD d = true → Dp K H v d → Dp K H' v d
  | .none, _, _, h => by cases h; exact .non
  | .bool b, _, _, h => by cases h; exact .bl b
  | .int i, _, _, h => by cases h; exact .int i
  | .str x, _, _, h => by cases h; exact .str x
  | .list _, _, f, _ => by simp [flatD] at f
  | .dict _, _, f, _ => by simp [flatD] at f
  | .tuple ds, _, f, h => by
    cases h with
    | tup h1 h2 => exact .tup (e.tup h1) (DpAll.sd e ds _ (by simpa only [flatD] using f) h2)
theorem DpAll.sd (e : Sd H H') : ∀ (ds : List PyData) (vs : List V), flatDs ds = true → DpAll K H vs ds → DpAll K H' vs ds
  | [], _, _, h => by cases h; exact .nil
  | d :: ds, _, f, h => by
    cases h with
    | cons h1 h2 =>
      simp only [flatDs, Bool.and_eq_true] at f
      exact .cons (Dp.sd e d _ f.1 h1) (DpAll.sd e ds _ f.2 h2)
end
theorem DpAll.len : ∀ {vs : List V} {ds : List PyData}, DpAll K H vs ds → vs.length = ds.length
  | _, _, .nil => rfl
  | _, _, .cons _ h => by rw [List.length_cons, List.length_cons, DpAll.len h]
theorem DpAll.at_ : ∀ {vs : List V} {ds : List PyData} {i : Nat} {v : V}, DpAll K H vs ds → vs[i]? = some v → ∃ d, ds[i]? = some d ∧ Dp K H v d
  | _, _, _, _, .nil, h => by simp at h
  | _, _, 0, _, .cons h _, e => by
    cases (show some _ = some _ from e)
    exact ⟨_, rfl, h⟩
  | _, _, i + 1, _, .cons _ h, e => DpAll.at_ (i := i) h e
theorem DpAll.of_at : ∀ {vs : List V} {ds : List PyData}, vs.length = ds.length → (∀ (i : Nat) v d, vs[i]? = some v → ds[i]? = some d → Dp K H v d) → DpAll K H vs ds
  | [], [], _, _ => .nil
  | [], _ :: _, h, _ => by simp at h
  | _ :: _, [], h, _ => by simp at h
  | v :: vs, d :: ds, h, f => .cons (f 0 v d rfl rfl) (DpAll.of_at (by simpa using h) fun i x y a b => f (i + 1) x y a b)
theorem DpAll.flat : ∀ {ts : List Int}, DpAll K H (ts.map V.int) (ts.map PyData.int)
  | [] => .nil
  | t :: ts => .cons (.int t) DpAll.flat
theorem DpAll.ints : ∀ {vs : List V} {ts : List Int}, DpAll K H vs (ts.map PyData.int) → vs = ts.map V.int
  | _, [], .nil => rfl
  | _, t :: ts, .cons h1 h2 => by
    cases h1
    rw [DpAll.ints h2]
    rfl
theorem DpAll.strs : ∀ {ls : List Str}, DpAll K H (ls.map V.str) (ls.map PyData.str)
  | [] => .nil
  | t :: ts => .cons (.str t) DpAll.strs
theorem flat_ints (ts : List Int) : flatDs (ts.map PyData.int) = true := by
  induction ts with
  | nil => simp [flatDs]
  | cons t r ih => simp [flatDs, flatD, ih]
end
/-! ### a row of numbers -/
def intsD (ts : List Int) : PyData := .tuple (ts.map PyData.int)
section
variable {K : Frg} {H H' : Hp} {v : V} {ts us : List Int}
theorem flat_intsD : flatD (intsD ts) = true := by simp [intsD, flatD, flat_ints]
theorem ints_at (h : Dp K H v (intsD ts)) : ∃ a, v = .ref a ∧ SqT K H a (ts.map V.int) := by
  unfold intsD at h
  cases h with
  | tup h1 h2 =>
    rw [DpAll.ints h2] at h1
    exact ⟨_, rfl, h1⟩
theorem ints_of {a : Addr} (h : SqT K H a (ts.map V.int)) : Dp K H (.ref a) (intsD ts) := .tup h DpAll.flat
theorem eqv_ints : ∀ (ts us : List Int), PyData.eqvAll (ts.map PyData.int) (us.map PyData.int) = decide (ts = us)
  | [], [] => by simp [PyData.eqvAll]
  | [], _ :: _ => by simp [PyData.eqvAll]
  | _ :: _, [] => by simp [PyData.eqvAll]
  | t :: ts, u :: us => by
    simp only [List.map_cons, PyData.eqvAll, PyData.eqv, eqv_ints ts us]
    by_cases h : t = u
    · subst h; simp
    · simp [h]
theorem eqv_intsD : PyData.eqv (intsD ts) (intsD us) = decide (ts = us) := by
  simp only [intsD, PyData.eqv, eqv_ints]
theorem lay_ints : ∀ ts : List Int, PyData.canLayAll0 (ts.map PyData.int) = true
  | [] => by simp [PyData.canLayAll0]
  | t :: ts => by simp [PyData.canLayAll0, PyData.canLay0, lay_ints ts]
theorem depth_ints : ∀ ts : List Int, PyData.depthAll (ts.map PyData.int) = 0
  | [] => by simp [PyData.depthAll]
  | t :: ts => by simp [PyData.depthAll, PyData.depth, depth_ints ts]
theorem shaped_ints : SeqAt.shaped (intsD ts) = true := by
  simp [SeqAt.shaped, intsD, PyData.canLay0, lay_ints, PyData.depth, depth_ints]
/-- numbers read off values -/
theorem ints_read {m : Int} : ∀ {ys : List V}, (∀ (i : Nat) y, ys[i]? = some y → ∃ r, y = V.int r ∧ 0 ≤ r ∧ r < m) → ∃ ts : List Int, ys = ts.map V.int ∧ ∀ t ∈ ts, 0 ≤ t ∧ t < m
  | [], _ => ⟨[], rfl, by simp⟩
  | y :: ys, h => by
    obtain ⟨r, rfl, hr⟩ := h 0 y rfl
    obtain ⟨ts, rfl, ht⟩ := ints_read (ys := ys) fun i z e => h (i + 1) z (by simpa using e)
    refine ⟨r :: ts, rfl, fun t m => ?_⟩
    rcases List.mem_cons.mp m with rfl | m
    · exact hr
    · exact ht t m
end
section
variable {K : Frg} {H : Hp} {Q : VK} {x y : V} {d e : PyData} {l p : Addr} {xs : List V} {k i : Int}
theorem r_eqD (hx : Dp K H x d) (hy : Dp K H y e) (sx : SeqAt.shaped d = true) (sy : SeqAt.shaped e = true) (h : Q (.bl (PyData.eqv d e)) H) : rEqD K x y H Q := ⟨d, e, hx, hy, sx, sy, h⟩
theorem r_neD (hx : Dp K H x d) (hy : Dp K H y e) (sx : SeqAt.shaped d = true) (sy : SeqAt.shaped e = true) (h : Q (.bl (!PyData.eqv d e)) H) : rNeD K x y H Q := ⟨d, e, hx, hy, sx, sy, h⟩
theorem r_rep (hl : H l = some (.lst xs)) (k0 : 0 ≤ k) (k1 : k ≤ 100000) (n : xs.length ≤ 100) (h : ∀ p, H p = none → Q (.ref p) (upd H p (.lst (List.replicate k.toNat xs).flatten))) : rRep (.ref l) (.int k) H Q :=
  ⟨l, k, xs, rfl, rfl, hl, by omega, by omega, by
    have : xs.length * k.toNat ≤ 100 * 100000 := Nat.mul_le_mul n (by omega)
    exact Nat.le_trans this (by decide), h⟩
theorem r_tupleL (hl : SqL K H p xs) (h : ∀ q, H q = none → Q (.ref q) (upd H q (.tup xs))) :
    ∃ p' ys, [V.ref p] = [.ref p'] ∧ ((SqL K H p' ys ∧ ∀ q, H q = none → Q (.ref q) (upd H q (.tup ys))) ∨ (SqT K H p' ys ∧ Q (.ref p') H)) := ⟨p, xs, rfl, .inl ⟨hl, h⟩⟩
theorem r_lenL (hl : SqL K H p xs) (h : Q (.int xs.length) H) : ∃ p' ys, [V.ref p] = [.ref p'] ∧ (SqL K H p' ys ∨ SqT K H p' ys) ∧ Q (.int ys.length) H := ⟨p, xs, rfl, .inl hl, h⟩
theorem r_lenT (hl : SqT K H p xs) (h : Q (.int xs.length) H) : ∃ p' ys, [V.ref p] = [.ref p'] ∧ (SqL K H p' ys ∨ SqT K H p' ys) ∧ Q (.int ys.length) H := ⟨p, xs, rfl, .inr hl, h⟩
theorem r_gSub {to ti : TE} {t : TSet} {v : V} {σ : L2.St} {R : L2.St → Hp → Prop} (h : to σ H fun o H1 => ti σ H1 fun i H2 => t o i v H2 fun H3 => R σ H3) : gSub to ti t v σ H R := h
theorem ixN_nat {n j : Nat} (h : j < n) : ixN n (j : Int) = some j := by
  unfold ixN
  rw [if_pos (by omega), if_pos (by omega)]
  simp
theorem r_setL {v : V} {j : Nat} {R : Hp → Prop} (hl : H l = some (.lst xs)) (hj : j < xs.length) (h : R (upd H l (.lst (xs.set j v)))) : rSetL (.ref l) (.int (j : Int)) v H R :=
  ⟨l, xs, j, j, rfl, rfl, hl, ixN_nat hj, h⟩
end
end Gd

/-! ## Way2 -/
set_option maxHeartbeats 4000000
/-! Comprehensions over a text; slices of lists. -/
namespace Gd
open PySem PySem.Spec PyProof.Rows L2
section
variable {K : Frg} {R : Hp → Hp → Prop} {H : Hp} {σ : L2.St} {vs : List Nat} {g : TG} {te ta : TE} {Q : VK} {P : Nat → V → Hp → Prop} {x : Str}
def mS (g : TG) (te : TE) (vs : List Nat) (v : V) (σ : L2.St) (H : Hp) (Q : VK) : Prop := tLc (iStr fun _ H' k => k v H') g tYes te vs σ H Q
theorem r_lcS (h : ta σ H fun v H1 => mS g te vs v σ H1 Q) : tLc (iStr ta) g tYes te vs σ H Q := h
theorem lcS (W : Way R) (r0 : R H H) (hn : x.length ≤ 100000) (mono : ∀ i v, Mono (P i v))
    (step : ∀ (i : Nat) c H1, x.cps.toList[i]? = some c → R H H1 → ∀ Qe : VK, (∀ y H3, R H1 H3 → P i y H3 → Qe y H3) → g (.str ⟨#[c]⟩) (wipe σ vs) H1 fun σ2 H2 => wipe σ2 vs = wipe σ vs ∧ te σ2 H2 Qe)
    (fin : ∀ D H' ys, H D = none → R H H' → H' D = some (.lst ys) → ys.length = x.cps.toList.length → (∀ i y, ys[i]? = some y → P i y H') → Q (.ref D) H') :
    mS g te vs (.str x) σ H Q := by
  have hlen : x.cps.size = x.cps.toList.length := rfl
  have hn : x.cps.size ≤ 100000 := hn
  refine ⟨x, rfl, fun D hD => ?_⟩
  refine ⟨fun i m H' => m = x.cps.size - i ∧ i ≤ x.cps.size ∧ Made R P H D i H', ⟨x.cps.size, by simp, Nat.zero_le _, Made.start W r0 hD⟩, ?_⟩
  rintro i m H1 ⟨rfl, hi, M⟩
  by_cases hlt : i < x.cps.size
  · refine .inr ⟨hlt, Made R P H D (i + 1), fun H' p' => ⟨x.cps.size - (i + 1), by omega, rfl, hlt, p'⟩, fun v H' y => ?_⟩
    obtain ⟨e, c, hc, rfl⟩ := y
    subst e
    have s := step i c H' (by rw [Array.getElem?_toList]; exact hc) M.choose_spec.1 _ fun y H3 r3 p3 => Made.turn W mono hD (by omega) M r3 p3
    simp only [tYes, ↓reduceIte]
    exact s
  · have e : i = x.cps.size := by omega
    subst e
    obtain ⟨ys, r, hy, hl, hp⟩ := M
    exact .inl ⟨Nat.le_refl _, fin D H1 ys hD r hy hl hp⟩
end
section
variable {K : Frg} {H : Hp} {Q : VK} {a : Addr} {xs : List V} {lo hi : Option Int} {r : V → Option Int → Option Int → Hp → VK → Prop} {te : TE} {tl th : TO} {σ : L2.St} {R : Option Int → Hp → Prop} {i : Int}
theorem r_slL (hx : SqL K H a xs) (h : ∀ p, H p = none → Q (.ref p) (upd H p (.lst (cutV xs lo hi)))) : rSlL K (.ref a) lo hi H Q := ⟨a, xs, rfl, hx, h⟩
theorem r_partE (h : te σ H fun x H1 => ∃ i, x = .int i ∧ R (some i) H1) : tPart te σ H R := h
end
end Gd

/-! ## Way3 -/
set_option maxHeartbeats 4000000
/-! Loops over enumerate; data of tuples along anything that keeps tuples. -/
namespace Gd
open PySem PySem.Spec PyProof.Rows L2
section
variable {K : Frg} {σ : L2.St} {H : Hp} {g : TG} {tb : TS} {D : Ends} {t : TA} {a : Addr} {xs : List V}
def fE (K : Frg) (g : TG) (tb : TS) (ws : List V) (D : Ends) (σ : L2.St) (H : Hp) : Prop := tFor (iEnum K fun _ H' k => k ws H') g tb D σ H
theorem r_forE (h : t σ H fun ws H1 => fE K g tb ws D σ H1) : tFor (iEnum K t) g tb D σ H := h
theorem forE (Pv : Nat → L2.St → Hp → Prop) (hs : SqL K H a xs) (h0 : Pv 0 σ H) (stays : ∀ i σ' H', i ≤ xs.length → Pv i σ' H' → SqL K H' a xs)
    (turn : ∀ (i : Nat) x σ' H' T, xs[i]? = some x → Pv i σ' H' → H' T = none → g (.ref T) σ' (upd H' T (.tup [.int (i : Int), x])) fun σ2 H2 => tb { D with nx := Pv (i + 1), ct := Pv (i + 1), bk := D.nx } σ2 H2)
    (done : ∀ σ' H', Pv xs.length σ' H' → D.nx σ' H') : fE K g tb [.ref a] D σ H := by
  refine ⟨a, xs, rfl, hs, ?_⟩
  refine ⟨fun i m σ H => m = xs.length - i ∧ i ≤ xs.length ∧ Pv i σ H, ⟨xs.length, by simp, Nat.zero_le _, h0⟩, ?_⟩
  rintro i m σ H ⟨rfl, hi, p⟩
  have q := stays i σ H hi p
  by_cases hlt : i < xs.length
  · refine .inr ⟨⟨xs, xs[i], q, by simp [hlt]⟩, Pv (i + 1), fun σ' H' p' => ⟨xs.length - (i + 1), by omega, rfl, hlt, p'⟩, fun x H' y => ?_⟩
    obtain ⟨T, x, rfl, hT, rfl, y⟩ := y
    exact turn i x σ H T (y xs q) p hT
  · have e : i = xs.length := by omega
    subst e
    exact .inl ⟨⟨xs, q, Nat.le_refl _⟩, done σ H p⟩
end
section
variable {K : Frg} {H H' : Hp}
mutual
theorem Dp.ts (e : ∀ a xs, SqT K H a xs → SqT K H' a xs) : ∀ (d : PyData) (v : V), flatD d = true → Dp K H v d → Dp K H' v d
  | .none, _, _, h => by cases h; exact .non
  | .bool b, _, _, h => by cases h; exact .bl b
  | .int i, _, _, h => by cases h; exact .int i
  | .str x, _, _, h => by cases h; exact .str x
  | .list _, _, f, _ => by simp [flatD] at f
  | .dict _, _, f, _ => by simp [flatD] at f
  | .tuple ds, _, f, h => by
    cases h with
    | tup h1 h2 => exact .tup (e _ _ h1) (DpAll.ts e ds _ (by simpa only [flatD] using f) h2)
theorem DpAll.ts (e : ∀ a xs, SqT K H a xs → SqT K H' a xs) : ∀ (ds : List PyData) (vs : List V), flatDs ds = true → DpAll K H vs ds → DpAll K H' vs ds
  | [], _, _, h => by cases h; exact .nil
  | d :: ds, _, f, h => by
    cases h with
    | cons h1 h2 =>
      simp only [flatDs, Bool.and_eq_true] at f
      exact .cons (Dp.ts e d _ f.1 h1) (DpAll.ts e ds _ f.2 h2)
end
end
section
variable {K : Frg} {σ : L2.St} {H : Hp} {Q : VK} {t tk : TA} {ta : TE} {C : Addr} {n m : Nat} {sp : Sp} {gV : List V → List V → List V} {E : XK} {dvs : List V} {f : Str}
theorem r_makeK (h : t σ H fun vs H1 => tk σ H1 fun zs H2 => vs.length = n ∧ zs.length = m ∧ ∀ x dx, H2 x = none → H2 dx = none → dx ≠ x →
  sp (gV (.ref x :: vs) zs) (upd (upd H2 dx (.own x)) x (.ins C dx [])) (fun v H3 => v = .non ∧ Q (.ref x) H3) E) : tMakeK C n m sp gV E t tk σ H Q := h
theorem r_make (h : t σ H fun vs H1 => ∀ x dx, H1 x = none → H1 dx = none → dx ≠ x →
  sp (.ref x :: (vs ++ dvs)) (upd (upd H1 dx (.own x)) x (.ins C dx [])) (fun v H2 => v = .non ∧ Q (.ref x) H2) E) : tMake C sp dvs E t σ H Q := h
theorem r_fld (h : ta σ H fun x H1 => ∃ a C dx fs v, x = .ref a ∧ H1 a = some (.ins C dx fs) ∧ Cls K C ∧ NoAttr K C f ∧ fs.lookup f = some v ∧ Q v H1) : tFld K ta f σ H Q := h
theorem r_prop (h : ta σ H fun x H1 => ∃ a dx fs, x = .ref a ∧ H1 a = some (.ins C dx fs) ∧ sp (.ref a :: dvs) H1 Q E) : L2.tProp C sp dvs E ta σ H Q := h
theorem r_meth {mm : Str} (h : ta σ H fun x H1 => ∃ a dx fs, x = .ref a ∧ H1 a = some (.ins C dx fs) ∧ fs.lookup mm = none ∧ t σ H1 fun vs H2 => sp (x :: (vs ++ dvs)) H2 Q E) : tMeth C mm sp dvs E ta t σ H Q := h
end
end Gd

/-! ## Own -/
set_option maxHeartbeats 4000000
/-! for x in o, o's own __iter__ giving iter(t), t a tuple. -/
namespace Gd
open PySem PySem.Spec PyProof.Rows L2
/-- the object that walks over the tuple at t -/
abbrev walkT (t : Addr) : Obj := { cls := .type "tuple_iterator", data := .fields #[.ref t, .int 0 0] }
def ItT (t it : Addr) : HO := .ext fun h => h.get? it = some (walkT t)
section
variable {prog : Program} {w : World} {A : Around} {E : Value → Shared → Prop} {s : Shared} {t : Addr} {items : Array Value}
open Builtin in
theorem iter_tuple {Q : Value → Shared → Prop} (ht : s.heap.IsTuple t items) (h : Q (.ref s.heap.objs.size) { s with heap := s.heap.push (walkT t) }) :
    wpAny (model prog w) A (call (.builtin "iter") [.ref t]) Q E s := by
  refine Calls.call_function_entry (by decide +kernel) (by decide +kernel) PySem.W.kdk_entry_iter (PySem.W.kdk_args_iter _) ?_
  unfold Builtin.«iter»
  refine wpAny_bind (m := someArgs "iter" 1 2 _) (wpAny_of_eq (a := [Value.ref t]) (by first | rfl | kernel_rfl!) ?_)
  show wpAny _ _ (pyIter (.ref t) >>= _) _ _ _
  exact wpAny_bind (wpAny_pyIter_tuple ht (wpAny_pure ⟨_, rfl, h⟩))
end
theorem itT_ok {P : Program} {w : World} {H : Hp} {h : Heap} {t it : Addr} (e : h.get? it = some (walkT t)) : ObjOk P w H h it (ItT t it) := ⟨e, ⟨_, e⟩, fun h1 h2 q k => k _ q⟩
/-- iter(t): a new walk -/
def rIterT (K : Frg) (n : Nat) : List V → Hp → VK → Prop := fun xs H Q => ∃ (t : Addr) (zs : List V), xs = [.ref t] ∧ SqT K H t zs ∧ ∀ it, H it = none → n ≤ it → Q (.ref it) (upd H it (ItT t it))
theorem call_iterT {X : Cx} : CallR X (.builtin "iter") (rIterT X.K X.s_0.heap.objs.size) := by
  intro pins s σ H xs us Q I r h
  obtain ⟨t, zs, rfl, ht, q⟩ := h
  obtain ⟨u, rfl, ru⟩ := vals1 r
  cases ru
  obtain ⟨its, rv, pl, hz⟩ := I.tuple ht
  refine iter_tuple pl ?_
  exact ⟨.ref s.heap.objs.size, _, I.laid (t' := s.toks) (fun b u e => Heap.get?_push_of_some _ e) (Nat.le_refl _) (itT_ok (Heap.get?_push_size _ rfl)), rfl, q _ (I.hok.fresh (Nat.le_refl _)) I.sz⟩
/-! ### defs whose promise knows how great the heap is at the call -/
section
variable {P : Program} {w : World} {K : Frg} {mg : Str → Option Value} {base : Heap}
structure FnS (P : Program) (w : World) (K : Frg) (mg : Str → Option Value) (base : Heap) (k : Nat) (f : Addr) (fd : FuncData) (ps : List Str) (sp : Nat → Sp) : Prop where
  many : ∀ n vs H Q E, sp n vs H Q E → vs.length = ps.length
  goes : ∀ (A : Around) (outer : List Env) (s : Shared) (H : Hp) (args : Args) (us : List Value) (vs : List V) (Q : VK),
    Room k A → Env0 P w K mg base A outer s H → BindsTo s fd args (ps.zip us) → Vals vs us → sp s.heap.objs.size vs H Q E0 →
    codeAny (model P w) A (.call (.ref f) args) (CR CX0 outer P w H s Q E0) s
theorem fnS_of {k : Nat} {f : Addr} {x qual : Str} {params : Arguments} {body : List Stmt} {scope : Scope} {dvs : List V} {kws : List (Str × V)} {fd : FuncData} {N ps : List Str} {sp : Nat → Sp}
    (F : FunD K x qual params body scope dvs kws f fd) (S : FnScope N ps scope) (many : ∀ n vs H Q E, sp n vs H Q E → vs.length = ps.length)
    (hbody : ∀ (cdv : Value) (A : Around) (outer : List Env) (s : Shared) (H : Hp) (vs : List V) (Q : VK),
      Room k (A.deeper (envOfC qual scope s.heap.objs.size f cdv)) → sp s.heap.objs.size vs H Q E0 →
      ∃ t, PSs (cxOf CX0 P w K mg base N qual scope f cdv A outer s H E0).nox body t ∧ t { nx := fun _ H' => Q .non H', rt := Q } (start N vs) H) :
    FnS P w K mg base (k + 1) f fd ps sp := by
  refine ⟨many, fun A outer s H args us vs Q hr e0 hb r hsp => ?_⟩
  obtain ⟨oc, od, dV, kV, doc, pm, an, cdv, ct, osl, rfl, lk, hcd, _, _⟩ := F.ex
  have many' := many _ _ _ _ _ hsp
  have stays : ∀ b o, base.get? b = some o → s.heap.get? b = some o := fun b o e => (e0.bs b o e).1
  have inK := e0.mod.kin.keeps stays
  have free := e0.mod.nolimit.keeps stays
  have kinds : ∀ q ∈ ps.zip us, scope.names.lookup q.1 = some .local ∨
      (scope.names.lookup q.1 = some .cell ∧ ((cellsFrom (s.heap.objs.size + 1) scope.names []).lookup q.1).isSome = true) := by
    rintro ⟨n, v⟩ hq
    cases S.par n (List.of_mem_zip hq).1 with
    | inl l => exact Or.inl l
    | inr c => exact Or.inr ⟨c, PySem.W.cellsFrom_some _ _ _ (Or.inl c)⟩
  refine codeAny_call_function hr.depth (inK _ _ lk) rfl S.co S.gen rfl
    (PySem.W.codeRec_of inK hcd) (hb _ _ _ _ ?_)
  refine wpAny_newFunctionEnv_cells S.kind kinds fun env made s1 entered => ?_
  subst made
  refine ⟨free.keeps entered.toInCall.keep, codeAny_func ?_⟩
  obtain ⟨t, runs, reads⟩ := hbody cdv A outer s H vs Q (hr.deeper _) hsp
  have I : Inv (cxOf CX0 P w K mg base N qual scope f cdv A outer s H E0) [] (start N vs) H s1 :=
    inv_start S hr.hd e0 many' r entered
  refine wpAny_mono (runs.nox.run [] s1 (start N vs) H _ I reads) (fun fl s' ends => ?_)
    fun _ _ z => z
  cases fl with
  | ret u =>
    obtain ⟨v, _, H', J, rv, q⟩ := ends
    exact ⟨v, H', J.os, J.bare, J.base, J.hok, rv, q⟩
  | next =>
    obtain ⟨_, H', J, q⟩ := ends
    exact ⟨V.non, H', J.os, J.bare, J.base, J.hok, rfl, q⟩
  | brk => obtain ⟨_, _, _, z⟩ := ends; exact z.elim
  | cont => obtain ⟨_, _, _, z⟩ := ends; exact z.elim
/-- an own __iter__ that gives a walk over a tuple -/
def spOwnIt (D : Addr → Addr → Hp → Prop) (n : Nat) : Sp := fun vs H Q _ => ∃ c t, vs = [.ref c] ∧ D c t H ∧ ∀ it, H it = none → n ≤ it → Q (.ref it) (upd H it (ItT t it))
def OkS (P : Program) (w : World) (K : Frg) (mg : Str → Option Value) (base : Heap) (k : Nat) (f : Addr) (ps : List Str) (sp : Nat → Sp) : Prop := ∃ fd, FnS P w K mg base k f fd ps sp ∧ Binds K fd ps []
end
def iOwn (K : Frg) (C : Addr) (D : Addr → Addr → Hp → Prop) (te : TE) : TI := fun σ H R => te σ H fun v H1 => ∃ (c dx : Addr) (fs : List (Str × V)) (t : Addr), v = .ref c ∧ H1 c = some (.ins C dx fs) ∧ D c t H1 ∧ R (Itt K t) H1
theorem pi_own {X : Cx} {tg e : Expr} {te : TE} {C f : Addr} {k m : Nat} {ps : List Str} {D : Addr → Addr → Hp → Prop} (he : PE X e te) (hm : Meth X.K C "__iter__" f)
    (F : OkS X.prog X.w X.K X.mg X.base k f ps (spOwnIt D)) (hr : Room m X.A) (hk : k ≤ m := by decide) : PI X tg e (iOwn X.K C D te) := by
  obtain ⟨fd, F, b⟩ := F
  refine ⟨fun pins s σ H R I h => ?_⟩
  refine thn (he.run pins s σ H _ I h) fun u s1 ⟨v, H1, I1, r1, c, dx, fs, t, ev, hc, hD, q⟩ => ?_
  subst ev
  cases r1
  obtain ⟨mA, J, _⟩ := ins_get I1.hok hc
  obtain ⟨od, J, _⟩ := J.look
  obtain ⟨m0, hF⟩ := I1.fr
  refine PySem.W.owit_iter hF I1.ok.mod.kin J hm.at_ hm.fn ?_
  have hsp : spOwnIt D s1.heap.objs.size [.ref c] H1 (fun v H2 => ∃ it, v = .ref it ∧ H1 it = none ∧ s1.heap.objs.size ≤ it ∧ H2 = upd H1 it (ItT t it)) E0 :=
    ⟨c, t, rfl, hD, fun it h1 h2 => ⟨it, rfl, h1, h2, rfl⟩⟩
  have hl := F.many _ _ _ _ _ hsp
  have r2 : Vals [V.ref c] [Value.ref c] := .cons rfl .nil
  refine wpAny_call (codeAny_mono (F.goes X.A X.stack s1 H1 ⟨[.ref c], []⟩ [.ref c] [.ref c] _ (hr.mono hk) I1.env0 (by
    have := b s1 [.ref c] I1.kIn (by simpa using hl)
    simpa using this) r2 hsp) fun r s' hq' => ?_)
  match r, hq' with
  | .error er, hq => exact False.elim hq
  | .ok (.ret u), hq =>
    obtain ⟨v, H', I2, rv, it, ev, hn, hle, eH⟩ := I1.after hq
    subst ev eH
    cases rv
    have eo : s'.heap.get? it = some (walkT t) := (I2.hok it _ upd_same).1
    have hT : s'.TypeIs (.ref it) "tuple_iterator" := ⟨_, eo, rfl⟩
    unfold PySem.W.OwitIt
    refine wpAny_specialOf (name := Str.ofString "__next__") hT PySem.F.slot_tuple_iterator_next.lookup ?_
    have st : s'.heap.IsTupleIter it t 0 := ⟨_, eo, rfl, rfl⟩
    have I3 := ItX.inv_drop I2 (φ := fun h => h.get? it = some (walkT t)) upd_same
    have e1 : ItX.dropH (upd H1 it (ItT t it)) it = H1 := ItX.dropH_upd hn
    have fp := ItX.inv_fp I2 (upd_same : upd H1 it (ItT t it) it = _) (Nat.le_trans I1.sz hle)
    rw [e1] at fp
    refine ⟨it, [it], _, _, H1, rfl, e1 ▸ I3, turn_tuple t it, st, fun b hb => ?_, q⟩
    have e : b = it := by simpa using hb
    rw [e]
    exact fp
section
variable {K : Frg} {C : Addr} {D : Addr → Addr → Hp → Prop} {k : Nat} {g : TG} {tb : TS} {te : TE} {E : Ends} {vs : List Nat} {σ : L2.St} {H : Hp} {Q : VK} {c dx t : Addr} {fs : List (Str × V)}
theorem r_forO (e : σ[k]? = some (some (.ref c))) (hc : H c = some (.ins C dx fs)) (hD : D c t H) (h : fT K g tb (.ref t) E σ H) : tFor (iOwn K C D (tVar k)) g tb E σ H := by
  obtain ⟨a, e2, _, q⟩ := h
  cases e2
  exact ⟨_, e, c, dx, fs, t, rfl, hc, hD, q⟩
theorem r_lcO (e : σ[k]? = some (some (.ref c))) (hc : H c = some (.ins C dx fs)) (hD : D c t H) (h : mT K g te vs (.ref t) σ H Q) : tLc (iOwn K C D (tVar k)) g tYes te vs σ H Q := by
  obtain ⟨a, e2, _, q⟩ := h
  cases e2
  exact ⟨_, e, c, dx, fs, t, rfl, hc, hD, q⟩
end
section
variable {t : TE} {ts : List TE} {acc : Str} {σ : L2.St} {H : Hp} {Q : Str → Hp → Prop} {te : TE} {QV : VK}
theorem r_js (h : t σ H fun x H1 => ∃ y : Str, x = .str y ∧ (acc ++ y).length ≤ sizeLine ∧ tJs ts (acc ++ y) σ H1 Q) : tJs (t :: ts) acc σ H Q := h
theorem r_jn (h : Q acc H) : tJs [] acc σ H Q := h
theorem r_fmt (h : te σ H fun x H1 => (∃ y : Str, x = .str y ∧ y.length ≤ sizeLine ∧ QV (.str y) H1) ∨ ∃ i : Int, x = .int i ∧ i.natAbs.log2 < 1920 ∧ QV (.str (toString i)) H1) : tFmt te σ H QV := h
end
end Gd

/-! ## Bag -/
set_option maxHeartbeats 4000000
/-! The bag that all draws come from. -/
namespace Tx
open PySem PySem.Spec PyProof.Rows L2 Gd
local macro_rules | `(tactic| walk_at "rd1") => `(tactic| first
  | ((with_reducible show tVar _ _ _ _); refine r_var (by rfl) ?_)
  | with_reducible refine r_c ?_
  | with_reducible refine r_seq ?_
  | with_reducible refine r_asg ?_
  | with_reducible refine r_name ?_
  | with_reducible refine r_op ?_
  | with_reducible refine r_I0 ?_
  | with_reducible refine r_cons ?_
  | with_reducible refine r_nil ?_
  | with_reducible refine r_call ?_
  | with_reducible refine r_ret ?_
  | with_reducible refine r_cb ?_
  | with_reducible refine r_ifS ?_
  | with_reducible refine r_test ?_
  | with_reducible refine r_bl ?_
  | with_reducible refine r_dget ?_
  | with_reducible refine r_dput ?_
  | ((with_reducible show (∃ k, [V.int _] = [V.int k] ∧ _) ∨ _); refine Or.inl ⟨_, rfl, ?_⟩)
  | with_reducible refine r_lcR ?_
  | with_reducible refine r_lcL ?_
  | with_reducible refine r_lcT ?_
  | with_reducible refine r_m1 ?_
  | with_reducible refine r_gSub ?_
  | with_reducible refine r_forR ?_
  | with_reducible refine r_forL ?_
  | with_reducible refine r_forT ?_
  | with_reducible refine r_bm ?_
  | with_reducible refine r_next ?_
  | with_reducible refine r_B ?_
  | with_reducible refine r_not ?_
  | with_reducible refine r_and ?_
  | with_reducible refine r_or ?_
  | with_reducible refine r_andV ?_
  | with_reducible refine r_orV ?_
  | with_reducible refine r_notV ?_
  | with_reducible refine r_ifE ?_
  | with_reducible refine r_drop ?_
  | with_reducible refine r_tup ?_
  | with_reducible refine r_lst ?_
  | with_reducible refine r_un ?_
  | with_reducible refine r_U ?_)
local macro_rules | `(tactic| walk_at "rd") => `(tactic| repeat walk_at "rd1")
abbrev kc : Key := .inr "cells"
abbrev ka : Key := .inr "at"
abbrev kr : Key := .inr "rest"
abbrev km : Key := .inr "mixed"
abbrev kn : Key := .inr "count"
def bagL (c : Addr) (a r m n : Int) : List (Key × V) := [(kc, .ref c), (ka, .int a), (kr, .int r), (km, .int m), (kn, .int n)]
theorem valV_cons {k k' : Key} {v : V} {l : List (Key × V)} : valV ((k', v) :: l) k = if k' = k then some v else valV l k := by
  unfold valV
  rw [List.find?_cons]
  by_cases h : k' = k
  · rw [if_pos h]; simp [h]
  · rw [if_neg h]; simp [h]
theorem n_ca : kc ≠ ka := by decide +kernel
theorem n_cr : kc ≠ kr := by decide +kernel
theorem n_cm : kc ≠ km := by decide +kernel
theorem n_cn : kc ≠ kn := by decide +kernel
theorem n_ar : ka ≠ kr := by decide +kernel
theorem n_am : ka ≠ km := by decide +kernel
theorem n_an : ka ≠ kn := by decide +kernel
theorem n_rm : kr ≠ km := by decide +kernel
theorem n_rn : kr ≠ kn := by decide +kernel
theorem n_mn : km ≠ kn := by decide +kernel
theorem s_ca : ¬ Str.ofString "cells" = Str.ofString "at" := by decide +kernel
theorem s_cr : ¬ Str.ofString "cells" = Str.ofString "rest" := by decide +kernel
theorem s_cm : ¬ Str.ofString "cells" = Str.ofString "mixed" := by decide +kernel
theorem s_cn : ¬ Str.ofString "cells" = Str.ofString "count" := by decide +kernel
theorem s_ac : ¬ Str.ofString "at" = Str.ofString "cells" := by decide +kernel
theorem s_ar : ¬ Str.ofString "at" = Str.ofString "rest" := by decide +kernel
theorem s_am : ¬ Str.ofString "at" = Str.ofString "mixed" := by decide +kernel
theorem s_an : ¬ Str.ofString "at" = Str.ofString "count" := by decide +kernel
theorem s_rc : ¬ Str.ofString "rest" = Str.ofString "cells" := by decide +kernel
theorem s_ra : ¬ Str.ofString "rest" = Str.ofString "at" := by decide +kernel
theorem s_rm : ¬ Str.ofString "rest" = Str.ofString "mixed" := by decide +kernel
theorem s_rn : ¬ Str.ofString "rest" = Str.ofString "count" := by decide +kernel
theorem s_mc : ¬ Str.ofString "mixed" = Str.ofString "cells" := by decide +kernel
theorem s_ma : ¬ Str.ofString "mixed" = Str.ofString "at" := by decide +kernel
theorem s_mr : ¬ Str.ofString "mixed" = Str.ofString "rest" := by decide +kernel
theorem s_mn : ¬ Str.ofString "mixed" = Str.ofString "count" := by decide +kernel
theorem s_nc : ¬ Str.ofString "count" = Str.ofString "cells" := by decide +kernel
theorem s_na : ¬ Str.ofString "count" = Str.ofString "at" := by decide +kernel
theorem s_nr : ¬ Str.ofString "count" = Str.ofString "rest" := by decide +kernel
theorem s_nm : ¬ Str.ofString "count" = Str.ofString "mixed" := by decide +kernel
section
variable {c : Addr} {a r m n : Int} {K : Frg} {H H' : Hp} {b : Addr}
theorem get_c : valV (bagL c a r m n) kc = some (.ref c) := by unfold bagL; rw [valV_cons, if_pos rfl]
theorem get_a : valV (bagL c a r m n) ka = some (.int a) := by unfold bagL; rw [valV_cons, if_neg n_ca, valV_cons, if_pos rfl]
theorem get_r : valV (bagL c a r m n) kr = some (.int r) := by unfold bagL; rw [valV_cons, if_neg n_cr, valV_cons, if_neg n_ar, valV_cons, if_pos rfl]
theorem get_m : valV (bagL c a r m n) km = some (.int m) := by unfold bagL; rw [valV_cons, if_neg n_cm, valV_cons, if_neg n_am, valV_cons, if_neg n_rm, valV_cons, if_pos rfl]
theorem get_n : valV (bagL c a r m n) kn = some (.int n) := by unfold bagL; rw [valV_cons, if_neg n_cn, valV_cons, if_neg n_an, valV_cons, if_neg n_rn, valV_cons, if_neg n_mn, valV_cons, if_pos rfl]
theorem put_a {y : Int} : putK (bagL c a r m n) ka (.int y) = bagL c y r m n := by
  simp [putK, bagL, s_ca, s_cr, s_cm, s_cn, s_ac, s_ar, s_am, s_an, s_rc, s_ra, s_rm, s_rn, s_mc, s_ma, s_mr, s_mn, s_nc, s_na, s_nr, s_nm]
theorem put_r {y : Int} : putK (bagL c a r m n) kr (.int y) = bagL c a y m n := by
  simp [putK, bagL, s_ca, s_cr, s_cm, s_cn, s_ac, s_ar, s_am, s_an, s_rc, s_ra, s_rm, s_rn, s_mc, s_ma, s_mr, s_mn, s_nc, s_na, s_nr, s_nm]
theorem put_m {y : Int} : putK (bagL c a r m n) km (.int y) = bagL c a r y n := by
  simp [putK, bagL, s_ca, s_cr, s_cm, s_cn, s_ac, s_ar, s_am, s_an, s_rc, s_ra, s_rm, s_rn, s_mc, s_ma, s_mr, s_mn, s_nc, s_na, s_nr, s_nm]
theorem put_n {y : Int} : putK (bagL c a r m n) kn (.int y) = bagL c a r m y := by
  simp [putK, bagL, s_ca, s_cr, s_cm, s_cn, s_ac, s_ar, s_am, s_an, s_rc, s_ra, s_rm, s_rn, s_mc, s_ma, s_mr, s_mn, s_nc, s_na, s_nr, s_nm]
end
/-- a bag: where it stands, where its cells stand, and these -/
structure Bag where
  b : Addr
  c : Addr
  cs : List Int
/-- the bag stands there -/
structure BagAt (K : Frg) (β : Bag) (H : Hp) : Prop where
  ex : ∃ (a r m n : Int), H β.b = some (.dK (bagL β.c a r m n)) ∧ 0 ≤ a
  cells : SqL K H β.c (β.cs.map V.int)
/-- all but the bag is as it was -/
structure Bg (K : Frg) (β : Bag) (H H' : Hp) : Prop where
  old : BagAt K β H
  bag : BagAt K β H'
  keep : ∀ a o, a ≠ β.b → H a = some o → H' a = some o
section
variable {K : Frg} {H H' H'' : Hp} {β : Bag}
theorem Rd.keep {b a : Addr} {u : HO} (k : ∀ a o, a ≠ b → H a = some o → H' a = some o) (h : Rd H a u) (hne : a ≠ b) : Rd H' a u := by
  rcases h with h | ⟨o, h⟩
  · exact .inl (k a _ hne h)
  · exact .inr ⟨o, k a _ hne h⟩
theorem bag_dK (h : BagAt K β H) : ∃ kvs, H β.b = some (.dK kvs) := by
  obtain ⟨x, r, m, n, e', _⟩ := h.ex
  exact ⟨_, e'⟩
theorem Bg.seq (e : Bg K β H H') {a : Addr} {xs : List V} (h : SqL K H a xs) : SqL K H' a xs := by
  obtain ⟨kvs, hb⟩ := bag_dK e.old
  rcases h with h | h
  · refine .inl (Rd.keep e.keep h ?_)
    rintro rfl
    rcases h with h | ⟨o, h⟩ <;> (rw [hb] at h; cases h)
  · exact .inr h
theorem Bg.tup (e : Bg K β H H') {a : Addr} {xs : List V} (h : SqT K H a xs) : SqT K H' a xs := by
  obtain ⟨kvs, hb⟩ := bag_dK e.old
  rcases h with h | h
  · refine .inl (Rd.keep e.keep h ?_)
    rintro rfl
    rcases h with h | ⟨o, h⟩ <;> (rw [hb] at h; cases h)
  · exact .inr h
theorem Bg.at_ (e : Bg K β H H') {a : Addr} {o : HO} (h : H a = some o) (n : ∀ kvs, o ≠ .dK kvs) : H' a = some o := by
  obtain ⟨kvs, hb⟩ := bag_dK e.old
  refine e.keep a o ?_ h
  rintro rfl
  rw [hb] at h
  exact n kvs (Option.some.inj h).symm
theorem Bg.refl (h : BagAt K β H) : Bg K β H H := ⟨h, h, fun _ _ _ e => e⟩
theorem Bg.trans (x : Bg K β H H') (y : Bg K β H' H'') : Bg K β H H'' := ⟨x.old, y.bag, fun a o hne e => y.keep a o hne (x.keep a o hne e)⟩
theorem BagAt.same (h : BagAt K β H) (k : Same H H') : BagAt K β H' := by
  obtain ⟨a, r, m, n, e, z⟩ := h.ex
  exact ⟨⟨a, r, m, n, k _ _ e, z⟩, Same.seq k h.cells⟩
theorem Bg.same (h : BagAt K β H) (k : Same H H') : Bg K β H H' := ⟨h, h.same k, fun a o _ e => k a o e⟩
theorem Same.upd {p : Addr} {o : HO} (h : H p = none) : Same H (L2.upd H p o) := fun a u e => by rw [upd_ne (ne_of_none e h)]; exact e
theorem Bg.new {p : Addr} {o : HO} (h : BagAt K β H) (n : H p = none) : Bg K β H (L2.upd H p o) := Bg.same h (Same.upd n)
/-- a thing that was not there at the start is changed -/
theorem Bg.mut {p : Addr} {o : HO} (e : Bg K β H H') (n : H p = none) : Bg K β H (L2.upd H' p o) := by
  obtain ⟨a, r, m, k, e1, z⟩ := e.bag.ex
  obtain ⟨kvs, hb⟩ := bag_dK e.old
  refine ⟨e.old, ⟨⟨a, r, m, k, ?_, z⟩, ?_⟩, fun x u hne h => ?_⟩
  · rw [upd_ne (ne_of_none hb n)]; exact e1
  · rcases e.old.cells with h | h
    · have hc : ∃ u, H β.c = some u := by rcases h with h | ⟨_, h⟩ <;> exact ⟨_, h⟩
      obtain ⟨u, hu⟩ := hc
      have hcp := ne_of_none hu n
      rcases e.bag.cells with q | q
      · refine .inl ?_
        rcases q with q | ⟨o', q⟩
        · exact .inl (by rw [upd_ne hcp]; exact q)
        · exact .inr ⟨o', by rw [upd_ne hcp]; exact q⟩
      · exact .inr q
    · exact .inr h
  · rw [upd_ne (ne_of_none h n)]
    exact e.keep x u hne h
theorem Bg.none (e : Bg K β H H') {p : Addr} (n : H' p = Option.none) : H p = Option.none := by
  cases q : H p with
  | none => rfl
  | some u =>
    by_cases h : p = β.b
    · subst h
      obtain ⟨kvs, hb⟩ := bag_dK e.bag
      rw [n] at hb; cases hb
    · rw [e.keep p u h q] at n; cases n
/-- the bag's own dict is changed -/
theorem Bg.put {a r m n a' r' m' n' : Int} (h : BagAt K β H) (e : H β.b = some (.dK (bagL β.c a r m n))) (z : 0 ≤ a') : Bg K β H (L2.upd H β.b (.dK (bagL β.c a' r' m' n'))) := by
  have keep : ∀ x o, x ≠ β.b → H x = some o → L2.upd H β.b (.dK (bagL β.c a' r' m' n')) x = some o := fun x o hne q => by rw [upd_ne hne]; exact q
  refine ⟨h, ⟨⟨a', r', m', n', upd_same, z⟩, ?_⟩, keep⟩
  rcases h.cells with q | q
  · refine .inl (Rd.keep keep q ?_)
    intro w
    rw [w] at q
    rcases q with q | ⟨o, q⟩ <;> (rw [e] at q; cases q)
  · exact .inr q
end
theorem DGet_k {H : Hp} {a : Addr} {kvs : List (Key × V)} {k : Str} {v : V} (e : H a = some (.dK kvs)) (g : valV kvs (.inr k) = some v) : DGet H a (.str k) (some v) := by
  have z := DGet.k (k := Sum.inr k) e
  rw [g] at z
  exact z
theorem DPut_k {H : Hp} {a : Addr} {c : Addr} {x r m n x' r' m' n' : Int} {k : Str} {v : V} (e : H a = some (.dK (bagL c x r m n))) (g : putK (bagL c x r m n) (.inr k) v = bagL c x' r' m' n') :
    DPut H a (.str k) v (L2.upd H a (.dK (bagL c x' r' m' n'))) := by
  have z := DPut.k (k := Sum.inr k) (v := v) e (by show 5 < sizeLine; decide)
  rw [g] at z
  exact z
theorem way_bag {K : Frg} {β : Bag} : Way (Bg K β) where
  trans := fun x y => x.trans y
  chg := fun x n => x.mut n
  sd := fun {A B} x a o s h => by
    refine x.at_ h ?_
    rintro kvs rfl
    exact s
  lst := fun x h => x.at_ h (by intro _ z; cases z)
  back := fun x h => x.none h
  seq := fun {K' A B a xs} x h => by
    rcases h with h | h
    · obtain ⟨kvs, hb⟩ := bag_dK x.old
      refine .inl (Rd.keep x.keep h ?_)
      rintro rfl
      rcases h with h | ⟨o, h⟩ <;> (rw [hb] at h; cases h)
    · exact .inr h
/-! ### what all draws promise -/
/-- a def that draws: from the bag and what `pre` asks, a value of which `post` speaks; all but the bag stands -/
def spDraw (K : Frg) {α : Type} (pre : α → List V → Hp → Prop) (post : α → Hp → V → Hp → Prop) : Sp := fun vs H Q _ =>
  ∃ (β : Bag) (x : α) (ws : List V), vs = .ref β.b :: ws ∧ BagAt K β H ∧ pre x ws H ∧ ∀ v H', Bg K β H H' → post x H v H' → Q v H'
def spPick (K : Frg) : Sp := spDraw K (fun (m : Int) ws _ => ws = [.int m] ∧ 0 < m ∧ m < 1073741824) fun m _ v _ => ∃ r, v = .int r ∧ 0 ≤ r ∧ r < m
section
variable {P : Program} {w : World} {K : Frg} {mg : Str → Option Value} {base : Heap}
theorem sc_law_pick : FnScope ["_law_bag", "_law_many", "_law_cell", "_law_number"] ["_law_bag", "_law_many"] (defScope s_law_pick) := ⟨rfl, rfl, rfl, by decide +kernel, rfl, by decide +kernel, by decide +kernel⟩
theorem ok_law_pick (T : Txt K mg) : Ok P w K mg base 1 (He.ga K "_law_pick") ["_law_bag", "_law_many"] (spPick K) := by
  obtain ⟨fd, F⟩ := T.F_law_pick
  have b : Binds K fd ["_law_bag", "_law_many"] [] := F.bindsN fun _ _ _ _ _ _ us hl => match us, hl with | [_, _], _ => rfl
  refine ok_of F b sc_law_pick (fun vs H Q E h => ?_) (fun cdv A outer s H vs Q E hr h => ?_)
  · obtain ⟨β, m, ws, rfl, _, ⟨rfl, _⟩, _⟩ := h
    rfl
  · obtain ⟨β, m, ws, rfl, B, ⟨rfl, m0, m1⟩, k⟩ := h
    refine ⟨_, (pss_cons (ps_dput (hu_of hr) (pv 0) pe_str (pe_op op_add (pe_dget (hu_of hr) (pv 0) pe_str (fun _ _ => rfl)) pe_int) rfl)
  (pss_cons (ps_if (pt_cmpR op_gt (pe_dget (hu_of hr) (pv 0) pe_str (fun _ _ => rfl)) pe_int (by first | exact nomark _ | rfl)) (pss_cons (ps_set (i := 3) sc_law_pick.nd rfl (Or.inl rfl) (pe_dget (hu_of hr) (pv 0) pe_str (fun _ _ => rfl)))
  (pss_cons (ps_dput (hu_of hr) (pv 0) pe_str (pe_op op_fdiv (pv 3) (pv 1)) rfl)
  (pss_one (ps_ret (pe_op op_mod (pe_callTy call_int1 (by rfl) T.f_int (by decide +kernel) (pa_cons (pv 3) pa_nil)) (pv 1)))))) pss_nil)
  (pss_cons (ps_set (i := 2) sc_law_pick.nd rfl (Or.inl rfl) pe_int)
  (Evl.pss_cut (ps_if (pt_cmpR op_lt (pe_dget (hu_of hr) (pv 0) pe_str (fun _ _ => rfl)) (pe_callB call_len_seq (by rfl) T.f_len (by decide +kernel) (pa_cons (pe_dget (hu_of hr) (pv 0) pe_str (fun _ _ => rfl)) pa_nil)) (by first | exact nomark _ | rfl)) (pss_cons (ps_set (i := 2) sc_law_pick.nd rfl (Or.inl rfl) (pe_ix ix_list (pe_dget (hu_of hr) (pv 0) pe_str (fun _ _ => rfl)) (pe_dget (hu_of hr) (pv 0) pe_str (fun _ _ => rfl)) (fun _ _ => rfl)))
  (pss_cons (ps_dput (hu_of hr) (pv 0) pe_str (pe_op op_add (pe_dget (hu_of hr) (pv 0) pe_str (fun _ _ => rfl)) pe_int) rfl)
  (pss_one (ps_if (pt_cmpR op_ge (pv 2) (pe_op op_pow pe_int pe_int) (by first | exact nomark _ | rfl)) (pss_cons (ps_dput (hu_of hr) (pv 0) pe_str (pe_op op_fdiv (pv 2) (pv 1)) rfl)
  (pss_one (ps_ret (pe_op op_mod (pe_callTy call_int1 (by rfl) T.f_int (by decide +kernel) (pa_cons (pv 2) pa_nil)) (pv 1))))) pss_nil)))) pss_nil)
  (pss_cons (ps_set (i := 3) sc_law_pick.nd rfl (Or.inl rfl) (pe_op op_mod (pe_callTy call_int1 (by rfl) T.f_int (by decide +kernel) (pa_cons (pe_op op_add (pe_op op_add (pe_op op_mul (pv 2) pe_int) (pe_op op_mul (pe_dget (hu_of hr) (pv 0) pe_str (fun _ _ => rfl)) pe_int)) (pe_op op_mul (pe_dget (hu_of hr) (pv 0) pe_str (fun _ _ => rfl)) pe_int)) pa_nil)) pe_int))
  (pss_cons (ps_set (i := 3) sc_law_pick.nd rfl (Or.inl rfl) (pe_op op_mod (pe_callTy call_int1 (by rfl) T.f_int (by decide +kernel) (pa_cons (pe_op op_add (pe_op op_mul (pv 3) pe_int) pe_int) pa_nil)) pe_int))
  (pss_cons (ps_dput (hu_of hr) (pv 0) pe_str (pe_op op_mod (pe_callTy call_int1 (by rfl) T.f_int (by decide +kernel) (pa_cons (pv 3) pa_nil)) pe_int) rfl)
  (pss_one (ps_ret (pe_op op_mod (pe_callTy call_int1 (by rfl) T.f_int (by decide +kernel) (pa_cons (pe_op op_fdiv (pv 3) pe_int) pa_nil)) (pv 1))))))))))), ?_⟩
    obtain ⟨a, r, x, n, e, a0⟩ := B.ex
    -- count goes up
    walk_at "rd"
    refine r_dgot (DGet_k e get_n) ?_
    walk_at "rd"
    refine r_dputs (DPut_k e put_n) ?_
    have B1 := Bg.put B e (r' := r) (m' := x) (n' := n + 1) a0
    have e1 : upd H β.b (.dK (bagL β.c a r x (n + 1))) β.b = some (.dK (bagL β.c a r x (n + 1))) := upd_same
    generalize upd H β.b (.dK (bagL β.c a r x (n + 1))) = H1 at B1 e1 ⊢
    -- the rest of a great one
    walk_at "rd"
    refine r_dgot (DGet_k e1 get_r) ?_
    walk_at "rd"
    refine r_ifd (fun hr0 => ?_) (fun _ => ?_)
    · walk_at "rd"
      refine r_dgot (DGet_k e1 get_r) ?_
      walk_at "rd"
      refine r_I ⟨m0, m1⟩ ?_
      walk_at "rd"
      refine r_dputs (DPut_k e1 put_r) ?_
      walk_at "rd"
      refine r_I m0 ?_
      exact k _ _ (B1.trans (Bg.put B1.bag e1 a0)) ⟨_, rfl, Int.emod_nonneg _ (by omega), Int.emod_lt_of_pos _ m0⟩
    · walk_at "rd"
      -- behind it: the cell, and the bag
      refine ⟨fun σ' H' => ∃ (cell : Int) (o : Option V), σ' = [some (.ref β.b), some (.int m), some (.int cell), o] ∧ Bg K β H H', ?_, ?_⟩
      · walk_at "rd"
        refine r_dgot (DGet_k e1 get_a) ?_
        walk_at "rd"
        refine r_dgot (DGet_k e1 get_c) ?_
        walk_at "rd"
        refine ⟨_, _, rfl, .inl B1.bag.cells, ?_⟩
        walk_at "rd"
        refine r_ifd (fun hlt => ?_) (fun _ => ?_)
        · walk_at "rd"
          refine r_dgot (DGet_k e1 get_c) ?_
          walk_at "rd"
          refine r_dgot (DGet_k e1 get_a) ?_
          obtain ⟨j, rfl⟩ : ∃ j : Nat, a = (j : Int) := ⟨a.toNat, by omega⟩
          have hj : j < β.cs.length := by
            rw [List.length_map] at hlt
            omega
          refine r_ixL B1.bag.cells (at_of (j := j) (v := V.int β.cs[j]) rfl (by rw [List.getElem?_map, List.getElem?_eq_getElem hj]; rfl)) ?_
          walk_at "rd"
          refine r_dgot (DGet_k e1 get_a) ?_
          walk_at "rd"
          refine r_dputs (DPut_k e1 put_a) ?_
          have B2 := B1.trans (Bg.put B1.bag e1 (a' := (j : Int) + 1) (r' := r) (m' := x) (n' := n + 1) (by omega))
          have e2 : upd H1 β.b (.dK (bagL β.c ((j : Int) + 1) r x (n + 1))) β.b = some (.dK (bagL β.c ((j : Int) + 1) r x (n + 1))) := upd_same
          generalize upd H1 β.b (.dK (bagL β.c ((j : Int) + 1) r x (n + 1))) = H2 at B2 e2 ⊢
          walk_at "rd"
          refine r_I ⟨by decide, by decide, by decide⟩ ?_
          walk_at "rd"
          refine r_ifd (fun _ => ?_) (fun _ => ?_)
          · walk_at "rd"
            refine r_I ⟨m0, m1⟩ ?_
            walk_at "rd"
            refine r_dputs (DPut_k e2 put_r) ?_
            walk_at "rd"
            refine r_I m0 ?_
            exact k _ _ (B2.trans (Bg.put B2.bag e2 (by omega))) ⟨_, rfl, Int.emod_nonneg _ (by omega), Int.emod_lt_of_pos _ m0⟩
          · walk_at "rd"
            exact ⟨_, _, rfl, B2⟩
        · walk_at "rd"
          exact ⟨_, _, rfl, B1⟩
      · rintro σ' H2 ⟨cell, o, rfl, B2⟩
        obtain ⟨a, r, x, n, e2, a0⟩ := B2.bag.ex
        walk_at "rd"
        refine r_I (.inr (by decide)) ?_
        walk_at "rd"
        refine r_dgot (DGet_k e2 get_m) ?_
        walk_at "rd"
        refine r_I (.inr (by decide)) ?_
        walk_at "rd"
        refine r_dgot (DGet_k e2 get_n) ?_
        walk_at "rd"
        refine r_I (.inr (by decide)) ?_
        walk_at "rd"
        refine r_I (by decide) ?_
        walk_at "rd"
        refine r_I (.inr (by decide)) ?_
        walk_at "rd"
        refine r_I (by decide) ?_
        walk_at "rd"
        refine r_I (by decide) ?_
        walk_at "rd"
        refine r_dputs (DPut_k e2 put_m) ?_
        walk_at "rd"
        refine r_I ⟨by decide, by decide⟩ ?_
        walk_at "rd"
        refine r_I m0 ?_
        exact k _ _ (B2.trans (Bg.put B2.bag e2 a0)) ⟨_, rfl, Int.emod_nonneg _ (by omega), Int.emod_lt_of_pos _ m0⟩
end
end Tx

/-! ## Dr1 -/
set_option maxHeartbeats 4000000
/-! Draws: a choice, a letter, a word. -/
namespace Tx
open PySem PySem.Spec PyProof.Rows L2 Gd
local macro_rules | `(tactic| walk_at "rd1") => `(tactic| first
  | ((with_reducible show tVar _ _ _ _); refine r_var (by rfl) ?_)
  | with_reducible refine r_c ?_
  | with_reducible refine r_seq ?_
  | with_reducible refine r_asg ?_
  | with_reducible refine r_name ?_
  | with_reducible refine r_op ?_
  | with_reducible refine r_I0 ?_
  | with_reducible refine r_cons ?_
  | with_reducible refine r_nil ?_
  | with_reducible refine r_call ?_
  | with_reducible refine r_ret ?_
  | with_reducible refine r_cb ?_
  | with_reducible refine r_ifS ?_
  | with_reducible refine r_test ?_
  | with_reducible refine r_bl ?_
  | with_reducible refine r_dget ?_
  | with_reducible refine r_dput ?_
  | ((with_reducible show (∃ k, [V.int _] = [V.int k] ∧ _) ∨ _); refine Or.inl ⟨_, rfl, ?_⟩)
  | with_reducible refine r_lcR ?_
  | with_reducible refine r_lcL ?_
  | with_reducible refine r_lcT ?_
  | with_reducible refine r_m1 ?_
  | with_reducible refine r_gSub ?_
  | with_reducible refine r_forR ?_
  | with_reducible refine r_forL ?_
  | with_reducible refine r_forT ?_
  | with_reducible refine r_bm ?_
  | with_reducible refine r_next ?_
  | with_reducible refine r_B ?_
  | with_reducible refine r_not ?_
  | with_reducible refine r_and ?_
  | with_reducible refine r_or ?_
  | with_reducible refine r_andV ?_
  | with_reducible refine r_orV ?_
  | with_reducible refine r_notV ?_
  | with_reducible refine r_ifE ?_
  | with_reducible refine r_drop ?_
  | with_reducible refine r_tup ?_
  | with_reducible refine r_lst ?_
  | with_reducible refine r_un ?_
  | with_reducible refine r_U ?_)
local macro_rules | `(tactic| walk_at "rd") => `(tactic| repeat walk_at "rd1")
section
variable {K : Frg} {β : Bag} {H : Hp} {Q : VK} {E : XK} {m : Int} {a : Addr} {xs : List V}
theorem r_pick (B : BagAt K β H) (m0 : 0 < m) (m1 : m < 1073741824) (h : ∀ r H', Bg K β H H' → 0 ≤ r → r < m → Q (.int r) H') : spPick K ([.ref β.b, .int m] ++ []) H Q E :=
  ⟨β, m, [.int m], rfl, B, ⟨rfl, m0, m1⟩, by rintro v H' e ⟨r, rfl, h0, h1⟩; exact h r H' e h0 h1⟩
def spChoice (K : Frg) : Sp := spDraw K (fun (x : Addr × List V) ws H => ws = [.ref x.1] ∧ SqL K H x.1 x.2 ∧ 0 < x.2.length ∧ x.2.length ≤ 100000) fun x _ v _ => ∃ i : Nat, x.2[i]? = some v
theorem r_choice (B : BagAt K β H) (hs : SqL K H a xs) (n0 : 0 < xs.length) (n1 : xs.length ≤ 100000) (h : ∀ (i : Nat) v H', xs[i]? = some v → Bg K β H H' → Q v H') : spChoice K ([.ref β.b, .ref a] ++ []) H Q E :=
  ⟨β, (a, xs), [.ref a], rfl, B, ⟨rfl, hs, n0, n1⟩, by rintro v H' e ⟨i, hi⟩; exact h i v H' hi e⟩
def spOne (K : Frg) : Sp := spDraw K (fun (m : Int) ws _ => ws = [.int m] ∧ 0 < m ∧ m < 1073741824) fun _ _ v _ => ∃ b, v = .bl b
theorem r_one (B : BagAt K β H) (m0 : 0 < m) (m1 : m < 1073741824) (h : ∀ b H', Bg K β H H' → Q (.bl b) H') : spOne K ([.ref β.b, .int m] ++ []) H Q E :=
  ⟨β, m, [.int m], rfl, B, ⟨rfl, m0, m1⟩, by rintro v H' e ⟨b, rfl⟩; exact h b H' e⟩
/-- small letters -/
def Low (s : Str) : Prop := ∀ c ∈ s.cps.toList, 97 ≤ c ∧ c ≤ 122
def spLetters (K : Frg) : Sp := spDraw K (fun (m : Int) ws _ => ws = [.int m] ∧ 0 ≤ m ∧ m ≤ 1000) fun m _ v _ => ∃ s : Str, v = .str s ∧ (s.length : Int) = m ∧ Low s
theorem r_letters (B : BagAt K β H) (m0 : 0 ≤ m) (m1 : m ≤ 1000) (h : ∀ (s : Str) H', Bg K β H H' → (s.length : Int) = m → Low s → Q (.str s) H') : spLetters K ([.ref β.b, .int m] ++ []) H Q E :=
  ⟨β, m, [.int m], rfl, B, ⟨rfl, m0, m1⟩, by rintro v H' e ⟨s, rfl, l, w⟩; exact h s H' e l w⟩
theorem abc_len : (Str.ofString "abcdefghijklmnopqrstuvwxyz").cps.toList.length = 26 := by decide +kernel
theorem abc_low : ∀ c ∈ (Str.ofString "abcdefghijklmnopqrstuvwxyz").cps.toList, 97 ≤ c ∧ c ≤ 122 := by decide +kernel
theorem abc_at {r : Int} (h0 : 0 ≤ r) (h1 : r < 26) : ∃ c, atI (Str.ofString "abcdefghijklmnopqrstuvwxyz").cps.toList r = some c ∧ 97 ≤ c ∧ c ≤ 122 := by
  obtain ⟨j, rfl⟩ : ∃ j : Nat, r = (j : Int) := ⟨r.toNat, by omega⟩
  have hj : j < (Str.ofString "abcdefghijklmnopqrstuvwxyz").cps.toList.length := by rw [abc_len]; omega
  exact ⟨_, atI_nat (List.getElem?_eq_getElem hj), abc_low _ (List.getElem_mem hj)⟩
/-- one-sign texts joined by nothing -/
theorem tl_join0 : ∀ ys : List Str, (Txt.join Str.empty ys).cps.toList = (ys.map fun y => y.cps.toList).flatten := by
  intro ys
  rw [TL.join_eq]
  show TL.tl _ = _
  rw [TL.tl_join]
  show TL.joinL [] _ = _
  have go : ∀ l : List (List Nat), TL.joinL [] l = l.flatten := by
    intro l
    induction l with
    | nil => rfl
    | cons p r ih =>
      cases r with
      | nil => simp [TL.joinL]
      | cons q r => rw [TL.joinL, ih]; simp
  exact go _
theorem join_letters {n : Int} (hn : 0 ≤ n) : ∀ {ys : List V}, (ys.length : Int) = n → (∀ (i : Nat) y, ys[i]? = some y → ∃ c : Nat, y = .str ⟨#[c]⟩ ∧ 97 ≤ c ∧ c ≤ 122) →
    ∃ zs : List Str, ys = zs.map V.str ∧ (zs.map (·.length)).sum = ys.length ∧ ((Txt.join Str.empty zs).length : Int) = n ∧ Low (Txt.join Str.empty zs) := by
  intro ys hl hy
  have go : ∀ ys : List V, (∀ (i : Nat) y, ys[i]? = some y → ∃ c : Nat, y = .str ⟨#[c]⟩ ∧ 97 ≤ c ∧ c ≤ 122) →
      ∃ cs : List Nat, ys = cs.map (fun c => V.str ⟨#[c]⟩) ∧ ∀ c ∈ cs, 97 ≤ c ∧ c ≤ 122 := by
    intro ys
    induction ys with
    | nil => intro _; exact ⟨[], rfl, by simp⟩
    | cons y r ih =>
      intro h
      obtain ⟨c, rfl, hc⟩ := h 0 y rfl
      obtain ⟨cs, e, hcs⟩ := ih fun i z hz => h (i + 1) z (by simpa using hz)
      refine ⟨c :: cs, by rw [e]; rfl, fun d hd => ?_⟩
      rcases List.mem_cons.mp hd with rfl | hd
      · exact hc
      · exact hcs d hd
  obtain ⟨cs, rfl, hcs⟩ := go ys hy
  have fl : ∀ cs : List Nat, ((cs.map fun c => (⟨#[c]⟩ : Str)).map fun y => y.cps.toList).flatten = cs := by
    intro cs
    induction cs with
    | nil => rfl
    | cons c r ih =>
      simp only [List.map_cons, List.flatten_cons]
      rw [ih]
      rfl
  have ones : ∀ cs : List Nat, ((cs.map fun c => (⟨#[c]⟩ : Str)).map fun y => y.length).sum = cs.length := by
    intro cs
    induction cs with
    | nil => rfl
    | cons c r ih =>
      simp only [List.map_cons, List.sum_cons, List.length_cons]
      rw [ih]
      show 1 + r.length = r.length + 1
      omega
  have tl := (tl_join0 (cs.map fun c => (⟨#[c]⟩ : Str))).trans (fl cs)
  refine ⟨cs.map fun c => ⟨#[c]⟩, by rw [List.map_map]; rfl, by rw [ones, List.length_map], ?_, fun c hc => hcs c (by rw [tl] at hc; exact hc)⟩
  rw [TL.len_tl]
  show ((Txt.join Str.empty (cs.map fun c => (⟨#[c]⟩ : Str))).cps.toList.length : Int) = n
  rw [tl]
  rw [List.length_map] at hl
  exact hl
end
section
variable {P : Program} {w : World} {K : Frg} {mg : Str → Option Value} {base : Heap}
theorem sc_law_choice : FnScope ["_law_bag", "_law_things"] ["_law_bag", "_law_things"] (defScope s_law_choice) := ⟨rfl, rfl, rfl, by decide +kernel, rfl, by decide +kernel, by decide +kernel⟩
theorem ok_law_choice (T : Txt K mg) : Ok P w K mg base 2 (He.ga K "_law_choice") ["_law_bag", "_law_things"] (spChoice K) := by
  obtain ⟨fd, F⟩ := T.F_law_choice
  have b : Binds K fd ["_law_bag", "_law_things"] [] := F.bindsN fun _ _ _ _ _ _ us hl => match us, hl with | [_, _], _ => rfl
  refine ok_of F b sc_law_choice (fun vs H Q E h => ?_) (fun cdv A outer s H vs Q E hr h => ?_)
  · obtain ⟨β, m, ws, rfl, _, ⟨rfl, _⟩, _⟩ := h
    rfl
  · obtain ⟨β, ⟨a, xs⟩, ws, rfl, B, ⟨rfl, hs, n0, n1⟩, k⟩ := h
    have hs : SqL K H a xs := hs
    have n0 : 0 < xs.length := n0
    have n1 : xs.length ≤ 100000 := n1
    refine ⟨_, (pss_one (ps_ret (pe_ix ix_list (pv 1) (pk (ok_law_pick T) hr rfl T.g_law_pick (pa_cons (pv 0) (pa_cons (pe_callB call_len_seq (by rfl) T.f_len (by decide +kernel) (pa_cons (pv 1) pa_nil)) pa_nil))) (fun _ _ => rfl)))), ?_⟩
    walk_at "rd"
    refine ⟨_, _, rfl, .inl hs, ?_⟩
    walk_at "rd"
    refine r_pick B (by omega) (by omega) fun r H1 e1 h0 h1 => ?_
    obtain ⟨j, rfl⟩ : ∃ j : Nat, r = (j : Int) := ⟨r.toNat, by omega⟩
    have hj : j < xs.length := by omega
    refine r_ixL (e1.seq hs) (atI_nat (List.getElem?_eq_getElem hj)) ?_
    exact k _ _ e1 ⟨j, List.getElem?_eq_getElem hj⟩
theorem sc_law_one_in : FnScope ["_law_bag", "_law_many"] ["_law_bag", "_law_many"] (defScope s_law_one_in) := ⟨rfl, rfl, rfl, by decide +kernel, rfl, by decide +kernel, by decide +kernel⟩
theorem ok_law_one_in (T : Txt K mg) : Ok P w K mg base 2 (He.ga K "_law_one_in") ["_law_bag", "_law_many"] (spOne K) := by
  obtain ⟨fd, F⟩ := T.F_law_one_in
  have b : Binds K fd ["_law_bag", "_law_many"] [] := F.bindsN fun _ _ _ _ _ _ us hl => match us, hl with | [_, _], _ => rfl
  refine ok_of F b sc_law_one_in (fun vs H Q E h => ?_) (fun cdv A outer s H vs Q E hr h => ?_)
  · obtain ⟨β, m, ws, rfl, _, ⟨rfl, _⟩, _⟩ := h
    rfl
  · obtain ⟨β, m, ws, rfl, B, ⟨rfl, m0, m1⟩, k⟩ := h
    refine ⟨_, (pss_one (ps_ret (pe_cmpR op_eq (pk (ok_law_pick T) hr rfl T.g_law_pick (pa_cons (pv 0) (pa_cons (pv 1) pa_nil))) pe_int (by first | exact nomark _ | rfl)))), ?_⟩
    walk_at "rd"
    refine r_pick B m0 m1 fun r H1 e1 h0 h1 => ?_
    walk_at "rd"
    exact r_eq rfl (k _ _ e1 ⟨_, rfl⟩)
theorem sc_law_letters : FnScope ["_law_bag", "_law_many", "_law_k"] ["_law_bag", "_law_many"] (defScope s_law_letters) := ⟨rfl, rfl, rfl, by decide +kernel, rfl, by decide +kernel, by decide +kernel⟩
theorem ok_law_letters (T : Txt K mg) : Ok P w K mg base 2 (He.ga K "_law_letters") ["_law_bag", "_law_many"] (spLetters K) := by
  obtain ⟨fd, F⟩ := T.F_law_letters
  have b : Binds K fd ["_law_bag", "_law_many"] [] := F.bindsN fun _ _ _ _ _ _ us hl => match us, hl with | [_, _], _ => rfl
  refine ok_of F b sc_law_letters (fun vs H Q E h => ?_) (fun cdv A outer s H vs Q E hr h => ?_)
  · obtain ⟨β, m, ws, rfl, _, ⟨rfl, _⟩, _⟩ := h
    rfl
  · obtain ⟨β, m, ws, rfl, B, ⟨rfl, m0, m1⟩, k⟩ := h
    refine ⟨_, (pss_one (ps_ret (pe_join pe_str (pe_lc (own := [("_law_k", 2)]) rfl sc_law_letters.nd (pi_range1 rfl T.f_range (pa_cons (pv 1) pa_nil)) (blkOk_by (own := [("_law_k", 2)]) (N := ["_law_bag", "_law_many", "_law_k"]) (sc := defScope s_law_letters) (by decide +kernel)) (fun _ _ _ _ _ => (pg_name (i := 2) sc_law_letters.nd rfl (Or.inl rfl))) (fun _ _ _ _ _ => pts_nil) (fun _ _ _ _ _ => (pe_ix ix_str pe_str (pk (ok_law_pick T) hr rfl T.g_law_pick (pa_cons (pv 0) (pa_cons pe_int pa_nil))) (fun _ _ => rfl))))))), ?_⟩
    walk_at "rd"
    refine ⟨⟨_, rfl⟩, ?_⟩
    walk_at "rd"
    refine lcR (P := fun _ v _ => ∃ c : Nat, v = .str ⟨#[c]⟩ ∧ 97 ≤ c ∧ c ≤ 122) way_bag (Bg.refl B) ⟨m0, by omega⟩ (fun _ _ _ _ _ p => p) (fun i H1 hi e1 Qe q => ?_) fun D H1 ys hD e1 hy hl hp => ?_
    · refine r_name ⟨rfl, ?_⟩
      walk_at "rd"
      refine r_pick e1.bag (by decide) (by decide) fun r H2 e2 h0 h1 => ?_
      obtain ⟨c, hc, c0, c1⟩ := abc_at h0 h1
      refine r_ixS (by decide +kernel) hc ?_
      exact q _ _ e2 ⟨c, rfl, c0, c1⟩
    · obtain ⟨zs, rfl, hsum, hlen, hlow⟩ := join_letters m0 (by omega) hp
      refine ⟨_, D, zs, rfl, rfl, .inl (SqL.of hy), ?_, ?_⟩
      · rw [hsum]
        show _ + _ * 0 ≤ _
        omega
      · exact k _ _ e1 ⟨_, rfl, hlen, hlow⟩
end
end Tx

/-! ## Dr2 -/
set_option maxHeartbeats 4000000
/-! Draws: names. -/
namespace Tx
open PySem PySem.Spec PyProof.Rows L2 Gd
local macro_rules | `(tactic| walk_at "rd1") => `(tactic| first
  | ((with_reducible show tVar _ _ _ _); refine r_var (by rfl) ?_)
  | with_reducible refine r_c ?_
  | with_reducible refine r_seq ?_
  | with_reducible refine r_asg ?_
  | with_reducible refine r_name ?_
  | with_reducible refine r_op ?_
  | with_reducible refine r_I0 ?_
  | with_reducible refine r_cons ?_
  | with_reducible refine r_nil ?_
  | with_reducible refine r_call ?_
  | with_reducible refine r_ret ?_
  | with_reducible refine r_cb ?_
  | with_reducible refine r_ifS ?_
  | with_reducible refine r_test ?_
  | with_reducible refine r_bl ?_
  | with_reducible refine r_dget ?_
  | with_reducible refine r_dput ?_
  | ((with_reducible show (∃ k, [V.int _] = [V.int k] ∧ _) ∨ _); refine Or.inl ⟨_, rfl, ?_⟩)
  | with_reducible refine r_lcR ?_
  | with_reducible refine r_lcL ?_
  | with_reducible refine r_lcT ?_
  | with_reducible refine r_m1 ?_
  | with_reducible refine r_gSub ?_
  | with_reducible refine r_forR ?_
  | with_reducible refine r_forL ?_
  | with_reducible refine r_forT ?_
  | with_reducible refine r_bm ?_
  | with_reducible refine r_next ?_
  | with_reducible refine r_B ?_
  | with_reducible refine r_not ?_
  | with_reducible refine r_and ?_
  | with_reducible refine r_or ?_
  | with_reducible refine r_andV ?_
  | with_reducible refine r_orV ?_
  | with_reducible refine r_notV ?_
  | with_reducible refine r_ifE ?_
  | with_reducible refine r_drop ?_
  | with_reducible refine r_tup ?_
  | with_reducible refine r_lst ?_
  | with_reducible refine r_un ?_
  | with_reducible refine r_U ?_)
local macro_rules | `(tactic| walk_at "rd") => `(tactic| repeat walk_at "rd1")
def wordsL : List Str := [Str.ofString "signs", Str.ofString "kind", Str.ofString "keeps", Str.ofString "table", Str.ofString "stands", Str.ofString "flees", Str.ofString "entry", Str.ofString "place", Str.ofString "from", Str.ofString "exit", Str.ofString "plan", Str.ofString "most", Str.ofString "come", Str.ofString "day", Str.ofString "build", Str.ofString "swap", Str.ofString "move", Str.ofString "back", Str.ofString "shelve", Str.ofString "scrap", Str.ofString "give", Str.ofString "take", Str.ofString "seen", Str.ofString "row", Str.ofString "sights", Str.ofString "told", Str.ofString "strike", Str.ofString "again", Str.ofString "test", Str.ofString "chapter", Str.ofString "look", Str.ofString "say", Str.ofString "if", Str.ofString "else", Str.ofString "end", Str.ofString "repeat", Str.ofString "leave", Str.ofString "call", Str.ofString "done", Str.ofString "quit", Str.ofString "any", Str.ofString "house", Str.ofString "customer"]
theorem words_len : wordsL.length = 43 := by rfl
/-- a good name -/
structure GoodN (s : Str) : Prop where
  lo : 1 ≤ s.length
  hi : s.length ≤ 8
  low : Low s
  no : s ∉ wordsL
/-- the name that stands in for the k-th -/
def abcL : List Nat := (Str.ofString "abcdefghijklmnopqrstuvwxyz").cps.toList
def zz (k : Nat) : Str := "zzzzzzz" ++ ⟨#[abcL.getD k 97]⟩
theorem zz_good : ∀ k, k < 26 → GoodN (zz k) := by
  have h : ∀ k, k < 26 → ((zz k).length = 8 ∧ (∀ c ∈ (zz k).cps.toList, 97 ≤ c ∧ c ≤ 122) ∧ zz k ∉ wordsL) := by decide +kernel
  intro k hk
  obtain ⟨a, b, c⟩ := h k hk
  exact ⟨by omega, by omega, b, c⟩
theorem zz_len : ∀ k, k < 26 → (zz k).length = 8 := by decide +kernel
theorem zz_inj : ∀ j, j < 26 → ∀ k, k < 26 → zz j = zz k → j = k := by decide +kernel
def spReserved : Sp := fun vs H Q _ => vs = [] ∧ ∀ p, H p = none → Q (.ref p) (upd H p (.lst (wordsL.map V.str)))
/-- some names, no two alike -/
structure Names (ns : List Str) : Prop where
  good : ∀ s ∈ ns, GoodN s
  nd : ns.Nodup
def spNames (K : Frg) : Sp := spDraw K (fun (m : Int) ws _ => ws = [.int m] ∧ 0 ≤ m ∧ m ≤ 26) fun m H v H' => ∃ (p : Addr) (ns : List Str), v = .ref p ∧ H p = none ∧ H' p = some (.lst (ns.map V.str)) ∧ (ns.length : Int) = m ∧ Names ns
theorem r_names {K : Frg} {β : Bag} {H : Hp} {Q : VK} {E : XK} {m : Int} (B : BagAt K β H) (m0 : 0 ≤ m) (m1 : m ≤ 26)
    (h : ∀ (p : Addr) (ns : List Str) H', Bg K β H H' → H p = none → H' p = some (.lst (ns.map V.str)) → (ns.length : Int) = m → Names ns → Q (.ref p) H') : spNames K ([.ref β.b, .int m] ++ []) H Q E :=
  ⟨β, m, [.int m], rfl, B, ⟨rfl, m0, m1⟩, by rintro v H' e ⟨p, ns, rfl, z, l, n, g⟩; exact h p ns H' e z l n g⟩
/-- what the loop keeps: the names so far -/
structure NmI (i : Nat) (ns : List Str) : Prop where
  len : ns.length = i
  names : Names ns
  from_ : ∀ s ∈ ns, s.length ≤ 6 ∨ ∃ j, j < i ∧ s = zz j
theorem NmI.drawn {i : Nat} {ns : List Str} {s : Str} (I : NmI i ns) (h1 : 1 ≤ s.length) (h6 : s.length ≤ 6) (hl : Low s) (hn : s ∉ wordsL ++ ns) : NmI (i + 1) (ns ++ [s]) := by
  rw [List.mem_append, not_or] at hn
  refine ⟨by rw [List.length_append, I.len]; rfl, ⟨fun t ht => ?_, ?_⟩, fun t ht => ?_⟩
  · rcases List.mem_append.mp ht with ht | ht
    · exact I.names.good t ht
    · rw [List.mem_singleton.mp ht]
      exact ⟨h1, by omega, hl, hn.1⟩
  · refine List.nodup_append.mpr ⟨I.names.nd, by simp, fun a ha b hb => ?_⟩
    rw [List.mem_singleton.mp hb]
    rintro rfl
    exact hn.2 ha
  · rcases List.mem_append.mp ht with ht | ht
    · rcases I.from_ t ht with q | ⟨j, hj, q⟩
      · exact .inl q
      · exact .inr ⟨j, by omega, q⟩
    · rw [List.mem_singleton.mp ht]
      exact .inl h6
theorem NmI.stand {i : Nat} {ns : List Str} (I : NmI i ns) (hi : i < 26) : NmI (i + 1) (ns ++ [zz i]) := by
  refine ⟨by rw [List.length_append, I.len]; rfl, ⟨fun t ht => ?_, ?_⟩, fun t ht => ?_⟩
  · rcases List.mem_append.mp ht with ht | ht
    · exact I.names.good t ht
    · rw [List.mem_singleton.mp ht]
      exact zz_good i hi
  · refine List.nodup_append.mpr ⟨I.names.nd, by simp, fun a ha b hb => ?_⟩
    rw [List.mem_singleton.mp hb]
    rintro rfl
    rcases I.from_ _ ha with q | ⟨j, hj, q⟩
    · rw [zz_len i hi] at q; omega
    · have := zz_inj i hi j (by omega) q
      omega
  · rcases List.mem_append.mp ht with ht | ht
    · rcases I.from_ t ht with q | ⟨j, hj, q⟩
      · exact .inl q
      · exact .inr ⟨j, by omega, q⟩
    · rw [List.mem_singleton.mp ht]
      exact .inr ⟨i, by omega, rfl⟩
section
variable {P : Program} {w : World} {K : Frg} {mg : Str → Option Value} {base : Heap}
theorem sc_law_reserved : FnScope ["_law_told"] [] (defScope s_law_reserved) := ⟨rfl, rfl, rfl, by decide +kernel, rfl, by decide +kernel, by decide +kernel⟩
theorem ok_law_reserved (T : Txt K mg) : Ok P w K mg base 1 (He.ga K "_law_reserved") [] spReserved := by
  obtain ⟨fd, F⟩ := T.F_law_reserved
  have b : Binds K fd [] [] := F.bindsN fun _ _ _ _ _ _ us hl => match us, hl with | [], _ => rfl
  refine ok_of F b sc_law_reserved (fun vs H Q E h => ?_) (fun cdv A outer s H vs Q E hr h => ?_)
  · obtain ⟨rfl, _⟩ := h
    rfl
  · obtain ⟨rfl, k⟩ := h
    refine ⟨_, (pss_cons (ps_set (i := 0) sc_law_reserved.nd rfl (Or.inl rfl) pe_str)
  (pss_cons (ps_set (i := 0) sc_law_reserved.nd rfl (Or.inl rfl) (pe_op op_add_str (pv 0) pe_str))
  (pss_one (ps_ret (pe_split (pe_op op_add_str (pv 0) pe_str) pe_str))))), ?_⟩
    walk_at "rd"
    refine ⟨_, _, rfl, rfl, by decide +kernel, ?_⟩
    walk_at "rd"
    refine ⟨_, _, rfl, rfl, by decide +kernel, ?_⟩
    walk_at "rd"
    refine ⟨⟨_, rfl⟩, ?_⟩
    walk_at "rd"
    refine ⟨_, _, rfl, rfl, by decide +kernel, by decide +kernel, fun p hp => ?_⟩
    have e : Txt.split ((("signs kind keeps table stands flees entry place from exit plan most come day build swap move back " : Str) ++ "shelve scrap give take seen row sights told strike again test chapter look say if else end ") ++ "repeat leave call done quit any house customer") " " = wordsL := by decide +kernel
    rw [e]
    exact k p hp
theorem sc_law_names : FnScope ["_law_bag", "_law_many", "_law_taken", "_law_found", "_law_k", "_law_name"] ["_law_bag", "_law_many"] (defScope s_law_names) := ⟨rfl, rfl, rfl, by decide +kernel, rfl, by decide +kernel, by decide +kernel⟩
theorem ok_law_names (T : Txt K mg) : Ok P w K mg base 3 (He.ga K "_law_names") ["_law_bag", "_law_many"] (spNames K) := by
  obtain ⟨fd, F⟩ := T.F_law_names
  have b : Binds K fd ["_law_bag", "_law_many"] [] := F.bindsN fun _ _ _ _ _ _ us hl => match us, hl with | [_, _], _ => rfl
  refine ok_of F b sc_law_names (fun vs H Q E h => ?_) (fun cdv A outer s H vs Q E hr h => ?_)
  · obtain ⟨β, m, ws, rfl, _, ⟨rfl, _⟩, _⟩ := h
    rfl
  · obtain ⟨β, m, ws, rfl, B, ⟨rfl, m0, m1⟩, k⟩ := h
    refine ⟨_, (pss_cons (ps_set (i := 2) sc_law_names.nd rfl (Or.inl rfl) (pk0 (ok_law_reserved T) hr rfl T.g_law_reserved))
  (pss_cons (ps_set (i := 3) sc_law_names.nd rfl (Or.inl rfl) (pe_lst pa_nil))
  (pss_cons (ps_for PassesOwn.never rfl (pi_range1 rfl T.f_range (pa_cons (pv 1) pa_nil)) (pg_name (i := 4) sc_law_names.nd rfl (Or.inl rfl)) (pss_cons (ps_set (i := 5) sc_law_names.nd rfl (Or.inl rfl) (pk (ok_law_letters T) hr rfl T.g_law_letters (pa_cons (pv 0) (pa_cons (pe_op op_add pe_int (pk (ok_law_pick T) hr rfl T.g_law_pick (pa_cons (pv 0) (pa_cons pe_int pa_nil)))) pa_nil))))
  (Evl.pss_cut (ps_if (pt_cmpR op_in_seq (pv 5) (pv 2) (by first | exact nomark _ | rfl)) (pss_one (ps_set (i := 5) sc_law_names.nd rfl (Or.inl rfl) (pe_op op_add_str pe_str (pe_ix ix_str pe_str (pv 4) (fun _ _ => rfl))))) pss_nil)
  (pss_cons (ps_expr (pe_bm PySem.F.plainAttrs_list PySem.F.slot_list_append PySem.F.type_list_append mt_append (pv 2) (pa_cons (pv 5) pa_nil)))
  (pss_one (ps_expr (pe_bm PySem.F.plainAttrs_list PySem.F.slot_list_append PySem.F.type_list_append mt_append (pv 3) (pa_cons (pv 5) pa_nil))))))))
  (pss_one (ps_ret (pv 3)))))), ?_⟩
    walk_at "rd"
    refine ⟨rfl, fun pT nT => ?_⟩
    walk_at "rd"
    refine ⟨by decide, fun pF nF => ?_⟩
    have nTF : pF ≠ pT := (ne_of_none upd_same nF).symm
    have nF0 : H pF = none := by rw [upd_ne nTF] at nF; exact nF
    have e0 : Bg K β H (upd (upd H pT (.lst (wordsL.map V.str))) pF (.lst [])) := (Bg.new B nT).mut nF0
    walk_at "rd"
    refine forR (fun i σ' H' => ∃ (ns : List Str) (o1 o2 : Option V), σ' = [some (.ref β.b), some (.int m), some (.ref pT), some (.ref pF), o1, o2] ∧ Bg K β H H' ∧
      H' pT = some (.lst ((wordsL ++ ns).map V.str)) ∧ H' pF = some (.lst (ns.map V.str)) ∧ NmI i ns) ⟨m0, by omega⟩
      ⟨[], none, none, rfl, e0, by rw [upd_ne nTF.symm, upd_same, List.append_nil], upd_same, ⟨rfl, ⟨by simp, by simp⟩, by simp⟩⟩ ?_ ?_
    · rintro i σ' H' hi ⟨ns, o1, o2, rfl, e1, hT, hF, I⟩
      walk_at "rd"
      refine r_pick e1.bag (by decide) (by decide) fun r H2 e2 r0 r1 => ?_
      walk_at "rd"
      refine r_letters e2.bag (by omega) (by omega) fun s H3 e3 sl sw => ?_
      walk_at "rd"
      have e4 := (e1.trans e2).trans e3
      have hT3 := (way_bag.lst (e2.trans e3) hT)
      have hF3 := (way_bag.lst (e2.trans e3) hF)
      -- the name that is taken
      refine ⟨fun σ' H' => ∃ t : Str, σ' = [some (.ref β.b), some (.int m), some (.ref pT), some (.ref pF), some (.int (i : Int)), some (.str t)] ∧ H' = H3 ∧ NmI (i + 1) (ns ++ [t]), ?_, ?_⟩
      · walk_at "rd"
        refine r_in (.inl (SqL.of hT3)) ?_
        walk_at "rd"
        refine r_ifd (fun _ => ?_) (fun hn => ?_)
        · walk_at "rd"
          have hi26 : i < 26 := by omega
          have hc : atI (Str.ofString "abcdefghijklmnopqrstuvwxyz").cps.toList (i : Int) = some (abcL.getD i 97) := by
            refine atI_nat ?_
            have hlt : i < abcL.length := by
              show i < (Str.ofString "abcdefghijklmnopqrstuvwxyz").cps.toList.length
              rw [abc_len]; exact hi26
            show abcL[i]? = _
            rw [List.getD_eq_getElem?_getD, List.getElem?_eq_getElem hlt]
            rfl
          refine r_ixS (by decide +kernel) hc ?_
          refine ⟨_, _, rfl, rfl, by show _ + 1 ≤ sizeLine; decide +kernel, ?_⟩
          walk_at "rd"
          exact ⟨zz i, rfl, rfl, I.stand hi26⟩
        · walk_at "rd"
          exact ⟨s, rfl, rfl, I.drawn (by omega) (by omega) sw hn⟩
      · rintro σ' H' ⟨t, rfl, rfl, I2⟩
        have hz : ns.length = i := I.len
        walk_at "rd"
        refine r_tyL hT3 ?_
        walk_at "rd"
        refine r_append hT3 (by rw [List.length_map, List.length_append, hz, words_len]; omega) ?_
        walk_at "rd"
        have hF4 : upd H' pT (.lst ((wordsL ++ ns).map V.str ++ [V.str t])) pF = some (.lst (ns.map V.str)) := by rw [upd_ne nTF]; exact hF3
        refine r_tyL hF4 ?_
        walk_at "rd"
        refine r_append hF4 (by rw [List.length_map, hz]; omega) ?_
        walk_at "rd"
        refine ⟨ns ++ [t], _, _, rfl, (e4.mut nT).mut nF0, ?_, ?_, I2⟩
        · rw [upd_ne nTF.symm, upd_same, ← List.append_assoc, List.map_append (l₂ := [t])]
          rfl
        · rw [upd_same, List.map_append]
          rfl
    · rintro σ' H' ⟨ns, o1, o2, rfl, e1, hT, hF, I⟩
      walk_at "rd"
      exact k _ _ e1 ⟨pF, ns, rfl, nF0, hF, by rw [I.len]; omega, I.names⟩
end
end Tx

/-! ## Dr3 -/
set_option maxHeartbeats 4000000
/-! Draws: tables. -/
namespace Tx
open PySem PySem.Spec PyProof.Rows L2 Gd
local macro_rules | `(tactic| walk_at "rd1") => `(tactic| first
  | ((with_reducible show tVar _ _ _ _); refine r_var (by rfl) ?_)
  | with_reducible refine r_c ?_
  | with_reducible refine r_seq ?_
  | with_reducible refine r_asg ?_
  | with_reducible refine r_name ?_
  | with_reducible refine r_op ?_
  | with_reducible refine r_I0 ?_
  | with_reducible refine r_cons ?_
  | with_reducible refine r_nil ?_
  | with_reducible refine r_call ?_
  | with_reducible refine r_ret ?_
  | with_reducible refine r_cb ?_
  | with_reducible refine r_ifS ?_
  | with_reducible refine r_test ?_
  | with_reducible refine r_bl ?_
  | with_reducible refine r_dget ?_
  | with_reducible refine r_dput ?_
  | ((with_reducible show (∃ k, [V.int _] = [V.int k] ∧ _) ∨ _); refine Or.inl ⟨_, rfl, ?_⟩)
  | with_reducible refine r_lcR ?_
  | with_reducible refine r_lcL ?_
  | with_reducible refine r_lcT ?_
  | with_reducible refine r_m1 ?_
  | with_reducible refine r_gSub ?_
  | with_reducible refine r_forR ?_
  | with_reducible refine r_forL ?_
  | with_reducible refine r_forT ?_
  | with_reducible refine r_bm ?_
  | with_reducible refine r_next ?_
  | with_reducible refine r_B ?_
  | with_reducible refine r_not ?_
  | with_reducible refine r_and ?_
  | with_reducible refine r_or ?_
  | with_reducible refine r_andV ?_
  | with_reducible refine r_orV ?_
  | with_reducible refine r_notV ?_
  | with_reducible refine r_ifE ?_
  | with_reducible refine r_drop ?_
  | with_reducible refine r_tup ?_
  | with_reducible refine r_lst ?_
  | with_reducible refine r_un ?_
  | with_reducible refine r_U ?_)
local macro_rules | `(tactic| walk_at "rd") => `(tactic| repeat walk_at "rd1")
/-- signs within bounds -/
def In (m : Int) (ts : List Int) : Prop := ∀ t ∈ ts, 0 ≤ t ∧ t < m
def spTable (K : Frg) : Sp := spDraw K (fun (x : Int × Int) ws _ => ws = [.int x.1, .int x.2] ∧ 0 < x.1 ∧ x.1 < 1000 ∧ 0 ≤ x.2 ∧ x.2 ≤ 1000) fun x _ v H' => ∃ ts, Dp K H' v (intsD ts) ∧ (ts.length : Int) = x.2 ∧ In x.1 ts
theorem r_table {K : Frg} {β : Bag} {H : Hp} {Q : VK} {E : XK} {m n : Int} (B : BagAt K β H) (m0 : 0 < m) (m1 : m < 1000) (n0 : 0 ≤ n) (n1 : n ≤ 1000)
    (h : ∀ v ts H', Bg K β H H' → Dp K H' v (intsD ts) → (ts.length : Int) = n → In m ts → Q v H') : spTable K ([.ref β.b, .int m, .int n] ++ []) H Q E :=
  ⟨β, (m, n), [.int m, .int n], rfl, B, ⟨rfl, m0, m1, n0, n1⟩, by rintro v H' e ⟨ts, l, n, g⟩; exact h v ts H' e l n g⟩
def spWayTable (K : Frg) : Sp := spDraw K (fun (x : Int × V × List Int) ws H => ws = [.int x.1, x.2.1] ∧ 1 < x.1 ∧ x.1 < 1000 ∧ Dp K H x.2.1 (intsD x.2.2) ∧ In x.1 x.2.2 ∧ 0 < x.2.2.length ∧ x.2.2.length ≤ 1000)
  fun x _ v H' => ∃ ts, Dp K H' v (intsD ts) ∧ ts.length = x.2.2.length ∧ In x.1 ts ∧ ts ≠ x.2.2
theorem r_wayTable {K : Frg} {β : Bag} {H : Hp} {Q : VK} {E : XK} {m : Int} {u : V} {us : List Int} (B : BagAt K β H) (m0 : 1 < m) (m1 : m < 1000) (hd : Dp K H u (intsD us)) (hin : In m us) (l0 : 0 < us.length) (l1 : us.length ≤ 1000)
    (h : ∀ v ts H', Bg K β H H' → Dp K H' v (intsD ts) → ts.length = us.length → In m ts → ts ≠ us → Q v H') : spWayTable K ([.ref β.b, .int m, u] ++ []) H Q E :=
  ⟨β, (m, u, us), [.int m, u], rfl, B, ⟨rfl, m0, m1, hd, hin, l0, l1⟩, by rintro v H' e ⟨ts, l, n, g, z⟩; exact h v ts H' e l n g z⟩
theorem in_rep {m r : Int} {n : Nat} (h0 : 0 ≤ r) (h1 : r < m) : In m (List.replicate n r) := fun t ht => by
  rw [List.eq_of_mem_replicate ht]
  exact ⟨h0, h1⟩
theorem flat_rep {n : Nat} {r : Int} : (List.replicate n [V.int r]).flatten = (List.replicate n r).map V.int := by
  induction n with
  | zero => rfl
  | succ n ih => rw [List.replicate_succ, List.flatten_cons, ih, List.replicate_succ]; rfl
theorem in_set {m r : Int} {ts : List Int} {j : Nat} (h : In m ts) (h0 : 0 ≤ r) (h1 : r < m) : In m (ts.set j r) := fun t ht => by
  rcases List.mem_or_eq_of_mem_set ht with z | z
  · exact h t z
  · rw [z]; exact ⟨h0, h1⟩
/-- the list that is being made: it was not there at the start -/
structure Mk1 (K : Frg) (β : Bag) (H : Hp) (m : Int) (n : Nat) (l : Addr) (fs : List Int) (H' : Hp) : Prop where
  bg : Bg K β H H'
  nw : H l = none
  at_ : H' l = some (.lst (fs.map V.int))
  len : fs.length = n
  in_ : In m fs
section
variable {P : Program} {w : World} {K : Frg} {mg : Str → Option Value} {base : Heap}
theorem sc_law_table_of : FnScope ["_law_bag", "_law_signs", "_law_size", "_law_way", "_law_k"] ["_law_bag", "_law_signs", "_law_size"] (defScope s_law_table_of) := ⟨rfl, rfl, rfl, by decide +kernel, rfl, by decide +kernel, by decide +kernel⟩
theorem ok_law_table_of (T : Txt K mg) : Ok P w K mg base 2 (He.ga K "_law_table_of") ["_law_bag", "_law_signs", "_law_size"] (spTable K) := by
  obtain ⟨fd, F⟩ := T.F_law_table_of
  have b : Binds K fd ["_law_bag", "_law_signs", "_law_size"] [] := F.bindsN fun _ _ _ _ _ _ us hl => match us, hl with | [_, _, _], _ => rfl
  refine ok_of F b sc_law_table_of (fun vs H Q E h => ?_) (fun cdv A outer s H vs Q E hr h => ?_)
  · obtain ⟨β, x, ws, rfl, _, ⟨rfl, _⟩, _⟩ := h
    rfl
  · obtain ⟨β, ⟨m, n⟩, ws, rfl, B, ⟨rfl, m0, m1, n0, n1⟩, k⟩ := h
    have m0 : 0 < m := m0
    have m1 : m < 1000 := m1
    have n0 : 0 ≤ n := n0
    have n1 : n ≤ 1000 := n1
    refine ⟨_, (pss_cons (ps_set (i := 3) sc_law_table_of.nd rfl (Or.inr rfl) (pk (ok_law_pick T) hr rfl T.g_law_pick (pa_cons (pv 0) (pa_cons pe_int pa_nil))))
  (pss_cons (ps_if (pt_cmpR op_eq (pv 3) pe_int (by first | exact nomark _ | rfl)) (pss_one (ps_ret (pe_callTy call_tuple_of (by rfl) T.f_tuple (by decide +kernel) (pa_cons (pe_op op_rep (pe_lst (pa_cons (pk (ok_law_pick T) hr rfl T.g_law_pick (pa_cons (pv 0) (pa_cons (pv 1) pa_nil))) pa_nil)) (pv 2)) pa_nil)))) pss_nil)
  (pss_cons (ps_if (pt_cmpR op_eq (pv 3) pe_int (by first | exact nomark _ | rfl)) (pss_one (ps_ret (pe_callTy call_tuple_of (by rfl) T.f_tuple (by decide +kernel) (pa_cons (pe_lc (own := [("_law_k", 4)]) rfl sc_law_table_of.nd (pi_range1 rfl T.f_range (pa_cons (pv 2) pa_nil)) (blkOk_by (own := [("_law_k", 4)]) (N := ["_law_bag", "_law_signs", "_law_size", "_law_way", "_law_k"]) (sc := defScope s_law_table_of) (by decide +kernel)) (fun _ _ _ _ _ => (pg_name (i := 4) sc_law_table_of.nd rfl (Or.inl rfl))) (fun _ _ _ _ _ => pts_nil) (fun _ _ _ _ _ => (pe_op op_mod (pe_callTy call_int1 (by rfl) T.f_int (by decide +kernel) (pa_cons (pe_op op_add (pv 4) (pv 3)) pa_nil)) (pv 1)))) pa_nil)))) pss_nil)
  (pss_one (ps_ret (pe_callTy call_tuple_of (by rfl) T.f_tuple (by decide +kernel) (pa_cons (pe_lc (own := [("_law_k", 4)]) rfl sc_law_table_of.nd (pi_range1 rfl T.f_range (pa_cons (pv 2) pa_nil)) (blkOk_by (own := [("_law_k", 4)]) (N := ["_law_bag", "_law_signs", "_law_size", "_law_way", "_law_k"]) (sc := defScope s_law_table_of) (by decide +kernel)) (fun _ _ _ _ _ => (pg_name (i := 4) sc_law_table_of.nd rfl (Or.inl rfl))) (fun _ _ _ _ _ => pts_nil) (fun _ _ _ _ _ => (pk (ok_law_pick T) hr rfl T.g_law_pick (pa_cons (pv 0) (pa_cons (pv 1) pa_nil))))) pa_nil))))))), ?_⟩
    walk_at "rd"
    refine r_pick B (by decide) (by decide) fun r H1 e1 r0 r1 => ?_
    walk_at "rd"
    refine r_eq rfl ?_
    walk_at "rd"
    -- the end of each way
    have fin : ∀ (D : Addr) (H2 : Hp) (ys : List V), Bg K β H H2 → H2 D = some (.lst ys) → (ys.length : Int) = n → (∀ (i : Nat) y, ys[i]? = some y → ∃ r, y = V.int r ∧ 0 ≤ r ∧ r < m) →
        ∀ q, H2 q = none → Q (.ref q) (upd H2 q (.tup ys)) := by
      intro D H2 ys e2 hD hl hp q hq
      obtain ⟨ts, rfl, ht⟩ := ints_read hp
      refine k _ _ (e2.trans (Bg.new e2.bag hq)) ⟨ts, ints_of (SqT.of upd_same), ?_, ht⟩
      rw [List.length_map] at hl
      exact hl
    refine r_ifd (fun _ => ?_) (fun _ => ?_)
    · walk_at "rd"
      refine r_pick e1.bag m0 (by omega) fun s H2 e2 s0 s1 => ?_
      walk_at "rd"
      refine ⟨by show 1 ≤ sizeLine; decide, fun p hp => ?_⟩
      walk_at "rd"
      refine r_rep upd_same n0 (by omega) (by show 1 ≤ 100; decide) fun q hq => ?_
      walk_at "rd"
      refine ⟨_, _, rfl, .inl ⟨SqL.of upd_same, fun u hu => ?_⟩⟩
      have e3 : Bg K β H (upd H2 p (.lst [V.int s])) := ((e1.trans e2).trans (Bg.new e2.bag hp))
      have e4 := e3.trans (Bg.new (o := .lst (List.replicate n.toNat [V.int s]).flatten) e3.bag hq)
      refine fin q _ _ e4 upd_same ?_ ?_ u hu
      · rw [flat_rep, List.length_map, List.length_replicate]
        omega
      · intro i y hy
        rw [flat_rep, List.getElem?_map, List.getElem?_replicate] at hy
        split at hy
        · cases (show some (V.int s) = some y from hy)
          exact ⟨s, rfl, s0, s1⟩
        · cases hy
    · walk_at "rd"
      refine r_eq rfl ?_
      walk_at "rd"
      refine r_ifd (fun _ => ?_) (fun _ => ?_)
      · walk_at "rd"
        refine lcR (P := fun _ v _ => ∃ r, v = .int r ∧ 0 ≤ r ∧ r < m) way_bag (Bg.refl e1.bag) ⟨n0, by omega⟩ (fun _ _ _ _ _ p => p) (fun i H2 hi e2 Qe q => ?_) fun D H2 ys hD e2 hy hl hp => ?_
        · refine r_name ⟨rfl, ?_⟩
          walk_at "rd"
          refine r_I m0 ?_
          exact q _ _ (Bg.refl e2.bag) ⟨_, rfl, Int.emod_nonneg _ (by omega), Int.emod_lt_of_pos _ m0⟩
        · refine ⟨_, _, rfl, .inl ⟨SqL.of hy, fun u hu => ?_⟩⟩
          exact fin D _ _ (e1.trans e2) hy (by omega) hp u hu
      · walk_at "rd"
        refine lcR (P := fun _ v _ => ∃ r, v = .int r ∧ 0 ≤ r ∧ r < m) way_bag (Bg.refl e1.bag) ⟨n0, by omega⟩ (fun _ _ _ _ _ p => p) (fun i H2 hi e2 Qe q => ?_) fun D H2 ys hD e2 hy hl hp => ?_
        · refine r_name ⟨rfl, ?_⟩
          walk_at "rd"
          refine r_pick e2.bag m0 (by omega) fun s H3 e3 s0 s1 => ?_
          exact q _ _ e3 ⟨_, rfl, s0, s1⟩
        · refine ⟨_, _, rfl, .inl ⟨SqL.of hy, fun u hu => ?_⟩⟩
          exact fin D _ _ (e1.trans e2) hy (by omega) hp u hu
theorem sc_law_way_table : FnScope ["_law_bag", "_law_signs", "_law_table", "_law_way", "_law_found", "_law_spot", "_law_sign"] ["_law_bag", "_law_signs", "_law_table"] (defScope s_law_way_table) := ⟨rfl, rfl, rfl, by decide +kernel, rfl, by decide +kernel, by decide +kernel⟩
theorem ok_law_way_table (T : Txt K mg) : Ok P w K mg base 2 (He.ga K "_law_way_table") ["_law_bag", "_law_signs", "_law_table"] (spWayTable K) := by
  obtain ⟨fd, F⟩ := T.F_law_way_table
  have b : Binds K fd ["_law_bag", "_law_signs", "_law_table"] [] := F.bindsN fun _ _ _ _ _ _ us hl => match us, hl with | [_, _, _], _ => rfl
  refine ok_of F b sc_law_way_table (fun vs H Q E h => ?_) (fun cdv A outer s H vs Q E hr h => ?_)
  · obtain ⟨β, x, ws, rfl, _, ⟨rfl, _⟩, _⟩ := h
    rfl
  · obtain ⟨β, ⟨m, u, us⟩, ws, rfl, B, ⟨rfl, m0, m1, hu, hin, l0, l1⟩, k⟩ := h
    have m0 : 1 < m := m0
    have m1 : m < 1000 := m1
    have hu : Dp K H u (intsD us) := hu
    have hin : In m us := hin
    have l0 : 0 < us.length := l0
    have l1 : us.length ≤ 1000 := l1
    obtain ⟨a, rfl, ha⟩ := ints_at hu
    refine ⟨_, (pss_cons (ps_set (i := 3) sc_law_way_table.nd rfl (Or.inl rfl) (pk (ok_law_pick T) hr rfl T.g_law_pick (pa_cons (pv 0) (pa_cons pe_int pa_nil))))
  (pss_cons (ps_setLc (i := 4) (own := [("_law_sign", 6)]) rfl sc_law_way_table.nd rfl rfl (sw_true rfl rfl rfl (by decide +kernel)) (pi_tup (pv 2)) (blkOk_by (own := [("_law_sign", 6)]) (N := ["_law_bag", "_law_signs", "_law_table", "_law_way", "_law_found", "_law_spot", "_law_sign"]) (sc := defScope s_law_way_table) (by decide +kernel)) (fun _ _ _ _ _ => (pg_name (i := 6) sc_law_way_table.nd rfl (Or.inl rfl))) (fun _ _ _ _ _ => pts_nil) (fun _ _ _ _ _ => (pv 6)))
  (Evl.pss_cut (ps_if (pt_cmpR op_eq (pv 3) pe_int (by first | exact nomark _ | rfl)) (pss_one (ps_set (i := 4) sc_law_way_table.nd rfl (Or.inl rfl) (pe_op op_rep (pe_lst (pa_cons (pk (ok_law_pick T) hr rfl T.g_law_pick (pa_cons (pv 0) (pa_cons (pv 1) pa_nil))) pa_nil)) (pe_callB call_len_seq (by rfl) T.f_len (by decide +kernel) (pa_cons (pv 2) pa_nil))))) pss_nil)
  (Evl.pss_cut (ps_if (pt_cmpR op_eq (pv 3) pe_int (by first | exact nomark _ | rfl)) (pss_cons (ps_set (i := 5) sc_law_way_table.nd rfl (Or.inl rfl) (pk (ok_law_pick T) hr rfl T.g_law_pick (pa_cons (pv 0) (pa_cons (pe_callB call_len_seq (by rfl) T.f_len (by decide +kernel) (pa_cons (pv 2) pa_nil)) pa_nil))))
  (pss_one (ps_asg (pe_op op_mod (pe_callTy call_int1 (by rfl) T.f_int (by decide +kernel) (pa_cons (pe_op op_add (pe_ix ix_list (pv 4) (pv 5) (fun _ _ => rfl)) pe_int) pa_nil)) (pv 1)) (pg_sub (pv 4) (pv 5) set_list)))) pss_nil)
  (Evl.pss_cut (ps_if (pt_cmpR op_eq (pv 3) pe_int (by first | exact nomark _ | rfl)) (pss_one (ps_setLc (i := 4) (own := [("_law_sign", 6)]) rfl sc_law_way_table.nd rfl rfl (sw_true rfl rfl rfl (by decide +kernel)) (pi_tup (pv 2)) (blkOk_by (own := [("_law_sign", 6)]) (N := ["_law_bag", "_law_signs", "_law_table", "_law_way", "_law_found", "_law_spot", "_law_sign"]) (sc := defScope s_law_way_table) (by decide +kernel)) (fun _ _ _ _ _ => (pg_name (i := 6) sc_law_way_table.nd rfl (Or.inl rfl))) (fun _ _ _ _ _ => pts_nil) (fun _ _ _ _ _ => (pe_op op_mod (pe_callTy call_int1 (by rfl) T.f_int (by decide +kernel) (pa_cons (pe_op op_add (pv 6) pe_int) pa_nil)) (pv 1))))) pss_nil)
  (Evl.pss_cut (ps_if (pt_cmpR op_eq (pv 3) pe_int (by first | exact nomark _ | rfl)) (pss_one (ps_setLc (i := 4) (own := [("_law_sign", 6)]) rfl sc_law_way_table.nd rfl rfl (sw_true rfl rfl rfl (by decide +kernel)) (pi_tup (pv 2)) (blkOk_by (own := [("_law_sign", 6)]) (N := ["_law_bag", "_law_signs", "_law_table", "_law_way", "_law_found", "_law_spot", "_law_sign"]) (sc := defScope s_law_way_table) (by decide +kernel)) (fun _ _ _ _ _ => (pg_name (i := 6) sc_law_way_table.nd rfl (Or.inl rfl))) (fun _ _ _ _ _ => pts_nil) (fun _ _ _ _ _ => (pk (ok_law_pick T) hr rfl T.g_law_pick (pa_cons (pv 0) (pa_cons (pv 1) pa_nil)))))) pss_nil)
  (Evl.pss_cut (ps_if (pt_cmpR (op_eqD hr.units) (pe_callTy call_tuple_of (by rfl) T.f_tuple (by decide +kernel) (pa_cons (pv 4) pa_nil)) (pv 2) (by first | exact nomark _ | rfl)) (pss_one (ps_asg (pe_op op_mod (pe_callTy call_int1 (by rfl) T.f_int (by decide +kernel) (pa_cons (pe_op op_add (pe_ix ix_list (pv 4) pe_int (fun _ _ => rfl)) pe_int) pa_nil)) (pv 1)) (pg_sub (pv 4) pe_int set_list))) pss_nil)
  (pss_one (ps_ret (pe_callTy call_tuple_of (by rfl) T.f_tuple (by decide +kernel) (pa_cons (pv 4) pa_nil))))))))))), ?_⟩
    walk_at "rd"
    refine r_pick B (by decide) (by decide) fun r H1 e1 r0 r1 => ?_
    walk_at "rd"
    -- a list that a comprehension over numbers has made
    have made : ∀ (H1 : Hp), Bg K β H H1 → ∀ (D : Addr) (H2 : Hp) (ys : List V), H1 D = none → Bg K β H1 H2 → H2 D = some (.lst ys) → ys.length = us.length → (∀ (i : Nat) y, ys[i]? = some y → ∃ r, y = V.int r ∧ 0 ≤ r ∧ r < m) →
        ∃ fs, Mk1 K β H m us.length D fs H2 := by
      intro H1 e1 D H2 ys nD e2 hD hl hp
      obtain ⟨ts, rfl, ht⟩ := ints_read hp
      exact ⟨ts, e1.trans e2, e1.none nD, hD, by rw [List.length_map] at hl; exact hl, ht⟩
    refine lcT (P := fun _ v _ => ∃ r, v = .int r ∧ 0 ≤ r ∧ r < m) way_bag (Bg.refl e1.bag) (e1.tup ha) (by rw [List.length_map]; omega) (fun _ _ _ _ _ p => p) (fun i x H2 hi e2 Qe q => ?_) fun D H2 ys hD e2 hy hl hp => ?_
    · rw [List.getElem?_map] at hi
      obtain ⟨t, ht, rfl⟩ := Option.map_eq_some_iff.mp hi
      refine r_name ⟨rfl, ?_⟩
      walk_at "rd"
      exact q _ _ (Bg.refl e2.bag) ⟨t, rfl, hin t (List.mem_of_getElem? ht)⟩
    rw [List.length_map] at hl
    obtain ⟨fs, M⟩ := made H1 e1 D H2 ys hD e2 hy hl hp
    walk_at "rd"
    refine ⟨fun σ' H' => ∃ l fs o1 o2, σ' = [some (.ref β.b), some (.int m), some (.ref a), some (.int r), some (.ref l), o1, o2] ∧ Mk1 K β H m us.length l fs H', ?_, ?_⟩
    · walk_at "rd"
      refine r_eq rfl ?_
      walk_at "rd"
      refine r_ifd (fun _ => ?_) (fun _ => ?_)
      · walk_at "rd"
        refine r_pick M.bg.bag (by omega) (by omega) fun s H3 e3 s0 s1 => ?_
        walk_at "rd"
        refine ⟨by show 1 ≤ sizeLine; decide, fun p hp => ?_⟩
        walk_at "rd"
        have e4 : Bg K β H (upd H3 p (.lst [V.int s])) := (M.bg.trans e3).trans (Bg.new e3.bag hp)
        refine ⟨_, _, rfl, .inr (e4.tup ha), ?_⟩
        rw [List.length_map]
        refine r_rep upd_same (by omega) (by omega) (by show 1 ≤ 100; decide) fun q hq => ?_
        walk_at "rd"
        refine ⟨q, List.replicate us.length s, _, _, rfl, ⟨e4.trans (Bg.new e4.bag hq), e4.none hq, ?_, List.length_replicate, in_rep s0 s1⟩⟩
        rw [upd_same, flat_rep, Int.toNat_natCast]
      · walk_at "rd"
        exact ⟨D, fs, _, _, rfl, M⟩
    rintro σ' H2 ⟨l, fs, o1, o2, rfl, M⟩
    refine ⟨fun σ' H' => ∃ l fs o1 o2, σ' = [some (.ref β.b), some (.int m), some (.ref a), some (.int r), some (.ref l), o1, o2] ∧ Mk1 K β H m us.length l fs H', ?_, ?_⟩
    · walk_at "rd"
      refine r_eq rfl ?_
      walk_at "rd"
      refine r_ifd (fun _ => ?_) (fun _ => ?_)
      · walk_at "rd"
        refine ⟨_, _, rfl, .inr (M.bg.tup ha), ?_⟩
        rw [List.length_map]
        walk_at "rd"
        refine r_pick M.bg.bag (by omega) (by omega) fun s H3 e3 s0 s1 => ?_
        obtain ⟨j, rfl⟩ : ∃ j : Nat, s = (j : Int) := ⟨s.toNat, by omega⟩
        have hj : j < fs.length := by rw [M.len]; omega
        have hl3 := way_bag.lst e3 M.at_
        walk_at "rd"
        refine r_ixL (SqL.of hl3) (atI_nat (by rw [List.getElem?_map, List.getElem?_eq_getElem hj]; rfl)) ?_
        walk_at "rd"
        refine r_I (by omega) ?_
        walk_at "rd"
        refine r_setL hl3 (by rw [List.length_map]; exact hj) ?_
        walk_at "rd"
        refine ⟨l, fs.set j ((fs[j] + 1) % m), _, _, rfl, ⟨(M.bg.trans e3).mut M.nw, M.nw, ?_, by rw [List.length_set]; exact M.len, in_set M.in_ (Int.emod_nonneg _ (by omega)) (Int.emod_lt_of_pos _ (by omega))⟩⟩
        rw [upd_same, List.map_set]
      · walk_at "rd"
        exact ⟨l, fs, _, _, rfl, M⟩
    rintro σ' H2 ⟨l, fs, o1, o2, rfl, M⟩
    refine ⟨fun σ' H' => ∃ l fs o1 o2, σ' = [some (.ref β.b), some (.int m), some (.ref a), some (.int r), some (.ref l), o1, o2] ∧ Mk1 K β H m us.length l fs H', ?_, ?_⟩
    · walk_at "rd"
      refine r_eq rfl ?_
      walk_at "rd"
      refine r_ifd (fun _ => ?_) (fun _ => ?_)
      · walk_at "rd"
        refine lcT (P := fun _ v _ => ∃ r, v = .int r ∧ 0 ≤ r ∧ r < m) way_bag (Bg.refl M.bg.bag) (M.bg.tup ha) (by rw [List.length_map]; omega) (fun _ _ _ _ _ p => p) (fun i x H3 hi e2 Qe q => ?_) fun D H3 ys hD e3 hy hl hp => ?_
        · rw [List.getElem?_map] at hi
          obtain ⟨t, ht, rfl⟩ := Option.map_eq_some_iff.mp hi
          refine r_name ⟨rfl, ?_⟩
          walk_at "rd"
          refine r_I (by omega) ?_
          exact q _ _ (Bg.refl e2.bag) ⟨_, rfl, Int.emod_nonneg _ (by omega), Int.emod_lt_of_pos _ (by omega)⟩
        · rw [List.length_map] at hl
          obtain ⟨fs, M⟩ := made H2 M.bg D H3 ys hD e3 hy hl hp
          walk_at "rd"
          exact ⟨D, fs, _, _, rfl, M⟩
      · walk_at "rd"
        exact ⟨l, fs, _, _, rfl, M⟩
    rintro σ' H2 ⟨l, fs, o1, o2, rfl, M⟩
    refine ⟨fun σ' H' => ∃ l fs o1 o2, σ' = [some (.ref β.b), some (.int m), some (.ref a), some (.int r), some (.ref l), o1, o2] ∧ Mk1 K β H m us.length l fs H', ?_, ?_⟩
    · walk_at "rd"
      refine r_eq rfl ?_
      walk_at "rd"
      refine r_ifd (fun _ => ?_) (fun _ => ?_)
      · walk_at "rd"
        refine lcT (P := fun _ v _ => ∃ r, v = .int r ∧ 0 ≤ r ∧ r < m) way_bag (Bg.refl M.bg.bag) (M.bg.tup ha) (by rw [List.length_map]; omega) (fun _ _ _ _ _ p => p) (fun i x H3 hi e2 Qe q => ?_) fun D H3 ys hD e3 hy hl hp => ?_
        · refine r_name ⟨rfl, ?_⟩
          walk_at "rd"
          refine r_pick e2.bag (by omega) (by omega) fun s H4 e4 s0 s1 => ?_
          exact q _ _ e4 ⟨_, rfl, s0, s1⟩
        · rw [List.length_map] at hl
          obtain ⟨fs, M⟩ := made H2 M.bg D H3 ys hD e3 hy hl hp
          walk_at "rd"
          exact ⟨D, fs, _, _, rfl, M⟩
      · walk_at "rd"
        exact ⟨l, fs, _, _, rfl, M⟩
    rintro σ' H2 ⟨l, fs, o1, o2, rfl, M⟩
    -- it is another one
    refine ⟨fun σ' H' => ∃ l fs o1 o2, σ' = [some (.ref β.b), some (.int m), some (.ref a), some (.int r), some (.ref l), o1, o2] ∧ Mk1 K β H m us.length l fs H' ∧ fs ≠ us, ?_, ?_⟩
    · walk_at "rd"
      refine ⟨_, _, rfl, .inl ⟨SqL.of M.at_, fun q hq => ?_⟩⟩
      have e3 : Bg K β H (upd H2 q (.tup (fs.map V.int))) := M.bg.trans (Bg.new M.bg.bag hq)
      walk_at "rd"
      refine r_eqD (ints_of (SqT.of upd_same)) (ints_of (e3.tup ha)) shaped_ints shaped_ints ?_
      rw [eqv_intsD]
      walk_at "rd"
      have M3 : Mk1 K β H m us.length l fs (upd H2 q (.tup (fs.map V.int))) := ⟨e3, M.nw, by rw [upd_ne (ne_of_none M.at_ hq)]; exact M.at_, M.len, M.in_⟩
      refine r_ifd (fun same => ?_) (fun other => ?_)
      · subst same
        obtain ⟨t, r', rfl⟩ : ∃ t r', fs = t :: r' := by
          cases fs with
          | nil => simp at l0
          | cons t r' => exact ⟨t, r', rfl⟩
        walk_at "rd"
        refine r_ixL (SqL.of M3.at_) (v := V.int t) (atI_nat (j := 0) (by rfl)) ?_
        walk_at "rd"
        refine r_I (by omega) ?_
        walk_at "rd"
        refine r_setL (j := 0) M3.at_ (by simp) ?_
        walk_at "rd"
        have t0 := hin t (List.mem_cons_self ..)
        refine ⟨l, ((t + 1) % m) :: r', _, _, rfl, ⟨M3.bg.mut M.nw, M.nw, by rw [upd_same]; rfl, rfl, ?_⟩, ?_⟩
        · intro z hz
          rcases List.mem_cons.mp hz with rfl | hz
          · exact ⟨Int.emod_nonneg _ (by omega), Int.emod_lt_of_pos _ (by omega)⟩
          · exact hin z (List.mem_cons_of_mem _ hz)
        · intro e
          have e1 : (t + 1) % m = t := (List.cons.inj e).1
          by_cases h : t + 1 < m
          · rw [Int.emod_eq_of_lt (by omega) h] at e1
            omega
          · have : t + 1 = m := by omega
            rw [this, Int.emod_self] at e1
            omega
      · walk_at "rd"
        exact ⟨l, fs, _, _, rfl, M3, other⟩
    rintro σ' H2 ⟨l, fs, o1, o2, rfl, M, other⟩
    walk_at "rd"
    refine ⟨_, _, rfl, .inl ⟨SqL.of M.at_, fun q hq => ?_⟩⟩
    exact k _ _ (M.bg.trans (Bg.new M.bg.bag hq)) ⟨fs, ints_of (SqT.of upd_same), M.len, M.in_, other⟩
end
end Tx

/-! ## Dr4 -/
set_option maxHeartbeats 4000000
/-! Draws: a kind. -/
namespace Tx
open PySem PySem.Spec PyProof.Rows L2 Gd
local macro_rules | `(tactic| walk_at "rd1") => `(tactic| first
  | ((with_reducible show tVar _ _ _ _); refine r_var (by rfl) ?_)
  | with_reducible refine r_c ?_
  | with_reducible refine r_seq ?_
  | with_reducible refine r_asg ?_
  | with_reducible refine r_name ?_
  | with_reducible refine r_op ?_
  | with_reducible refine r_I0 ?_
  | with_reducible refine r_cons ?_
  | with_reducible refine r_nil ?_
  | with_reducible refine r_call ?_
  | with_reducible refine r_ret ?_
  | with_reducible refine r_cb ?_
  | with_reducible refine r_ifS ?_
  | with_reducible refine r_test ?_
  | with_reducible refine r_bl ?_
  | with_reducible refine r_dget ?_
  | with_reducible refine r_dput ?_
  | ((with_reducible show (∃ k, [V.int _] = [V.int k] ∧ _) ∨ _); refine Or.inl ⟨_, rfl, ?_⟩)
  | with_reducible refine r_lcR ?_
  | with_reducible refine r_lcL ?_
  | with_reducible refine r_lcT ?_
  | with_reducible refine r_m1 ?_
  | with_reducible refine r_gSub ?_
  | with_reducible refine r_forR ?_
  | with_reducible refine r_forL ?_
  | with_reducible refine r_forT ?_
  | with_reducible refine r_bm ?_
  | with_reducible refine r_next ?_
  | with_reducible refine r_B ?_
  | with_reducible refine r_not ?_
  | with_reducible refine r_and ?_
  | with_reducible refine r_or ?_
  | with_reducible refine r_andV ?_
  | with_reducible refine r_orV ?_
  | with_reducible refine r_notV ?_
  | with_reducible refine r_ifE ?_
  | with_reducible refine r_drop ?_
  | with_reducible refine r_tup ?_
  | with_reducible refine r_lst ?_
  | with_reducible refine r_un ?_
  | with_reducible refine r_U ?_)
local macro_rules | `(tactic| walk_at "rd") => `(tactic| repeat walk_at "rd1")
theorem DpAll.append {K : Frg} {H : Hp} : ∀ {vs us : List V} {ds es : List PyData}, DpAll K H vs ds → DpAll K H us es → DpAll K H (vs ++ us) (ds ++ es)
  | _, _, _, _, .nil, h => h
  | _, _, _, _, .cons a b, h => .cons a (DpAll.append b h)
/-- a way, told -/
structure WD where
  word : Str
  name : Str
  table : List Int
def WD.data (w : WD) : PyData := .tuple [.str w.word, .str w.name, intsD w.table]
/-- a kind, told -/
structure KD where
  name : Str
  inputs : Nat
  table : List Int
  start : Option Int
  ways : List WD
  price : Int
def startD : Option Int → PyData
  | none => .none
  | some s => .int s
def startV : Option Int → V
  | none => .non
  | some s => .int s
def waysD (ws : List WD) : PyData := .tuple (ws.map WD.data)
def KD.data (k : KD) : PyData := .tuple [.str k.name, .int k.inputs, intsD k.table, startD k.start, waysD k.ways, .int k.price]
/-- how long a table is -/
def szOf (m : Int) (i : Nat) (b : Bool) : Int := m ^ i * (if b then m else 1)
def Mm (m : Int) : Prop := m = 2 ∨ m = 3
theorem sz_lo {m : Int} {i : Nat} {b : Bool} (hm : Mm m) (hi : i ≤ 2) : 0 < szOf m i b := by
  rcases hm with rfl | rfl <;> cases b <;> (rcases i with _ | _ | _ | i <;> first | decide | omega)
theorem sz_hi {m : Int} {i : Nat} {b : Bool} (hm : Mm m) (hi : i ≤ 2) : szOf m i b ≤ 27 := by
  rcases hm with rfl | rfl <;> cases b <;> (rcases i with _ | _ | _ | i <;> first | decide | omega)
/-- a good way of a kind -/
structure GoodW (m : Int) (table : List Int) (w : WD) : Prop where
  word : w.word = Str.ofString "stands" ∨ w.word = Str.ofString "flees"
  name : GoodN w.name
  len : w.table.length = table.length
  in_ : In m w.table
  ne : w.table ≠ table
structure GoodK (m : Int) (k : KD) : Prop where
  m_ : Mm m
  name : GoodN k.name
  inputs : k.inputs ≤ 2
  len : (k.table.length : Int) = szOf m k.inputs k.start.isSome
  in_ : In m k.table
  start : ∀ s, k.start = some s → 0 ≤ s ∧ s < m
  ways : ∀ w ∈ k.ways, GoodW m k.table w
  nd : (k.ways.map WD.name).Nodup
  most : k.ways.length ≤ 6
  p0 : 0 ≤ k.price
  p1 : k.price ≤ 600
theorem flat_wd (w : WD) : flatD w.data = true := by simp [WD.data, flatD, flatDs, flat_intsD]
theorem flat_wds (ws : List WD) : flatDs (ws.map WD.data) = true := by
  induction ws with
  | nil => simp [flatDs]
  | cons w r ih => rw [List.map_cons, flatDs, flat_wd, ih]; rfl
theorem flat_start (s : Option Int) : flatD (startD s) = true := by cases s <;> rfl
theorem flat_kd (k : KD) : flatD k.data = true := by
  simp [KD.data, waysD, flatD, flatDs, flat_intsD, flat_wds, flat_start]
theorem dp_start {K : Frg} {H : Hp} : ∀ s, Dp K H (startV s) (startD s)
  | none => .non
  | some s => .int s
theorem size_at {m : Int} {i : Nat} (hi : i ≤ 2) : atI [V.int 1, V.int m, V.int (m * m)] (i : Int) = some (V.int (m ^ i)) := by
  refine atI_nat ?_
  rcases i with _ | _ | _ | i
  · show some (V.int 1) = some (V.int (m ^ 0)); rw [Int.pow_zero]
  · show some (V.int m) = some (V.int (m ^ 1)); rw [Int.pow_succ, Int.pow_zero, Int.one_mul]
  · show some (V.int (m * m)) = some (V.int (m ^ 2)); rw [Int.pow_succ, Int.pow_succ, Int.pow_zero, Int.one_mul]
  · omega
/-- ways so far -/
structure WyI (m : Int) (table : List Int) (ns : List Str) (i : Nat) (ws : List WD) : Prop where
  len : ws.length = i
  names : ws.map WD.name = ns.take i
  good : ∀ w ∈ ws, GoodW m table w
def spKindOf (K : Frg) : Sp := spDraw K (fun (x : Int × Str × Nat × Bool) ws _ => ws = [.int x.1, .str x.2.1, .int x.2.2.1, .bl x.2.2.2, .int 6] ∧ Mm x.1 ∧ GoodN x.2.1 ∧ x.2.2.1 ≤ 2)
  fun x _ v H' => ∃ k : KD, Dp K H' v k.data ∧ GoodK x.1 k ∧ k.name = x.2.1
theorem r_kindOf {K : Frg} {β : Bag} {H : Hp} {Q : VK} {E : XK} {m : Int} {s : Str} {i : Nat} {b : Bool} (B : BagAt K β H) (hm : Mm m) (hs : GoodN s) (hi : i ≤ 2)
    (h : ∀ v (k : KD) H', Bg K β H H' → Dp K H' v k.data → GoodK m k → k.name = s → Q v H') : spKindOf K ([.ref β.b, .int m, .str s, .int (i : Int), .bl b, .int 6] ++ []) H Q E :=
  ⟨β, (m, s, i, b), _, rfl, B, ⟨rfl, hm, hs, hi⟩, by rintro v H' e ⟨k, l, n, g⟩; exact h v k H' e l n g⟩
section
variable {P : Program} {w : World} {K : Frg} {mg : Str → Option Value} {base : Heap}
theorem sc_law_kind_of : FnScope ["_law_bag", "_law_signs", "_law_name", "_law_inputs", "_law_keeps", "_law_top", "_law_size", "_law_first", "_law_table", "_law_told", "_law_way"] ["_law_bag", "_law_signs", "_law_name", "_law_inputs", "_law_keeps", "_law_top"] (defScope s_law_kind_of) := ⟨rfl, rfl, rfl, by decide +kernel, rfl, by decide +kernel, by decide +kernel⟩
theorem ok_law_kind_of (T : Txt K mg) : Ok P w K mg base 4 (He.ga K "_law_kind_of") ["_law_bag", "_law_signs", "_law_name", "_law_inputs", "_law_keeps", "_law_top"] (spKindOf K) := by
  obtain ⟨fd, F⟩ := T.F_law_kind_of
  have b : Binds K fd ["_law_bag", "_law_signs", "_law_name", "_law_inputs", "_law_keeps", "_law_top"] [] := F.bindsN fun _ _ _ _ _ _ us hl => match us, hl with | [_, _, _, _, _, _], _ => rfl
  refine ok_of F b sc_law_kind_of (fun vs H Q E h => ?_) (fun cdv A outer s H vs Q E hr h => ?_)
  · obtain ⟨β, x, ws, rfl, _, ⟨rfl, _⟩, _⟩ := h
    rfl
  · obtain ⟨β, ⟨m, s, i, b⟩, ws, rfl, B, ⟨rfl, hm, hs, hi⟩, k⟩ := h
    have hm : Mm m := hm
    have hs : GoodN s := hs
    have hi : i ≤ 2 := hi
    have m2 : 2 ≤ m := by rcases hm with rfl | rfl <;> decide
    have m3 : m ≤ 3 := by rcases hm with rfl | rfl <;> decide
    dsimp only
    refine ⟨_, (pss_cons (ps_set (i := 6) sc_law_kind_of.nd rfl (Or.inl rfl) (pe_ix ix_list (pe_lst (pa_cons pe_int (pa_cons (pv 1) (pa_cons (pe_op op_mul (pv 1) (pv 1)) pa_nil)))) (pv 3) (fun _ _ => rfl)))
  (pss_cons (ps_set (i := 7) sc_law_kind_of.nd rfl (Or.inl rfl) pe_non)
  (Evl.pss_cut (ps_if (pt_val (pv 4)) (pss_cons (ps_set (i := 7) sc_law_kind_of.nd rfl (Or.inl rfl) (pk (ok_law_pick T) hr rfl T.g_law_pick (pa_cons (pv 0) (pa_cons (pv 1) pa_nil))))
  (pss_one (ps_set (i := 6) sc_law_kind_of.nd rfl (Or.inl rfl) (pe_op op_mul (pv 6) (pv 1))))) pss_nil)
  (pss_cons (ps_set (i := 8) sc_law_kind_of.nd rfl (Or.inl rfl) (pk (ok_law_table_of T) hr rfl T.g_law_table_of (pa_cons (pv 0) (pa_cons (pv 1) (pa_cons (pv 6) pa_nil)))))
  (pss_cons (ps_set (i := 9) sc_law_kind_of.nd rfl (Or.inl rfl) (pe_lst pa_nil))
  (pss_cons (ps_for PassesOwn.never rfl (pi_list (pk (ok_law_names T) hr rfl T.g_law_names (pa_cons (pv 0) (pa_cons (pk (ok_law_pick T) hr rfl T.g_law_pick (pa_cons (pv 0) (pa_cons (pe_op op_add (pv 5) pe_int) pa_nil))) pa_nil)))) (pg_name (i := 10) sc_law_kind_of.nd rfl (Or.inl rfl)) (pss_one (ps_expr (pe_bm PySem.F.plainAttrs_list PySem.F.slot_list_append PySem.F.type_list_append mt_append (pv 9) (pa_cons (pe_tup (pa_cons (pe_ix ix_list (pe_lst (pa_cons pe_str (pa_cons pe_str (pa_cons pe_str pa_nil)))) (pk (ok_law_pick T) hr rfl T.g_law_pick (pa_cons (pv 0) (pa_cons pe_int pa_nil))) (fun _ _ => rfl)) (pa_cons (pv 10) (pa_cons (pk (ok_law_way_table T) hr rfl T.g_law_way_table (pa_cons (pv 0) (pa_cons (pv 1) (pa_cons (pv 8) pa_nil)))) pa_nil)))) pa_nil)))))
  (pss_one (ps_ret (pe_tup (pa_cons (pv 2) (pa_cons (pv 3) (pa_cons (pv 8) (pa_cons (pv 7) (pa_cons (pe_callTy call_tuple_of (by rfl) T.f_tuple (by decide +kernel) (pa_cons (pv 9) pa_nil)) (pa_cons (pk (ok_law_choice T) hr rfl T.g_law_choice (pa_cons (pv 0) (pa_cons (pe_lst (pa_cons pe_int (pa_cons pe_int (pa_cons pe_int (pa_cons pe_int (pa_cons pe_int pa_nil)))))) pa_nil))) pa_nil))))))))))))))), ?_⟩
    walk_at "rd"
    refine r_I (.inl ⟨by omega, by omega⟩) ?_
    walk_at "rd"
    refine ⟨by show 3 ≤ sizeLine; decide, fun p hp => ?_⟩
    walk_at "rd"
    have e1 : Bg K β H (upd H p (.lst [V.int 1, V.int m, V.int (m * m)])) := Bg.new B hp
    refine r_ixL (SqL.of upd_same) (size_at hi) ?_
    walk_at "rd"
    -- with a start or without
    refine ⟨fun σ' H' => ∃ st : Option Int, σ' = [some (.ref β.b), some (.int m), some (.str s), some (.int i), some (.bl b), some (.int 6), some (.int (szOf m i st.isSome)), some (startV st), none, none, none] ∧
      Bg K β H H' ∧ ∀ x, st = some x → 0 ≤ x ∧ x < m, ?_, ?_⟩
    · cases b with
      | true =>
        walk_at "rd"
        refine r_iT ?_
        walk_at "rd"
        refine r_pick e1.bag (by omega) (by omega) fun r H1 e2 r0 r1 => ?_
        walk_at "rd"
        refine r_I (.inr ⟨by omega, by omega⟩) ?_
        walk_at "rd"
        exact ⟨some r, rfl, e1.trans e2, fun x h => by cases h; exact ⟨r0, r1⟩⟩
      | false =>
        walk_at "rd"
        refine r_iF ?_
        walk_at "rd"
        exact ⟨none, by rw [szOf, Option.isSome_none, if_neg Bool.false_ne_true, Int.mul_one]; rfl, e1, fun x h => by cases h⟩
    rintro σ' H1 ⟨st, rfl, e2, hst⟩
    walk_at "rd"
    refine r_table e2.bag (by omega) (by omega) (Int.le_of_lt (sz_lo hm hi)) (Int.le_trans (sz_hi hm hi) (by decide)) fun tv ts H2 e3 ht hl hin => ?_
    obtain ⟨ta, rfl, hta⟩ := ints_at ht
    have e3 := e2.trans e3
    have l0 : 0 < ts.length := by have := sz_lo (b := st.isSome) hm hi; omega
    have l1 : ts.length ≤ 27 := by have := sz_hi (b := st.isSome) hm hi; omega
    walk_at "rd"
    refine ⟨by decide, fun l nl => ?_⟩
    have nl0 := e3.none nl
    have e4 : Bg K β H (upd H2 l (.lst [])) := e3.mut nl0
    have hta := (Bg.new (o := .lst []) e3.bag nl).tup hta
    walk_at "rd"
    refine r_pick e4.bag (by decide) (by decide) fun r H3 e5 r0 r1 => ?_
    have hL := way_bag.lst e5 (upd_same : upd H2 l (.lst []) l = _)
    have hta := e5.tup hta
    have e5 := e4.trans e5
    walk_at "rd"
    refine r_names e5.bag r0 (by omega) fun pn ns H4 e6 nn hn hnl N => ?_
    have npl : l ≠ pn := ne_of_none hL nn
    have hL := way_bag.lst e6 hL
    have hta := e6.tup hta
    have e6 := e5.trans e6
    walk_at "rd"
    refine forL (fun j σ' H' => ∃ (vs : List V) (wl : List WD) (o : Option V), σ' = [some (.ref β.b), some (.int m), some (.str s), some (.int i), some (.bl b), some (.int 6), some (.int (szOf m i st.isSome)), some (startV st), some (.ref ta), some (.ref l), o] ∧
      Bg K β H H' ∧ H' l = some (.lst vs) ∧ DpAll K H' vs (wl.map WD.data) ∧ H' pn = some (.lst (ns.map V.str)) ∧ SqT K H' ta (ts.map V.int) ∧ WyI m ts ns j wl) (SqL.of hn)
      ⟨[], [], none, rfl, e6, hL, .nil, hn, hta, ⟨rfl, rfl, by simp⟩⟩ (fun j σ' H' _ p => ?_) ?_ ?_
    · obtain ⟨_, _, _, _, _, _, _, p, _⟩ := p
      exact SqL.of p
    · rintro j x σ' H5 hx ⟨vs, wl, o, rfl, e7, hL, hvs, hn, hta, I⟩
      rw [List.getElem?_map] at hx
      obtain ⟨nm, hnm, rfl⟩ := Option.map_eq_some_iff.mp hx
      have hj : j < ns.length := (List.getElem?_eq_some_iff.mp hnm).1
      walk_at "rd"
      refine r_tyL hL ?_
      walk_at "rd"
      refine ⟨by show 3 ≤ sizeLine; decide, fun q hq => ?_⟩
      walk_at "rd"
      have e8 : Bg K β H5 (upd H5 q (.lst [V.str (Str.ofString "stands"), V.str (Str.ofString "stands"), V.str (Str.ofString "flees")])) := Bg.new e7.bag hq
      refine r_pick e8.bag (by decide) (by decide) fun r H6 e9 r0 r1 => ?_
      obtain ⟨wd, hw, hwd⟩ : ∃ wd : Str, atI [V.str (Str.ofString "stands"), V.str (Str.ofString "stands"), V.str (Str.ofString "flees")] r = some (.str wd) ∧ (wd = Str.ofString "stands" ∨ wd = Str.ofString "flees") := by
        have : r = 0 ∨ r = 1 ∨ r = 2 := by omega
        rcases this with rfl | rfl | rfl
        · exact ⟨_, rfl, .inl rfl⟩
        · exact ⟨_, rfl, .inl rfl⟩
        · exact ⟨_, rfl, .inr rfl⟩
      refine r_ixL (SqL.of (way_bag.lst e9 upd_same)) hw ?_
      walk_at "rd"
      have e10 := e8.trans e9
      refine r_wayTable (us := ts) e10.bag (by omega) (by omega) (ints_of (e10.tup hta)) hin l0 (by omega) fun wv us H7 e11 hus hul huin hune => ?_
      have e12 := e10.trans e11
      walk_at "rd"
      refine ⟨by show 3 ≤ sizeLine; decide, fun p2 hp2 => ?_⟩
      have e13 : Bg K β H5 (upd H7 p2 (.tup [V.str wd, V.str nm, wv])) := e12.trans (Bg.new e12.bag hp2)
      have e13' : Bg K β H7 (upd H7 p2 (.tup [V.str wd, V.str nm, wv])) := Bg.new e12.bag hp2
      walk_at "rd"
      have hL2 := way_bag.lst e13 hL
      have hwl : wl.length = j := I.len
      have hvl : vs.length = wl.length := by rw [DpAll.len hvs, List.length_map]
      refine r_append hL2 (by omega) ?_
      walk_at "rd"
      have up := (way_bag.sd e13).trans (Sd.lst (o := .lst (vs ++ [.ref p2])) hL2)
      refine ⟨vs ++ [.ref p2], wl ++ [⟨wd, nm, us⟩], _, rfl, (e7.trans e13).mut nl0, upd_same, ?_, ?_, up.tup hta, ?_⟩
      · rw [List.map_append]
        refine Tx.DpAll.append (DpAll.sd up _ _ (flat_wds wl) hvs) (.cons ?_ .nil)
        refine Dp.sd (Sd.lst hL2) _ _ (flat_wd _) ?_
        exact .tup (SqT.of upd_same) (.cons (.str _) (.cons (.str _) (.cons (Dp.sd (way_bag.sd e13') _ _ flat_intsD hus) .nil)))
      · rw [upd_ne npl.symm]
        exact way_bag.lst e13 hn
      · refine ⟨by rw [List.length_append, hwl]; rfl, ?_, fun w hw => ?_⟩
        · rw [List.map_append, I.names, List.take_succ, hnm]
          rfl
        · rcases List.mem_append.mp hw with hw | hw
          · exact I.good w hw
          · rw [List.mem_singleton.mp hw]
            exact ⟨hwd, N.good nm (List.mem_of_getElem? hnm), hul, huin, hune⟩
    · rintro σ' H5 ⟨vs, wl, o, rfl, e7, hL, hvs, hn, hta, I⟩
      walk_at "rd"
      have hwl : wl.length = ns.length := by rw [I.len, List.length_map]
      have hnl6 : ns.length ≤ 6 := by omega
      refine ⟨_, _, rfl, .inl ⟨SqL.of hL, fun q hq => ?_⟩⟩
      have e8 : Bg K β H5 (upd H5 q (.tup vs)) := Bg.new e7.bag hq
      walk_at "rd"
      refine ⟨by show 5 ≤ sizeLine; decide, fun p2 hp2 => ?_⟩
      walk_at "rd"
      have e9 := e8.trans (Bg.new (o := .lst [V.int 0, V.int 1, V.int 5, V.int 37, V.int 600]) e8.bag hp2)
      refine r_choice e9.bag (SqL.of upd_same) (by decide) (by decide) fun j pv H6 hpv e10 => ?_
      obtain ⟨pr, rfl, p0, p1⟩ : ∃ pr : Int, pv = .int pr ∧ 0 ≤ pr ∧ pr ≤ 600 := by
        have := List.mem_of_getElem? hpv
        simp only [List.mem_cons, List.not_mem_nil, or_false] at this
        rcases this with rfl | rfl | rfl | rfl | rfl <;> exact ⟨_, rfl, by decide, by decide⟩
      walk_at "rd"
      refine ⟨by show 6 ≤ sizeLine; decide, fun p3 hp3 => ?_⟩
      have e11 := e9.trans e10
      have up := (way_bag.sd e11).trans (Sd.new (o := .tup [V.str s, V.int ↑i, V.ref ta, startV st, V.ref q, V.int pr]) hp3)
      have hq2 := (((Bg.new (o := .lst [V.int 0, V.int 1, V.int 5, V.int 37, V.int 600]) e8.bag hp2).trans e10).trans (Bg.new (o := .tup [V.str s, V.int ↑i, V.ref ta, startV st, V.ref q, V.int pr]) e11.bag hp3)).tup (SqT.of (upd_same : upd H5 q (.tup vs) q = _))
      refine k _ _ ((e7.trans e11).trans (Bg.new e11.bag hp3)) ⟨⟨s, i, ts, st, wl, pr⟩, ?_, ⟨hm, hs, hi, hl, hin, hst, I.good, ?_, by show wl.length ≤ 6; omega, p0, p1⟩, rfl⟩
      · refine .tup (SqT.of upd_same) (.cons (.str _) (.cons (.int _) (.cons (ints_of (up.tup hta)) (.cons (dp_start st) (.cons (.tup hq2 (DpAll.sd up _ _ (flat_wds wl) hvs)) (.cons (.int _) .nil))))))
      · show (wl.map WD.name).Nodup
        rw [I.names, List.length_map, List.take_of_length_le (Nat.le_refl _)]
        exact N.nd
end
end Tx

/-! ## Dr5 -/
set_option maxHeartbeats 4000000
/-! Draws: what is told of a catalogue; the bag. -/
namespace Tx
open PySem PySem.Spec PyProof.Rows L2 Gd
local macro_rules | `(tactic| walk_at "rd1") => `(tactic| first
  | ((with_reducible show tVar _ _ _ _); refine r_var (by rfl) ?_)
  | with_reducible refine r_c ?_
  | with_reducible refine r_seq ?_
  | with_reducible refine r_asg ?_
  | with_reducible refine r_name ?_
  | with_reducible refine r_op ?_
  | with_reducible refine r_I0 ?_
  | with_reducible refine r_cons ?_
  | with_reducible refine r_nil ?_
  | with_reducible refine r_call ?_
  | with_reducible refine r_ret ?_
  | with_reducible refine r_cb ?_
  | with_reducible refine r_ifS ?_
  | with_reducible refine r_test ?_
  | with_reducible refine r_bl ?_
  | with_reducible refine r_dget ?_
  | with_reducible refine r_dput ?_
  | ((with_reducible show (∃ k, [V.int _] = [V.int k] ∧ _) ∨ _); refine Or.inl ⟨_, rfl, ?_⟩)
  | with_reducible refine r_lcR ?_
  | with_reducible refine r_lcL ?_
  | with_reducible refine r_lcT ?_
  | with_reducible refine r_m1 ?_
  | with_reducible refine r_gSub ?_
  | with_reducible refine r_forR ?_
  | with_reducible refine r_forL ?_
  | with_reducible refine r_forT ?_
  | with_reducible refine r_bm ?_
  | with_reducible refine r_next ?_
  | with_reducible refine r_B ?_
  | with_reducible refine r_not ?_
  | with_reducible refine r_and ?_
  | with_reducible refine r_or ?_
  | with_reducible refine r_andV ?_
  | with_reducible refine r_orV ?_
  | with_reducible refine r_notV ?_
  | with_reducible refine r_ifE ?_
  | with_reducible refine r_drop ?_
  | with_reducible refine r_tup ?_
  | with_reducible refine r_lst ?_
  | with_reducible refine r_un ?_
  | with_reducible refine r_U ?_)
local macro_rules | `(tactic| walk_at "rd") => `(tactic| repeat walk_at "rd1")
abbrev kSg : Key := .inr "signs"
abbrev kKd : Key := .inr "kinds"
theorem n_sk : kSg ≠ kKd := by decide +kernel
def toldL (m : Int) (l : Addr) : List (Key × V) := [(kSg, .int m), (kKd, .ref l)]
theorem told_merge {m : Int} {l : Addr} : mergeK [] (toldL m l) = toldL m l := by
  have e : (("signs" : Str) = ("kinds" : Str)) = False := by simp only [eq_iff_iff, iff_false]; decide +kernel
  simp [mergeK, toldL, putK, e]
theorem told_sg {m : Int} {l : Addr} : valV (toldL m l) kSg = some (.int m) := by unfold toldL; rw [valV_cons, if_pos rfl]
theorem told_kd {m : Int} {l : Addr} : valV (toldL m l) kKd = some (.ref l) := by unfold toldL; rw [valV_cons, if_neg n_sk, valV_cons, if_pos rfl]
/-- what is told, good -/
structure GoodT (m : Int) (ks : List KD) : Prop where
  m_ : Mm m
  good : ∀ k ∈ ks, GoodK m k
  nd : (ks.map KD.name).Nodup
/-- what is told stands there -/
structure ToldAt (K : Frg) (H : Hp) (t : Addr) (m : Int) (ks : List KD) : Prop where
  ex : ∃ (l : Addr) (vs : List V), H t = some (.dK (toldL m l)) ∧ H l = some (.lst vs) ∧ DpAll K H vs (ks.map KD.data)
theorem flat_kds (ks : List KD) : flatDs (ks.map KD.data) = true := by
  induction ks with
  | nil => simp [flatDs]
  | cons w r ih => rw [List.map_cons, flatDs, flat_kd, ih]; rfl
section
variable {K : Frg} {H H' : Hp} {t : Addr} {m : Int} {ks : List KD} {β : Bag}
theorem ToldAt.bg (h : ToldAt K H t m ks) (e : Bg K β H H') (n : t ≠ β.b) : ToldAt K H' t m ks := by
  obtain ⟨l, vs, a, b, c⟩ := h.ex
  exact ⟨l, vs, e.keep _ _ n a, way_bag.lst e b, DpAll.sd (way_bag.sd e) _ _ (flat_kds ks) c⟩
theorem ToldAt.same (h : ToldAt K H t m ks) (e : Same H H') : ToldAt K H' t m ks := by
  obtain ⟨l, vs, a, b, c⟩ := h.ex
  exact ⟨l, vs, e _ _ a, e _ _ b, DpAll.sd (Sd.of e) _ _ (flat_kds ks) c⟩
end
theorem map_read {α : Type} {f : α → V} {as : List α} {ys : List V} (hl : ys.length = as.length) (hp : ∀ (i : Nat) y, ys[i]? = some y → ∃ a, as[i]? = some a ∧ y = f a) : ys = as.map f := by
  refine List.ext_getElem? fun i => ?_
  by_cases h : i < ys.length
  · obtain ⟨a, ha, e⟩ := hp i _ (List.getElem?_eq_getElem h)
    rw [List.getElem?_map, ha, List.getElem?_eq_getElem h, e]
    rfl
  · rw [List.getElem?_eq_none (by omega), List.getElem?_eq_none (by rw [List.length_map]; omega)]
theorem start_read {K : Frg} {H : Hp} {v : V} : ∀ {s : Option Int}, Dp K H v (startD s) → v = startV s
  | none, h => by cases h; rfl
  | some _, h => by cases h; rfl
theorem kd_at {K : Frg} {H : Hp} {v : V} {k : KD} (h : Dp K H v k.data) : ∃ (a : Addr) (vt vw : V), v = .ref a ∧ SqT K H a [.str k.name, .int k.inputs, vt, startV k.start, vw, .int k.price] ∧ Dp K H vt (intsD k.table) ∧ Dp K H vw (waysD k.ways) := by
  unfold KD.data at h
  cases h with
  | tup h1 h2 =>
    cases h2 with
    | cons g1 h2 =>
      cases h2 with
      | cons g2 h2 =>
        cases h2 with
        | cons g3 h2 =>
          cases h2 with
          | cons g4 h2 =>
            cases h2 with
            | cons g5 h2 =>
              cases h2 with
              | cons g6 h2 =>
                cases h2
                cases g1
                cases g2
                cases g6
                rw [start_read g4] at h1
                exact ⟨_, _, _, rfl, h1, g3, g5⟩
/-- seven letters and a z -/
theorem words_z : ∀ w ∈ wordsL, w.cps.toList.getLast? ≠ some 122 := by decide +kernel
theorem z_list : ("z" : Str).cps.toList = [122] := by decide +kernel
theorem cps_app (s t : Str) : (s ++ t).cps.toList = s.cps.toList ++ t.cps.toList := TL.tl_append s t
theorem good_z {s : Str} (l : (s.length : Int) = 7) (h : Low s) : GoodN (s ++ "z") := by
  have e : (s ++ "z" : Str).cps.toList = s.cps.toList ++ [122] := by rw [cps_app, z_list]
  have len : (s ++ "z" : Str).length = 8 := by
    rw [TL.len_tl]
    show (s ++ "z" : Str).cps.toList.length = 8
    rw [e, List.length_append]
    have : s.length = s.cps.toList.length := TL.len_tl s
    rw [← this, List.length_singleton]
    omega
  refine ⟨by omega, by omega, fun c hc => ?_, fun hw => ?_⟩
  · rw [e] at hc
    rcases List.mem_append.mp hc with hc | hc
    · exact h c hc
    · rw [List.mem_singleton.mp hc]; decide
  · refine words_z _ hw ?_
    rw [e, List.getLast?_append]
    rfl
theorem r_dict {tps : List (TE × TE)} {σ : L2.St} {H : Hp} {Q : VK} (h : ∀ p, H p = none → tPairs tps σ (upd H p (.dK [])) fun ps H2 => H2 p = some (.dK []) ∧ ∃ kvs : List (Key × V), ps = kvs.map (fun kv => (kV kv.1, kv.2)) ∧ kvs.length ≤ 15 ∧ Q (.ref p) (upd H2 p (.dK (mergeK [] kvs)))) : tDisp tps σ H Q := h
theorem r_pc {tk tv : TE} {r : List (TE × TE)} {σ : L2.St} {H : Hp} {Q : List (V × V) → Hp → Prop} (h : tk σ H fun x H1 => tv σ H1 fun y H2 => tPairs r σ H2 fun ps H3 => Q ((x, y) :: ps) H3) : tPairs ((tk, tv) :: r) σ H Q := h
theorem r_pn {σ : L2.St} {H : Hp} {Q : List (V × V) → Hp → Prop} (h : Q [] H) : tPairs [] σ H Q := h
theorem r_slA {K : Frg} {a : Addr} {xs : List V} {lo hi : Option Int} {H : Hp} {Q : VK} (hx : SqT K H a xs) (hw : ¬ (HT.sIx xs.length 0 lo = 0 ∧ HT.sIx xs.length xs.length hi = xs.length))
    (h : ∀ p, H p = none → Q (.ref p) (upd H p (.tup (cutV xs lo hi)))) : rSlA K (.ref a) lo hi H Q := ⟨a, xs, rfl, hx, fun z => absurd z hw, fun _ => h⟩
theorem r_sl {r : V → Option Int → Option Int → Hp → VK → Prop} {te : TE} {tl th : TO} {σ : L2.St} {H : Hp} {Q : VK} (h : te σ H fun x H1 => tl σ H1 fun l H2 => th σ H2 fun u H3 => r x l u H3 Q) : tSl r te tl th σ H Q := h
theorem r_noPart {σ : L2.St} {H : Hp} {R : Option Int → Hp → Prop} (h : R none H) : tNoPart σ H R := h
theorem r_part {i : Int} {σ : L2.St} {H : Hp} {R : Option Int → Hp → Prop} (h : R (some i) H) : tPart (tC (.int i)) σ H R := ⟨i, rfl, h⟩
theorem GoodK.priced {m : Int} {k : KD} (G : GoodK m k) {p : Int} (p0 : 0 ≤ p) (p1 : p ≤ 600) : GoodK m { k with price := p } :=
  ⟨G.m_, G.name, G.inputs, G.len, G.in_, G.start, G.ways, G.nd, G.most, p0, p1⟩
def spDrawn (K : Frg) : Sp := spDraw K (fun (_ : Unit) ws _ => ws = []) fun _ H v H' => ∃ t m ks, v = .ref t ∧ H t = none ∧ ToldAt K H' t m ks ∧ GoodT m ks ∧ ks.length ≤ 8
theorem r_drawn {K : Frg} {β : Bag} {H : Hp} {Q : VK} {E : XK} (B : BagAt K β H)
    (h : ∀ t m ks H', Bg K β H H' → H t = none → ToldAt K H' t m ks → GoodT m ks → ks.length ≤ 8 → Q (.ref t) H') : spDrawn K ([.ref β.b] ++ []) H Q E :=
  ⟨β, (), [], rfl, B, rfl, by rintro v H' e ⟨t, m, ks, rfl, z, l, n, g⟩; exact h t m ks H' e z l n g⟩
section
variable {P : Program} {w : World} {K : Frg} {mg : Str → Option Value} {base : Heap}
theorem sc_law_drawn : FnScope ["_law_bag", "_law_told", "_law_name", "_law_kind", "_law_one"] ["_law_bag"] (defScope s_law_drawn) := ⟨rfl, rfl, rfl, by decide +kernel, rfl, by decide +kernel, by decide +kernel⟩
theorem ok_law_drawn (T : Txt K mg) : Ok P w K mg base 5 (He.ga K "_law_drawn") ["_law_bag"] (spDrawn K) := by
  obtain ⟨fd, F⟩ := T.F_law_drawn
  have b : Binds K fd ["_law_bag"] [] := F.bindsN fun _ _ _ _ _ _ us hl => match us, hl with | [_], _ => rfl
  refine ok_of F b sc_law_drawn (fun vs H Q E h => ?_) (fun cdv A outer s H vs Q E hr h => ?_)
  · obtain ⟨β, x, ws, rfl, _, rfl, _⟩ := h
    rfl
  · obtain ⟨β, x, ws, rfl, B, rfl, k⟩ := h
    refine ⟨_, (pss_cons (ps_set (i := 1) sc_law_drawn.nd rfl (Or.inl rfl) (pe_disp (pps_cons pe_str (pe_op op_add pe_int (pk (ok_law_pick T) hr rfl T.g_law_pick (pa_cons (pv 0) (pa_cons pe_int pa_nil)))) (pps_cons pe_str (pe_lst pa_nil) pps_nil)) (by rfl) (by rfl) (fun z => by cases z) (by decide)))
  (pss_cons (ps_for PassesOwn.never rfl (pi_list (pk (ok_law_names T) hr rfl T.g_law_names (pa_cons (pv 0) (pa_cons (pk (ok_law_choice T) hr rfl T.g_law_choice (pa_cons (pv 0) (pa_cons (pe_lst (pa_cons pe_int (pa_cons pe_int (pa_cons pe_int (pa_cons pe_int (pa_cons pe_int (pa_cons pe_int pa_nil))))))) pa_nil))) pa_nil)))) (pg_name (i := 2) sc_law_drawn.nd rfl (Or.inl rfl)) (Evl.pss_cut (ps_if (pt_val (pk (ok_law_one_in T) hr rfl T.g_law_one_in (pa_cons (pv 0) (pa_cons pe_int pa_nil)))) (pss_one (ps_set (i := 2) sc_law_drawn.nd rfl (Or.inl rfl) (pe_op op_add_str (pk (ok_law_letters T) hr rfl T.g_law_letters (pa_cons (pv 0) (pa_cons pe_int pa_nil))) pe_str))) pss_nil)
  (pss_cons (ps_set (i := 3) sc_law_drawn.nd rfl (Or.inl rfl) (pk (ok_law_kind_of T) hr rfl T.g_law_kind_of (pa_cons (pv 0) (pa_cons (pe_dget (hu_of hr) (pv 1) pe_str (fun _ _ => rfl)) (pa_cons (pv 2) (pa_cons (pk (ok_law_pick T) hr rfl T.g_law_pick (pa_cons (pv 0) (pa_cons pe_int pa_nil))) (pa_cons (pk (ok_law_one_in T) hr rfl T.g_law_one_in (pa_cons (pv 0) (pa_cons pe_int pa_nil))) (pa_cons pe_int pa_nil))))))))
  (pss_one (ps_if (pt_cmpR op_notIn_seq (pv 2) (pe_lc (own := [("_law_one", 4)]) rfl sc_law_drawn.nd (pi_list (pe_dget (hu_of hr) (pv 1) pe_str (fun _ _ => rfl))) (blkOk_by (own := [("_law_one", 4)]) (N := ["_law_bag", "_law_told", "_law_name", "_law_kind", "_law_one"]) (sc := defScope s_law_drawn) (by decide +kernel)) (fun _ _ _ _ _ => (pg_name (i := 4) sc_law_drawn.nd rfl (Or.inl rfl))) (fun _ _ _ _ _ => pts_nil) (fun _ _ _ _ _ => (pe_ix (ix_tupB (K := K) rfl) (pv 4) pe_int (fun _ _ => rfl)))) (by first | exact nomark _ | rfl)) (pss_one (ps_expr (pe_bm PySem.F.plainAttrs_list PySem.F.slot_list_append PySem.F.type_list_append mt_append (pe_dget (hu_of hr) (pv 1) pe_str (fun _ _ => rfl)) (pa_cons (pe_op op_catA (pe_slice sl_tupA (pv 3) po_none (po_some pe_int)) (pe_tup (pa_cons (pk (ok_law_choice T) hr rfl T.g_law_choice (pa_cons (pv 0) (pa_cons (pe_lst (pa_cons pe_int (pa_cons pe_int (pa_cons (pk (ok_law_pick T) hr rfl T.g_law_pick (pa_cons (pv 0) (pa_cons pe_int pa_nil))) pa_nil)))) pa_nil))) pa_nil))) pa_nil)))) pss_nil)))))
  (pss_one (ps_ret (pv 1))))), ?_⟩
    walk_at "rd"
    refine r_dict fun t nt => ?_
    have b1 : Bg K β H (upd H t (.dK [])) := Bg.new B nt
    refine r_pc ?_
    walk_at "rd"
    refine r_pick b1.bag (by decide) (by decide) fun r H1 e1 r0 r1 => ?_
    walk_at "rd"
    refine r_pc ?_
    walk_at "rd"
    refine ⟨by decide, fun l nl => ?_⟩
    refine r_pn ?_
    have htb : t ≠ β.b := by
      rintro rfl
      obtain ⟨kvs, hb⟩ := bag_dK B
      rw [nt] at hb; cases hb
    have ht1 : H1 t = some (.dK []) := e1.keep _ _ htb upd_same
    have hlt : t ≠ l := ne_of_none ht1 nl
    have e1 := b1.trans e1
    have nl0 := e1.none nl
    refine ⟨by rw [upd_ne hlt]; exact ht1, toldL (2 + r) l, rfl, by show 2 ≤ 15; decide, ?_⟩
    rw [told_merge]
    have e2 : Bg K β H (upd (upd H1 l (.lst [])) t (.dK (toldL (2 + r) l))) := (e1.mut nl0).mut nt
    have hd : upd (upd H1 l (.lst [])) t (.dK (toldL (2 + r) l)) t = some (.dK (toldL (2 + r) l)) := upd_same
    have hl : upd (upd H1 l (.lst [])) t (.dK (toldL (2 + r) l)) l = some (.lst []) := by rw [upd_ne hlt.symm, upd_same]
    generalize upd (upd H1 l (.lst [])) t (.dK (toldL (2 + r) l)) = H2 at e2 hd hl ⊢
    have hm : Mm (2 + r) := by
      have : r = 0 ∨ r = 1 := by omega
      rcases this with rfl | rfl
      · exact .inl rfl
      · exact .inr rfl
    generalize 2 + r = m at hd hm ⊢
    walk_at "rd"
    refine ⟨by decide, fun p hp => ?_⟩
    walk_at "rd"
    have e3 : Bg K β H2 (upd H2 p (.lst [V.int 0, V.int 1, V.int 2, V.int 3, V.int 3, V.int 8])) := Bg.new e2.bag hp
    refine r_choice e3.bag (SqL.of upd_same) (by decide) (by decide) fun j pv H3 hpv e4 => ?_
    obtain ⟨n, rfl, n0, n8⟩ : ∃ n : Int, pv = .int n ∧ 0 ≤ n ∧ n ≤ 8 := by
      have := List.mem_of_getElem? hpv
      simp only [List.mem_cons, List.not_mem_nil, or_false] at this
      rcases this with rfl | rfl | rfl | rfl | rfl | rfl <;> exact ⟨_, rfl, by decide, by decide⟩
    have e4 := e3.trans e4
    walk_at "rd"
    refine r_names e4.bag n0 (by omega) fun pn ns H4 e5 nn hn hnl N => ?_
    have npl : l ≠ pn := ne_of_none (way_bag.lst e4 hl) nn
    have npt : t ≠ pn := ne_of_none (e4.keep _ _ htb hd) nn
    have e5 := e4.trans e5
    walk_at "rd"
    refine forL (fun j σ' H' => ∃ (ks : List KD) (vs : List V) (o2 o3 : Option V), σ' = [some (.ref β.b), some (.ref t), o2, o3, none] ∧ Bg K β H H' ∧
      H' t = some (.dK (toldL m l)) ∧ H' l = some (.lst vs) ∧ DpAll K H' vs (ks.map KD.data) ∧ H' pn = some (.lst (ns.map V.str)) ∧ GoodT m ks ∧ ks.length ≤ j) (SqL.of hn)
      ⟨[], [], none, none, rfl, e2.trans e5, e5.keep _ _ htb hd, way_bag.lst e5 hl, .nil, hn, ⟨hm, by simp, by simp⟩, by simp⟩ (fun j σ' H' _ p => ?_) ?_ ?_
    · obtain ⟨_, _, _, _, _, _, _, _, _, p, _⟩ := p
      exact SqL.of p
    · rintro j x σ' H5 hx ⟨ks, vs, o2, o3, rfl, e6, hd, hl, hvs, hn, G, hks⟩
      rw [List.getElem?_map] at hx
      obtain ⟨nm, hnm, rfl⟩ := Option.map_eq_some_iff.mp hx
      have hj : j < ns.length := (List.getElem?_eq_some_iff.mp hnm).1
      have hvl : vs.length = ks.length := by rw [DpAll.len hvs, List.length_map]
      walk_at "rd"
      -- the name that is taken
      refine ⟨fun σ' H' => ∃ s : Str, σ' = [some (.ref β.b), some (.ref t), some (.str s), o3, none] ∧ Bg K β H5 H' ∧ GoodN s, ?_, ?_⟩
      · walk_at "rd"
        refine r_one e6.bag (by decide) (by decide) fun b H6 e7 => ?_
        refine ⟨_, rfl, ?_⟩
        cases b with
        | true =>
          refine r_iT ?_
          walk_at "rd"
          refine r_letters e7.bag (by decide) (by decide) fun s H7 e8 sl sw => ?_
          walk_at "rd"
          refine ⟨_, _, rfl, rfl, by rw [show ("z" : Str).length = 1 from rfl]; exact Nat.le_trans (by omega : s.length + 1 ≤ 8) (by decide), ?_⟩
          walk_at "rd"
          exact ⟨s ++ "z", rfl, e7.trans e8, good_z sl sw⟩
        | false =>
          refine r_iF ?_
          walk_at "rd"
          exact ⟨nm, rfl, e7, N.good nm (List.mem_of_getElem? hnm)⟩
      rintro σ' H6 ⟨s, rfl, e7, hs⟩
      walk_at "rd"
      refine r_dgot (DGet_k (e7.keep _ _ htb hd) told_sg) ?_
      walk_at "rd"
      refine r_pick e7.bag (by decide) (by decide) fun r H7 e8 r0 r1 => ?_
      obtain ⟨i, rfl⟩ : ∃ i : Nat, r = (i : Int) := ⟨r.toNat, by omega⟩
      walk_at "rd"
      have e8 := e7.trans e8
      refine r_one e8.bag (by decide) (by decide) fun b H8 e9 => ?_
      have e9 := e8.trans e9
      walk_at "rd"
      refine r_kindOf e9.bag hm hs (by omega) fun kv kd H9 e10 hkv Gk hname => ?_
      have e10 := e9.trans e10
      walk_at "rd"
      refine r_dgot (DGet_k (e10.keep _ _ htb hd) told_kd) ?_
      walk_at "rd"
      have hvs9 := DpAll.sd (way_bag.sd e10) _ _ (flat_kds ks) hvs
      refine lcL (P := fun i v _ => ∃ k, ks[i]? = some k ∧ v = .str k.name) way_bag (Bg.refl e10.bag) (SqL.of (way_bag.lst e10 hl)) (by omega) (fun _ _ _ _ _ p => p) (fun i2 x2 H10 hi2 e11 Qe q => ?_) fun D H10 ys hD e11 hy hyl hp => ?_
      · refine r_name ⟨rfl, ?_⟩
        walk_at "rd"
        obtain ⟨d2, hd2, hx2⟩ := DpAll.at_ hvs9 hi2
        rw [List.getElem?_map] at hd2
        obtain ⟨k2, hk2, rfl⟩ := Option.map_eq_some_iff.mp hd2
        obtain ⟨a2, vt, vw, rfl, h1, _, _⟩ := kd_at (Dp.sd (way_bag.sd e11) _ _ (flat_kd k2) hx2)
        refine r_ixT h1 (v := .str k2.name) (atI_nat (j := 0) rfl) ?_
        exact q _ _ (Bg.refl e11.bag) ⟨k2, hk2, rfl⟩
      have hys := map_read (f := fun k : KD => V.str k.name) (by omega) hp
      rw [show (ks.map fun k : KD => V.str k.name) = (ks.map KD.name).map V.str by rw [List.map_map]; rfl] at hys
      subst hys
      have e12 := e10.trans e11
      refine r_notIn (.inl (SqL.of hy)) ?_
      refine r_bl ?_
      refine r_if2 (fun hne => ?_) (fun _ => ?_)
      · have hne : s ∉ ks.map KD.name := by simpa using hne
        walk_at "rd"
        refine r_dgot (DGet_k (e12.keep _ _ htb hd) told_kd) ?_
        refine r_tyL (way_bag.lst e12 hl) ?_
        walk_at "rd"
        obtain ⟨ka, vt, vw, rfl, hka, hvt, hvw⟩ := kd_at (Dp.sd (way_bag.sd e11) _ _ (flat_kd kd) hkv)
        refine r_sl ?_
        walk_at "rd"
        refine r_noPart (r_part ?_)
        refine r_slA hka (by show ¬ (HT.sIx 6 0 none = 0 ∧ HT.sIx 6 6 (some 5) = 6); decide) fun p1 hp1 => ?_
        walk_at "rd"
        have hL : upd H10 p1 (.tup (cutV [.str kd.name, .int kd.inputs, vt, startV kd.start, vw, .int kd.price] none (some 5))) p1 = some (.tup [.str kd.name, .int kd.inputs, vt, startV kd.start, vw]) := upd_same
        have e13 := e12.trans (Bg.new (o := .tup (cutV [.str kd.name, .int kd.inputs, vt, startV kd.start, vw, .int kd.price] none (some 5))) e12.bag hp1)
        have sd13 : Sd H10 (upd H10 p1 (.tup (cutV [.str kd.name, .int kd.inputs, vt, startV kd.start, vw, .int kd.price] none (some 5)))) := Sd.new hp1
        generalize upd H10 p1 (.tup (cutV [.str kd.name, .int kd.inputs, vt, startV kd.start, vw, .int kd.price] none (some 5))) = H11 at hL e13 sd13 ⊢
        refine r_pick e13.bag (by decide) (by decide) fun q H12 e14 q0 q1 => ?_
        walk_at "rd"
        refine ⟨by show 3 ≤ sizeLine; decide, fun p2 hp2 => ?_⟩
        have e15 : Bg K β H11 (upd H12 p2 (.lst [V.int 0, V.int 600, V.int q])) := e14.trans (Bg.new e14.bag hp2)
        walk_at "rd"
        refine r_choice e15.bag (SqL.of upd_same) (by show 0 < 3; decide) (by show 3 ≤ 100000; decide) fun j2 pv H13 hpv e16 => ?_
        obtain ⟨pr, rfl, pr0, pr1⟩ : ∃ pr : Int, pv = .int pr ∧ 0 ≤ pr ∧ pr ≤ 600 := by
          have := List.mem_of_getElem? hpv
          simp only [List.mem_cons, List.not_mem_nil, or_false] at this
          rcases this with rfl | rfl | rfl
          · exact ⟨_, rfl, by decide, by decide⟩
          · exact ⟨_, rfl, by decide, by decide⟩
          · exact ⟨_, rfl, by omega, by omega⟩
        have e17 := e15.trans e16
        walk_at "rd"
        refine ⟨by show 1 ≤ sizeLine; decide, fun p3 hp3 => ?_⟩
        have e18 := e17.trans (Bg.new (o := .tup [V.int pr]) e17.bag hp3)
        refine ⟨_, _, _, _, rfl, rfl, SqT.of (e18.at_ hL (by intro _ z; cases z)), SqT.of upd_same, by show 6 ≤ sizeLine; decide, (fun z => nomatch z), (fun _ z => nomatch z), fun _ _ p4 hp4 => ?_⟩
        have hp3' := (upd_same : upd H13 p3 (.tup [V.int pr]) p3 = _)
        generalize upd H13 p3 (.tup [V.int pr]) = H14 at hp3' e18 hp4 ⊢
        walk_at "rd"
        have e19 := e13.trans (e18.trans (Bg.new (o := .tup ([.str kd.name, .int kd.inputs, vt, startV kd.start, vw] ++ [V.int pr])) e18.bag hp4))
        have hlast := way_bag.lst e19 hl
        refine r_append hlast (by omega) ?_
        walk_at "rd"
        have up := Sd.lst (o := .lst (vs ++ [.ref p4])) hlast
        have sd19 := ((sd13.trans (way_bag.sd e18)).trans (Sd.new (o := .tup ([.str kd.name, .int kd.inputs, vt, startV kd.start, vw] ++ [V.int pr])) hp4)).trans up
        refine ⟨ks ++ [{ kd with price := pr }], vs ++ [.ref p4], _, _, rfl, (e6.trans e19).mut nl0, ?_, upd_same, ?_, ?_, ⟨hm, ?_, ?_⟩, by rw [List.length_append]; show _ + 1 ≤ _; omega⟩
        · rw [upd_ne hlt]
          exact e19.keep _ _ htb hd
        · rw [List.map_append]
          refine Tx.DpAll.append (DpAll.sd ((way_bag.sd e19).trans up) _ _ (flat_kds ks) hvs) (.cons ?_ .nil)
          exact .tup ((up.tup (SqT.of upd_same))) (.cons (.str _) (.cons (.int _) (.cons (Dp.sd sd19 _ _ flat_intsD hvt) (.cons (dp_start _) (.cons (Dp.sd sd19 _ _ (by simp [waysD, flatD, flat_wds]) hvw) (.cons (.int _) .nil))))))
        · rw [upd_ne npl.symm]
          exact way_bag.lst e19 hn
        · intro k hk
          rcases List.mem_append.mp hk with hk | hk
          · exact G.good k hk
          · rw [List.mem_singleton.mp hk]
            exact Gk.priced pr0 pr1
        · rw [List.map_append]
          refine List.nodup_append.mpr ⟨G.nd, by simp, fun a ha b hb => ?_⟩
          rw [List.mem_singleton.mp hb]
          rintro rfl
          exact hne (hname ▸ ha)
      · walk_at "rd"
        exact ⟨ks, vs, _, _, rfl, e6.trans e12, e12.keep _ _ htb hd, way_bag.lst e12 hl, DpAll.sd (way_bag.sd e12) _ _ (flat_kds ks) hvs, way_bag.lst e12 hn, G, by omega⟩
    · rintro σ' H5 ⟨ks, vs, o2, o3, rfl, e6, hd, hl, hvs, hn, G, hks⟩
      walk_at "rd"
      rw [List.length_map] at hks
      exact k _ _ e6 ⟨t, m, ks, rfl, nt, ⟨l, vs, hd, hl, hvs⟩, G, by omega⟩
end
end Tx

/-! ## Dr6 -/
set_option maxHeartbeats 4000000
/-! The bag is made. -/
namespace Tx
open PySem PySem.Spec PyProof.Rows L2 Gd
local macro_rules | `(tactic| walk_at "rd1") => `(tactic| first
  | ((with_reducible show tVar _ _ _ _); refine r_var (by rfl) ?_)
  | with_reducible refine r_c ?_
  | with_reducible refine r_seq ?_
  | with_reducible refine r_asg ?_
  | with_reducible refine r_name ?_
  | with_reducible refine r_op ?_
  | with_reducible refine r_I0 ?_
  | with_reducible refine r_cons ?_
  | with_reducible refine r_nil ?_
  | with_reducible refine r_call ?_
  | with_reducible refine r_ret ?_
  | with_reducible refine r_cb ?_
  | with_reducible refine r_ifS ?_
  | with_reducible refine r_test ?_
  | with_reducible refine r_bl ?_
  | with_reducible refine r_dget ?_
  | with_reducible refine r_dput ?_
  | ((with_reducible show (∃ k, [V.int _] = [V.int k] ∧ _) ∨ _); refine Or.inl ⟨_, rfl, ?_⟩)
  | with_reducible refine r_lcR ?_
  | with_reducible refine r_lcL ?_
  | with_reducible refine r_lcT ?_
  | with_reducible refine r_m1 ?_
  | with_reducible refine r_gSub ?_
  | with_reducible refine r_forR ?_
  | with_reducible refine r_forL ?_
  | with_reducible refine r_forT ?_
  | with_reducible refine r_bm ?_
  | with_reducible refine r_next ?_
  | with_reducible refine r_B ?_
  | with_reducible refine r_not ?_
  | with_reducible refine r_and ?_
  | with_reducible refine r_or ?_
  | with_reducible refine r_andV ?_
  | with_reducible refine r_orV ?_
  | with_reducible refine r_notV ?_
  | with_reducible refine r_ifE ?_
  | with_reducible refine r_drop ?_
  | with_reducible refine r_tup ?_
  | with_reducible refine r_lst ?_
  | with_reducible refine r_un ?_
  | with_reducible refine r_U ?_)
local macro_rules | `(tactic| walk_at "rd") => `(tactic| repeat walk_at "rd1")
theorem bag_merge {c : Addr} {a r m n : Int} : mergeK [] (bagL c a r m n) = bagL c a r m n := by
  simp [mergeK, putK, bagL, s_ca, s_cr, s_cm, s_cn, s_ac, s_ar, s_am, s_an, s_rc, s_ra, s_rm, s_rn, s_mc, s_ma, s_mr, s_mn, s_nc, s_na, s_nr, s_nm]
def spBagOf (K : Frg) : Sp := fun vs H Q _ => ∃ (a : Addr) (ns : List Int), vs = [.ref a] ∧ SqL K H a (ns.map V.int) ∧ ns.length ≤ 63 ∧ ∀ (β : Bag) H', Same H H' → H β.b = none → BagAt K β H' → Q (.ref β.b) H'
section
variable {P : Program} {w : World} {K : Frg} {mg : Str → Option Value} {base : Heap}
theorem sc_law_bag_of : FnScope ["_law_script", "_law_mixed", "_law_cell"] ["_law_script"] (defScope s_law_bag_of) := ⟨rfl, rfl, rfl, by decide +kernel, rfl, by decide +kernel, by decide +kernel⟩
theorem ok_law_bag_of (T : Txt K mg) : Ok P w K mg base 1 (He.ga K "_law_bag_of") ["_law_script"] (spBagOf K) := by
  obtain ⟨fd, F⟩ := T.F_law_bag_of
  have b : Binds K fd ["_law_script"] [] := F.bindsN fun _ _ _ _ _ _ us hl => match us, hl with | [_], _ => rfl
  refine ok_of F b sc_law_bag_of (fun vs H Q E h => ?_) (fun cdv A outer s H vs Q E hr h => ?_)
  · obtain ⟨a, ns, rfl, _⟩ := h
    rfl
  · obtain ⟨a, ns, rfl, hs, hn, k⟩ := h
    refine ⟨_, (pss_cons (ps_set (i := 1) sc_law_bag_of.nd rfl (Or.inl rfl) pe_int)
  (pss_cons (ps_for PassesOwn.never rfl (pi_list (pv 0)) (pg_name (i := 2) sc_law_bag_of.nd rfl (Or.inl rfl)) (pss_one (ps_set (i := 1) sc_law_bag_of.nd rfl (Or.inl rfl) (pe_op op_mod (pe_callTy call_int1 (by rfl) T.f_int (by decide +kernel) (pa_cons (pe_op op_add (pe_op op_add (pe_op op_mul (pv 1) pe_int) (pv 2)) pe_int) pa_nil)) pe_int))))
  (pss_one (ps_ret (pe_disp (pps_cons pe_str (pe_lc (own := [("_law_cell", 2)]) rfl sc_law_bag_of.nd (pi_list (pv 0)) (blkOk_by (own := [("_law_cell", 2)]) (N := ["_law_script", "_law_mixed", "_law_cell"]) (sc := defScope s_law_bag_of) (by decide +kernel)) (fun _ _ _ _ _ => (pg_name (i := 2) sc_law_bag_of.nd rfl (Or.inl rfl))) (fun _ _ _ _ _ => pts_nil) (fun _ _ _ _ _ => (pv 2))) (pps_cons pe_str pe_int (pps_cons pe_str pe_int (pps_cons pe_str (pv 1) (pps_cons pe_str pe_int pps_nil))))) (by rfl) (by rfl) (fun z => by cases z) (by decide)))))), ?_⟩
    walk_at "rd"
    refine forL (fun j σ' H' => ∃ (x : Int) (o : Option V), σ' = [some (.ref a), some (.int x), o] ∧ H' = H) hs ⟨7, none, rfl, rfl⟩ (fun j σ' H' _ p => ?_) ?_ ?_
    · obtain ⟨_, _, _, rfl⟩ := p
      exact hs
    · rintro j x σ' H' hx ⟨y, o, rfl, rfl⟩
      rw [List.getElem?_map] at hx
      obtain ⟨n, hn, rfl⟩ := Option.map_eq_some_iff.mp hx
      walk_at "rd"
      refine r_I (.inr (by decide)) ?_
      walk_at "rd"
      refine r_I (by decide) ?_
      walk_at "rd"
      exact ⟨_, _, rfl, rfl⟩
    · rintro σ' H' ⟨y, o, rfl, rfl⟩
      walk_at "rd"
      refine r_dict fun p hp => ?_
      refine r_pc ?_
      walk_at "rd"
      have s0 : Same H' (upd H' p (.dK [])) := Same.upd hp
      refine lcL (P := fun i v _ => ∃ n, ns[i]? = some n ∧ v = .int n) way_same (Same.refl _) (Same.seq s0 hs) (by rw [List.length_map]; omega) (fun _ _ _ _ _ p => p) (fun i2 x2 H10 hi2 e11 Qe q => ?_) fun D H2 ys hD e1 hy hyl hp2 => ?_
      · refine r_name ⟨rfl, ?_⟩
        walk_at "rd"
        rw [List.getElem?_map] at hi2
        obtain ⟨n, hn, rfl⟩ := Option.map_eq_some_iff.mp hi2
        exact q _ _ (Same.refl _) ⟨n, hn, rfl⟩
      refine r_pc ?_
      walk_at "rd"
      refine r_pc ?_
      walk_at "rd"
      refine r_pc ?_
      walk_at "rd"
      refine r_pc ?_
      walk_at "rd"
      refine r_pn ?_
      rw [List.length_map] at hyl
      have hys := map_read (f := V.int) hyl hp2
      subst hys
      have hpD : p ≠ D := ne_of_none upd_same hD
      refine ⟨e1 _ _ upd_same, bagL D 0 0 y 0, rfl, by show 5 ≤ 15; decide, ?_⟩
      rw [bag_merge]
      refine k ⟨p, D, ns⟩ _ (fun b o hb => ?_) hp ⟨⟨0, 0, y, 0, upd_same, Int.le_refl 0⟩, SqL.of ?_⟩
      · rw [upd_ne (ne_of_none hb hp)]
        exact e1 _ _ (s0 _ _ hb)
      · rw [upd_ne hpD.symm]
        exact hy
end
end Tx

/-! ## Pr1 -/
set_option maxHeartbeats 4000000
/-! The forms. -/
namespace Tx
open PySem PySem.Spec PyProof.Rows L2 Gd
local macro_rules | `(tactic| walk_at "rd1") => `(tactic| first
  | ((with_reducible show tVar _ _ _ _); refine r_var (by rfl) ?_)
  | with_reducible refine r_c ?_
  | with_reducible refine r_seq ?_
  | with_reducible refine r_asg ?_
  | with_reducible refine r_name ?_
  | with_reducible refine r_op ?_
  | with_reducible refine r_I0 ?_
  | with_reducible refine r_cons ?_
  | with_reducible refine r_nil ?_
  | with_reducible refine r_call ?_
  | with_reducible refine r_ret ?_
  | with_reducible refine r_cb ?_
  | with_reducible refine r_ifS ?_
  | with_reducible refine r_test ?_
  | with_reducible refine r_bl ?_
  | with_reducible refine r_dget ?_
  | with_reducible refine r_dput ?_
  | ((with_reducible show (∃ k, [V.int _] = [V.int k] ∧ _) ∨ _); refine Or.inl ⟨_, rfl, ?_⟩)
  | with_reducible refine r_lcR ?_
  | with_reducible refine r_lcL ?_
  | with_reducible refine r_lcT ?_
  | with_reducible refine r_m1 ?_
  | with_reducible refine r_gSub ?_
  | with_reducible refine r_forR ?_
  | with_reducible refine r_forL ?_
  | with_reducible refine r_forT ?_
  | with_reducible refine r_bm ?_
  | with_reducible refine r_next ?_
  | with_reducible refine r_B ?_
  | with_reducible refine r_not ?_
  | with_reducible refine r_and ?_
  | with_reducible refine r_or ?_
  | with_reducible refine r_andV ?_
  | with_reducible refine r_orV ?_
  | with_reducible refine r_notV ?_
  | with_reducible refine r_ifE ?_
  | with_reducible refine r_drop ?_
  | with_reducible refine r_tup ?_
  | with_reducible refine r_lst ?_
  | with_reducible refine r_un ?_
  | with_reducible refine r_U ?_)
local macro_rules | `(tactic| walk_at "rd") => `(tactic| repeat walk_at "rd1")
theorem r_chain {r r' : R2} {ta tb tc : TE} {σ : L2.St} {H : Hp} {Q : VK} (h : ta σ H fun x H1 => tb σ H1 fun y H2 => r x y H2 fun z H3 => ∃ k, z = .bl k ∧ (if k = true then tc σ H3 fun w' H4 => r' y w' H4 Q else Q (.bl false) H3)) :
    tChain r r' ta tb tc σ H Q := h
section
variable {K : Frg} {H : Hp} {a : Addr} {xs : List V}
theorem ty_L (h : SqL K H a xs) : TyX K H (.ref a) (.type "list") := by
  rcases h with (h | ⟨o, h⟩) | ⟨o, its, n, h, c, _⟩
  · exact .base (.lst h)
  · exact .base (.frz h)
  · exact .kList h c
theorem ty_T (h : SqT K H a xs) : TyX K H (.ref a) (.type "tuple") := by
  rcases h with (h | ⟨o, h⟩) | ⟨o, its, n, h, c, _⟩
  · exact .base (.tup h)
  · exact .fTuple h
  · exact .kTuple h c
theorem kit_int : PySem.W.kitOne K (.type "int") (.type "int") = some true := by rfl
theorem kit_ib : PySem.W.kitOne K (.type "int") (.type "bool") = some false := by rfl
theorem kit_str : PySem.W.kitOne K (.type "str") (.type "str") = some true := by rfl
theorem kit_l : PySem.W.kitAny K (.type "list") [.type "list", .type "tuple"] = some true := by rfl
theorem kit_t : PySem.W.kitAny K (.type "tuple") [.type "list", .type "tuple"] = some true := by rfl
variable {x : V} {T : String} {t : Value} {b : Bool} {Q : VK}
theorem r_isi (ty : TyX K H x t) (e : PySem.W.kitOne K t (.type T) = some b) (h : Q (.bl b) H) : rIsi K [x, .ty T] H Q := ⟨x, .ty T, t, .type T, b, rfl, .ty T, ty, e, h⟩
theorem r_isC {C : Addr} (ty : TyX K H x t) (e : PySem.W.kitOne K t (.ref C) = some b) (h : Q (.bl b) H) : rIsi K [x, .ref C] H Q := ⟨x, .ref C, t, .ref C, b, rfl, .own C, ty, e, h⟩
theorem r_isLT {tp : Addr} (ht : H tp = some (.tup [.ty "list", .ty "tuple"])) (ty : TyX K H x t) (e : PySem.W.kitAny K t [.type "list", .type "tuple"] = some b) (h : Q (.bl b) H) : rIsiT K [x, .ref tp] H Q :=
  ⟨x, tp, [.ty "list", .ty "tuple"], t, [.type "list", .type "tuple"], b, rfl, ht, .cons (.ty _) (.cons (.ty _) .nil), ty, e, h⟩
theorem r_all {bs : List Bool} (hs : SqL K H a (bs.map V.bl)) (h : Q (.bl (bs.all id)) H) : rAll K [.ref a] H Q := ⟨a, bs, rfl, hs, h⟩
end
def spNumber : Sp := fun vs H Q _ => ∃ x lo hi : Int, vs = [.int x, .int lo, .int hi] ∧ Q (.bl (decide (lo ≤ x ∧ x ≤ hi))) H
theorem r_number {H : Hp} {Q : VK} {E : XK} {x lo hi : Int} (h : Q (.bl (decide (lo ≤ x ∧ x ≤ hi))) H) : spNumber ([.int x, .int lo, .int hi] ++ []) H Q E := ⟨x, lo, hi, rfl, h⟩
def spIsList (K : Frg) : Sp := fun vs H Q _ => ∃ (a : Addr) (xs : List V), vs = [.ref a] ∧ (SqL K H a xs ∨ SqT K H a xs) ∧ ∀ H', Same H H' → Q (.bl true) H'
theorem r_isList {K : Frg} {H : Hp} {Q : VK} {E : XK} {a : Addr} {xs : List V} (s : SqL K H a xs ∨ SqT K H a xs) (h : ∀ H', Same H H' → Q (.bl true) H') : spIsList K ([.ref a] ++ []) H Q E := ⟨a, xs, rfl, s, h⟩
/-- numbers in a tuple, within bounds -/
def InS (m : Int) (n : Int) (ts : List Int) : Bool := decide ((ts.length : Int) = n) && (ts.map fun t => decide (0 ≤ t ∧ t ≤ m - 1)).all id
theorem inS_in {m n : Int} {ts : List Int} (hn : (ts.length : Int) = n) (h : In m ts) : InS m n ts = true := by
  unfold InS
  rw [decide_eq_true hn, Bool.true_and, List.all_map, List.all_eq_true]
  intro t ht
  obtain ⟨a, b⟩ := h t ht
  exact decide_eq_true ⟨a, by omega⟩
def spSigns (K : Frg) : Sp := fun vs H Q _ => ∃ (a : Addr) (ts : List Int) (m n : Int), vs = [.ref a, .int m, .int n] ∧ SqT K H a (ts.map V.int) ∧ ts.length ≤ 1000 ∧ ∀ H', Same H H' → Q (.bl (InS m n ts)) H'
theorem r_signs {K : Frg} {H : Hp} {Q : VK} {E : XK} {a : Addr} {ts : List Int} {m n : Int} (s : SqT K H a (ts.map V.int)) (hn : ts.length ≤ 1000) (h : ∀ H', Same H H' → Q (.bl (InS m n ts)) H') : spSigns K ([.ref a, .int m, .int n] ++ []) H Q E :=
  ⟨a, ts, m, n, rfl, s, hn, h⟩
section
variable {P : Program} {w : World} {K : Frg} {mg : Str → Option Value} {base : Heap}
theorem sc_is_number : FnScope ["thing", "low", "high"] ["thing", "low", "high"] (defScope s_is_number) := ⟨rfl, rfl, rfl, by decide +kernel, rfl, by decide +kernel, by decide +kernel⟩
theorem ok_is_number (T : Txt K mg) : Ok P w K mg base 1 (He.ga K "is_number") ["thing", "low", "high"] spNumber := by
  obtain ⟨fd, F⟩ := T.F_is_number
  have b : Binds K fd ["thing", "low", "high"] [] := F.bindsN fun _ _ _ _ _ _ us hl => match us, hl with | [_, _, _], _ => rfl
  refine ok_of F b sc_is_number (fun vs H Q E h => ?_) (fun cdv A outer s H vs Q E hr h => ?_)
  · obtain ⟨a, b, c, rfl, _⟩ := h
    rfl
  · obtain ⟨x, lo, hi, rfl, k⟩ := h
    refine ⟨_, (pss_one (ps_ret (pe_and (pe_callB call_isi (by rfl) T.f_isinstance (by decide +kernel) (pa_cons (pv 0) (pa_cons (pe_bltn (v := .ty "int") (u := .type "int") (by rfl) T.f_int (by decide +kernel) rfl) pa_nil))) (pe_and (pe_not (pe_callB call_isi (by rfl) T.f_isinstance (by decide +kernel) (pa_cons (pv 0) (pa_cons (pe_bltn (v := .ty "bool") (u := .type "bool") (by rfl) T.f_bool (by decide +kernel) rfl) pa_nil)))) (pe_one (pe_chain op_le op_le (pv 1) (pv 0) (pv 2))))))), ?_⟩
    walk_at "rd"
    refine r_isi (.base (.int x)) kit_int ?_
    refine r_bl (r_iT ?_)
    walk_at "rd"
    refine r_isi (.base (.int x)) kit_ib ?_
    refine r_bl ?_
    refine r_bl (r_iT ?_)
    refine r_chain ?_
    walk_at "rd"
    refine r_ifd (fun h => ?_) (fun h => ?_)
    · walk_at "rd"
      rw [show decide (lo ≤ x ∧ x ≤ hi) = decide (x ≤ hi) by simp [h]] at k
      exact k
    · rw [show decide (lo ≤ x ∧ x ≤ hi) = false by simp [h]] at k
      exact k
theorem sc_is_list : FnScope ["thing"] ["thing"] (defScope s_is_list) := ⟨rfl, rfl, rfl, by decide +kernel, rfl, by decide +kernel, by decide +kernel⟩
theorem ok_is_list (T : Txt K mg) : Ok P w K mg base 1 (He.ga K "is_list") ["thing"] (spIsList K) := by
  obtain ⟨fd, F⟩ := T.F_is_list
  have b : Binds K fd ["thing"] [] := F.bindsN fun _ _ _ _ _ _ us hl => match us, hl with | [_], _ => rfl
  refine ok_of F b sc_is_list (fun vs H Q E h => ?_) (fun cdv A outer s H vs Q E hr h => ?_)
  · obtain ⟨a, b, rfl, _⟩ := h
    rfl
  · obtain ⟨a, xs, rfl, hs, k⟩ := h
    refine ⟨_, (pss_one (ps_ret (pe_callB call_isiT (by rfl) T.f_isinstance (by decide +kernel) (pa_cons (pv 0) (pa_cons (pe_tup (pa_cons (pe_bltn (v := .ty "list") (u := .type "list") (by rfl) T.f_list (by decide +kernel) rfl) (pa_cons (pe_bltn (v := .ty "tuple") (u := .type "tuple") (by rfl) T.f_tuple (by decide +kernel) rfl) pa_nil))) pa_nil))))), ?_⟩
    walk_at "rd"
    refine ⟨by show 2 ≤ sizeLine; decide, fun p hp => ?_⟩
    have s0 : Same H (upd H p (.tup [.ty "list", .ty "tuple"])) := Same.upd hp
    walk_at "rd"
    rcases hs with hs | hs
    · exact r_isLT upd_same (ty_L (Same.seq s0 hs)) kit_l (k _ s0)
    · exact r_isLT upd_same (ty_T (Sd.tup (Sd.of s0) hs)) kit_t (k _ s0)
theorem sc_are_signs : FnScope ["thing", "signs", "many", "sign"] ["thing", "signs", "many"] (defScope s_are_signs) := ⟨rfl, rfl, rfl, by decide +kernel, rfl, by decide +kernel, by decide +kernel⟩
theorem ok_are_signs (T : Txt K mg) : Ok P w K mg base 2 (He.ga K "are_signs") ["thing", "signs", "many"] (spSigns K) := by
  obtain ⟨fd, F⟩ := T.F_are_signs
  have b : Binds K fd ["thing", "signs", "many"] [] := F.bindsN fun _ _ _ _ _ _ us hl => match us, hl with | [_, _, _], _ => rfl
  refine ok_of F b sc_are_signs (fun vs H Q E h => ?_) (fun cdv A outer s H vs Q E hr h => ?_)
  · obtain ⟨a, ts, m, n, rfl, _⟩ := h
    rfl
  · obtain ⟨a, ts, m, n, rfl, hs, hn, k⟩ := h
    refine ⟨_, (pss_one (ps_ret (pe_and (pk (ok_is_list T) hr rfl T.g_is_list (pa_cons (pv 0) pa_nil)) (pe_and (pe_cmpR op_eq (pe_callB call_len_seq (by rfl) T.f_len (by decide +kernel) (pa_cons (pv 0) pa_nil)) (pv 2) (by first | exact nomark _ | rfl)) (pe_one (pe_callB (cr_all rfl) (by rfl) T.f_all (by decide +kernel) (pa_cons (pe_lc (own := [("sign", 3)]) rfl sc_are_signs.nd (pi_tup (pv 0)) (blkOk_by (own := [("sign", 3)]) (N := ["thing", "signs", "many", "sign"]) (sc := defScope s_are_signs) (by decide +kernel)) (fun _ _ _ _ _ => (pg_name (i := 3) sc_are_signs.nd rfl (Or.inl rfl))) (fun _ _ _ _ _ => pts_nil) (fun _ _ _ _ _ => (pk (ok_is_number T) hr rfl T.g_is_number (pa_cons (pv 3) (pa_cons pe_int (pa_cons (pe_op op_sub (pv 1) pe_int) pa_nil)))))) pa_nil))))))), ?_⟩
    walk_at "rd"
    refine r_isList (.inr hs) fun H1 s1 => ?_
    refine r_bl (r_iT ?_)
    have hs1 := Sd.tup (Sd.of s1) hs
    walk_at "rd"
    refine ⟨_, _, rfl, .inr hs1, ?_⟩
    rw [List.length_map]
    walk_at "rd"
    refine r_eq rfl ?_
    refine r_bl ?_
    refine r_ifd (fun h => ?_) (fun h => ?_)
    · have h : (ts.length : Int) = n := by simpa using h
      walk_at "rd"
      refine lcT (P := fun i v _ => ∃ t, ts[i]? = some t ∧ v = .bl (decide (0 ≤ t ∧ t ≤ m - 1))) way_same (Same.refl _) hs1 (by rw [List.length_map]; omega) (fun _ _ _ _ _ p => p) (fun i x H3 hi e2 Qe q => ?_) fun D H3 ys hD e3 hy hl hp => ?_
      · rw [List.getElem?_map] at hi
        obtain ⟨t, ht, rfl⟩ := Option.map_eq_some_iff.mp hi
        refine r_name ⟨rfl, ?_⟩
        walk_at "rd"
        refine r_number ?_
        exact q _ _ (Same.refl _) ⟨t, ht, rfl⟩
      rw [List.length_map] at hl
      have hys := map_read (f := fun t : Int => V.bl (decide (0 ≤ t ∧ t ≤ m - 1))) hl hp
      subst hys
      walk_at "rd"
      refine r_all (bs := ts.map fun t => decide (0 ≤ t ∧ t ≤ m - 1)) (by rw [List.map_map]; exact SqL.of hy) ?_
      have := k H3 (s1.trans e3)
      rw [InS, decide_eq_true h, Bool.true_and] at this
      exact this
    · have h : ¬ (ts.length : Int) = n := fun e => h (by simp [e])
      have := k H1 s1
      rw [InS, decide_eq_false h, Bool.false_and] at this
      exact this
end
end Tx

/-! ## Pr2 -/
set_option maxHeartbeats 4000000
/-! Names, digits. -/
namespace Tx
open PySem PySem.Spec PyProof.Rows L2 Gd
local macro_rules | `(tactic| walk_at "rd1") => `(tactic| first
  | ((with_reducible show tVar _ _ _ _); refine r_var (by rfl) ?_)
  | with_reducible refine r_c ?_
  | with_reducible refine r_seq ?_
  | with_reducible refine r_asg ?_
  | with_reducible refine r_name ?_
  | with_reducible refine r_op ?_
  | with_reducible refine r_I0 ?_
  | with_reducible refine r_cons ?_
  | with_reducible refine r_nil ?_
  | with_reducible refine r_call ?_
  | with_reducible refine r_ret ?_
  | with_reducible refine r_cb ?_
  | with_reducible refine r_ifS ?_
  | with_reducible refine r_test ?_
  | with_reducible refine r_bl ?_
  | with_reducible refine r_dget ?_
  | with_reducible refine r_dput ?_
  | ((with_reducible show (∃ k, [V.int _] = [V.int k] ∧ _) ∨ _); refine Or.inl ⟨_, rfl, ?_⟩)
  | with_reducible refine r_lcR ?_
  | with_reducible refine r_lcL ?_
  | with_reducible refine r_lcT ?_
  | with_reducible refine r_m1 ?_
  | with_reducible refine r_gSub ?_
  | with_reducible refine r_forR ?_
  | with_reducible refine r_forL ?_
  | with_reducible refine r_forT ?_
  | with_reducible refine r_bm ?_
  | with_reducible refine r_next ?_
  | with_reducible refine r_B ?_
  | with_reducible refine r_not ?_
  | with_reducible refine r_and ?_
  | with_reducible refine r_or ?_
  | with_reducible refine r_andV ?_
  | with_reducible refine r_orV ?_
  | with_reducible refine r_notV ?_
  | with_reducible refine r_ifE ?_
  | with_reducible refine r_drop ?_
  | with_reducible refine r_tup ?_
  | with_reducible refine r_lst ?_
  | with_reducible refine r_un ?_
  | with_reducible refine r_U ?_)
local macro_rules | `(tactic| walk_at "rd") => `(tactic| repeat walk_at "rd1")
local macro_rules | `(tactic| walk_at "rd1") => `(tactic| first
  | with_reducible refine r_lcS ?_
  | with_reducible refine r_sl ?_
  | with_reducible refine r_noPart ?_
  | with_reducible refine r_partE ?_
  | with_reducible refine r_chain ?_)
/-- digits -/
def dig (ts : List Int) : Str := ⟨(ts.map fun t => 48 + t.toNat).toArray⟩
theorem dig1 {t : Int} (h0 : 0 ≤ t) (h1 : t < 3) : (toString t : Str) = ⟨#[48 + t.toNat]⟩ := by
  have : t = 0 ∨ t = 1 ∨ t = 2 := by omega
  rcases this with rfl | rfl | rfl <;> decide +kernel
theorem cps_inj {s t : Str} (h : s.cps.toList = t.cps.toList) : s = t := by
  cases s with
  | mk a =>
    cases t with
    | mk b =>
      have : a = b := Array.ext' h
      rw [this]
theorem dig_join {ts : List Int} (h : In 3 ts) : Txt.join Str.empty (ts.map fun t => (⟨#[48 + t.toNat]⟩ : Str)) = dig ts := by
  refine cps_inj ?_
  rw [tl_join0, List.map_map]
  show _ = ts.map _
  induction ts with
  | nil => rfl
  | cons t r ih =>
    rw [List.map_cons, List.flatten_cons, ih fun u hu => h u (List.mem_cons_of_mem _ hu)]
    rfl
theorem sum_ones {ts : List Int} : ((ts.map fun t => (⟨#[48 + t.toNat]⟩ : Str)).map fun x => x.length).sum = ts.length := by
  induction ts with
  | nil => rfl
  | cons t r ih =>
    rw [List.map_cons, List.map_cons, List.sum_cons, ih, List.length_cons]
    show 1 + r.length = r.length + 1
    omega
theorem lt_a {c : Nat} (h : 97 ≤ c) : decide ([c] < (Str.ofString "a").cps.toList) = false := by
  have e : (Str.ofString "a").cps.toList = [97] := by decide +kernel
  rw [e]
  simp [List.cons_lt_cons_iff]
  omega
theorem lt_z {c : Nat} (h : c ≤ 122) : decide ((Str.ofString "z").cps.toList < [c]) = false := by
  have e : (Str.ofString "z").cps.toList = [122] := by decide +kernel
  rw [e]
  simp [List.cons_lt_cons_iff]
  omega
theorem all_true {n : Nat} : (List.replicate n true).all id = true := by
  induction n with
  | zero => rfl
  | succ n ih => rw [List.replicate_succ, List.all_cons, ih]; rfl
theorem trues {ys : List V} (h : ∀ (i : Nat) y, ys[i]? = some y → y = .bl true) : ys = (List.replicate ys.length true).map V.bl := by
  refine List.ext_getElem (by simp) fun i h1 h2 => ?_
  rw [h i _ (List.getElem?_eq_getElem h1)]
  simp
theorem words_v {K : Frg} : v_WORDS.map (He.Dv.v K) = wordsL.map V.str := rfl
def spDiff (K : Frg) : Sp := fun vs H Q _ => ∃ (a : Addr) (ls : List Str), vs = [.ref a] ∧ SqL K H a (ls.map V.str) ∧ ls.length ≤ 1000 ∧ ls.Nodup ∧ ∀ H', Same H H' → Q (.bl true) H'
theorem r_diff {K : Frg} {H : Hp} {Q : VK} {E : XK} {a : Addr} {ls : List Str} (hs : SqL K H a (ls.map V.str)) (hn : ls.length ≤ 1000) (nd : ls.Nodup) (h : ∀ H', Same H H' → Q (.bl true) H') : spDiff K ([.ref a] ++ []) H Q E := ⟨a, ls, rfl, hs, hn, nd, h⟩
def spName : Sp := fun vs H Q _ => ∃ s, vs = [.str s] ∧ GoodN s ∧ ∀ H', Same H H' → Q (.bl true) H'
theorem r_isName {H : Hp} {Q : VK} {E : XK} {s : Str} (hs : GoodN s) (h : ∀ H', Same H H' → Q (.bl true) H') : spName ([.str s] ++ []) H Q E := ⟨s, rfl, hs, h⟩
def spDigits (K : Frg) : Sp := fun vs H Q _ => ∃ (a : Addr) (ts : List Int), vs = [.ref a] ∧ SqT K H a (ts.map V.int) ∧ ts.length ≤ 1000 ∧ In 3 ts ∧ ∀ H', Same H H' → Q (.str (dig ts)) H'
theorem r_digits {K : Frg} {H : Hp} {Q : VK} {E : XK} {a : Addr} {ts : List Int} (hs : SqT K H a (ts.map V.int)) (hn : ts.length ≤ 1000) (hin : In 3 ts) (h : ∀ H', Same H H' → Q (.str (dig ts)) H') : spDigits K ([.ref a] ++ []) H Q E :=
  ⟨a, ts, rfl, hs, hn, hin, h⟩
section
variable {P : Program} {w : World} {K : Frg} {mg : Str → Option Value} {base : Heap}
theorem sc_are_different : FnScope ["things", "at"] ["things"] (defScope s_are_different) := ⟨rfl, rfl, rfl, by decide +kernel, rfl, by decide +kernel, by decide +kernel⟩
theorem ok_are_different (T : Txt K mg) : Ok P w K mg base 1 (He.ga K "are_different") ["things"] (spDiff K) := by
  obtain ⟨fd, F⟩ := T.F_are_different
  have b : Binds K fd ["things"] [] := F.bindsN fun _ _ _ _ _ _ us hl => match us, hl with | [_], _ => rfl
  refine ok_of F b sc_are_different (fun vs H Q E h => ?_) (fun cdv A outer s H vs Q E hr h => ?_)
  · obtain ⟨a, ls, rfl, _⟩ := h
    rfl
  · obtain ⟨a, ls, rfl, hs, hn, nd, k⟩ := h
    refine ⟨_, (pss_one (ps_ret (pe_callB (cr_all rfl) (by rfl) T.f_all (by decide +kernel) (pa_cons (pe_lc (own := [("at", 1)]) rfl sc_are_different.nd (pi_range1 rfl T.f_range (pa_cons (pe_callB call_len_seq (by rfl) T.f_len (by decide +kernel) (pa_cons (pv 0) pa_nil)) pa_nil)) (blkOk_by (own := [("at", 1)]) (N := ["things", "at"]) (sc := defScope s_are_different) (by decide +kernel)) (fun _ _ _ _ _ => (pg_name (i := 1) sc_are_different.nd rfl (Or.inl rfl))) (fun _ _ _ _ _ => pts_nil) (fun _ _ _ _ _ => (pe_cmpR (op_notIn_seqB (K := K) rfl) (pe_ix (ix_listB (K := K) rfl) (pv 0) (pv 1) (fun _ _ => rfl)) (pe_slice (sl_listB (K := K) rfl) (pv 0) po_none (po_some (pv 1))) (by first | exact nomark _ | rfl)))) pa_nil)))), ?_⟩
    walk_at "rd"
    refine ⟨_, _, rfl, .inl hs, ?_⟩
    rw [List.length_map]
    walk_at "rd"
    refine lcR (P := fun i v _ => v = .bl true) way_same (Same.refl _) ⟨by omega, by omega⟩ (fun _ _ _ _ _ p => p) (fun i H1 hi e1 Qe q => ?_) fun D H1 ys hD e1 hy hl hp => ?_
    · refine r_name ⟨rfl, ?_⟩
      walk_at "rd"
      have hi : i < ls.length := by omega
      have hs1 := Same.seq e1 hs
      refine r_ixL hs1 (v := .str ls[i]) (atI_nat (by rw [List.getElem?_map, List.getElem?_eq_getElem hi]; rfl)) ?_
      walk_at "rd"
      refine ⟨_, rfl, r_slL hs1 fun p hp => ?_⟩
      have ec : cutV (ls.map V.str) none (some (i : Int)) = (ls.take i).map V.str := by
        unfold cutV
        rw [HT.sIx_none, HT.sIx_nat, List.length_map, Nat.min_eq_left (by omega), Nat.sub_zero, List.drop_zero, List.map_take]
      rw [ec]
      refine r_notIn (.inl (SqL.of upd_same)) ?_
      have hno : ls[i] ∉ ls.take i := fun hm => by
        obtain ⟨j, hj, e⟩ := List.mem_take_iff_getElem.mp hm
        have := (List.getElem_inj (h₀ := by omega) (h₁ := hi) nd).mp e
        omega
      rw [decide_eq_false hno]
      exact q _ _ (Same.upd hp) rfl
    · refine r_all (bs := List.replicate ys.length true) (by rw [← trues hp]; exact SqL.of hy) ?_
      rw [all_true]
      exact k _ e1
theorem sc_is_name : FnScope ["thing", "letter"] ["thing"] (defScope s_is_name) := ⟨rfl, rfl, rfl, by decide +kernel, rfl, by decide +kernel, by decide +kernel⟩
theorem ok_is_name (T : Txt K mg) : Ok P w K mg base 1 (He.ga K "is_name") ["thing"] spName := by
  obtain ⟨fd, F⟩ := T.F_is_name
  have b : Binds K fd ["thing"] [] := F.bindsN fun _ _ _ _ _ _ us hl => match us, hl with | [_], _ => rfl
  refine ok_of F b sc_is_name (fun vs H Q E h => ?_) (fun cdv A outer s H vs Q E hr h => ?_)
  · obtain ⟨s, rfl, _⟩ := h
    rfl
  · obtain ⟨s, rfl, G, k⟩ := h
    refine ⟨_, (pss_cons (ps_if (PW.pt (pw_or (pt_not (pt_val (pe_callB call_isi (by rfl) T.f_isinstance (by decide +kernel) (pa_cons (pv 0) (pa_cons (pe_bltn (v := .ty "str") (u := .type "str") (by rfl) T.f_str (by decide +kernel) rfl) pa_nil))))) (pw_or (pt_not (pt_chain op_le op_le pe_int (pe_callB call_len_str (by rfl) T.f_len (by decide +kernel) (pa_cons (pv 0) pa_nil)) pe_int)) (pw_or1 (pt_cmpR op_in_seq (pv 0) (pe_glob (v := .ref (He.ga K "WORDS")) rfl T.g_WORDS rfl) (by first | exact nomark _ | rfl)))))) (pss_one (ps_ret pe_bl)) pss_nil)
  (pss_one (ps_ret (pe_callB (cr_all rfl) (by rfl) T.f_all (by decide +kernel) (pa_cons (pe_lc (own := [("letter", 1)]) rfl sc_is_name.nd (pi_str (pv 0)) (blkOk_by (own := [("letter", 1)]) (N := ["thing", "letter"]) (sc := defScope s_is_name) (by decide +kernel)) (fun _ _ _ _ _ => (pg_name (i := 1) sc_is_name.nd rfl (Or.inl rfl))) (fun _ _ _ _ _ => pts_nil) (fun _ _ _ _ _ => (pe_chain op_le_str op_le_str pe_str (pv 1) pe_str))) pa_nil))))), ?_⟩
    walk_at "rd"
    refine r_isi (.base (.str s)) kit_str ?_
    refine r_bl (r_iF ?_)
    walk_at "rd"
    have l1 : 1 ≤ s.length := G.lo
    have l8 : s.length ≤ 8 := G.hi
    refine ⟨_, rfl, Nat.le_trans l8 (by decide), ?_⟩
    walk_at "rd"
    refine r_ifd (fun _ => ?_) (fun h => absurd (by omega : (1 : Int) ≤ (s.length : Int)) h)
    walk_at "rd"
    rw [decide_eq_true (by omega : (s.length : Int) ≤ 8)]
    refine r_iF ?_
    walk_at "rd"
    refine r_in (ls := wordsL) (.inr (T.t_WORDS _)) ?_
    rw [decide_eq_false G.no]
    refine r_bl (r_iF ?_)
    walk_at "rd"
    refine lcS (P := fun i v _ => v = .bl true) way_same (Same.refl _) (by omega) (fun _ _ _ _ _ p => p) (fun i c H1 hi e1 Qe q => ?_) fun D H1 ys hD e1 hy hl hp => ?_
    · refine r_name ⟨rfl, ?_⟩
      obtain ⟨c0, c1⟩ := G.low c (List.mem_of_getElem? hi)
      walk_at "rd"
      refine ⟨_, _, rfl, rfl, ?_⟩
      rw [show decide (([c] : List Nat) < (Str.ofString "a").cps.toList) = false from lt_a c0]
      refine r_bl (r_iT ?_)
      walk_at "rd"
      refine ⟨_, _, rfl, rfl, ?_⟩
      rw [show decide ((Str.ofString "z").cps.toList < ([c] : List Nat)) = false from lt_z c1]
      exact q _ _ (Same.refl _) rfl
    · refine r_all (bs := List.replicate ys.length true) (by rw [← trues hp]; exact SqL.of hy) ?_
      rw [all_true]
      exact k _ e1
theorem sc_write_digits : FnScope ["signs", "sign"] ["signs"] (defScope s_write_digits) := ⟨rfl, rfl, rfl, by decide +kernel, rfl, by decide +kernel, by decide +kernel⟩
theorem ok_write_digits (T : Txt K mg) : Ok P w K mg base 1 (He.ga K "write_digits") ["signs"] (spDigits K) := by
  obtain ⟨fd, F⟩ := T.F_write_digits
  have b : Binds K fd ["signs"] [] := F.bindsN fun _ _ _ _ _ _ us hl => match us, hl with | [_], _ => rfl
  refine ok_of F b sc_write_digits (fun vs H Q E h => ?_) (fun cdv A outer s H vs Q E hr h => ?_)
  · obtain ⟨a, ts, rfl, _⟩ := h
    rfl
  · obtain ⟨a, ts, rfl, hs, hn, hin, k⟩ := h
    refine ⟨_, (pss_one (ps_ret (pe_join pe_str (pe_lc (own := [("sign", 1)]) rfl sc_write_digits.nd (pi_tup (pv 0)) (blkOk_by (own := [("sign", 1)]) (N := ["signs", "sign"]) (sc := defScope s_write_digits) (by decide +kernel)) (fun _ _ _ _ _ => (pg_name (i := 1) sc_write_digits.nd rfl (Or.inl rfl))) (fun _ _ _ _ _ => pts_nil) (fun _ _ _ _ _ => (pe_callTy call_str_int (by rfl) T.f_str (by decide +kernel) (pa_cons (pv 1) pa_nil))))))), ?_⟩
    walk_at "rd"
    refine ⟨⟨_, rfl⟩, ?_⟩
    walk_at "rd"
    refine lcT (P := fun i v _ => ∃ t, ts[i]? = some t ∧ v = .str ⟨#[48 + t.toNat]⟩) way_same (Same.refl _) hs (by rw [List.length_map]; omega) (fun _ _ _ _ _ p => p) (fun i x H1 hi e1 Qe q => ?_) fun D H1 ys hD e1 hy hl hp => ?_
    · rw [List.getElem?_map] at hi
      obtain ⟨t, ht, rfl⟩ := Option.map_eq_some_iff.mp hi
      obtain ⟨t0, t1⟩ := hin t (List.mem_of_getElem? ht)
      refine r_name ⟨rfl, ?_⟩
      walk_at "rd"
      refine ⟨t, rfl, ?_, ?_⟩
      · have : t = 0 ∨ t = 1 ∨ t = 2 := by omega
        rcases this with rfl | rfl | rfl <;> decide +kernel
      · rw [dig1 t0 t1]
        exact q _ _ (Same.refl _) ⟨t, ht, rfl⟩
    rw [List.length_map] at hl
    have hys := map_read (f := fun t : Int => V.str ⟨#[48 + t.toNat]⟩) hl hp
    subst hys
    refine ⟨_, D, ts.map fun t => ⟨#[48 + t.toNat]⟩, rfl, rfl, .inl (SqL.of (by rw [List.map_map]; exact hy)), ?_, ?_⟩
    · rw [sum_ones]
      show _ + _ * 0 ≤ _
      omega
    · have := k H1 e1
      rw [← dig_join hin] at this
      exact this
end
end Tx

/-! ## Pr3 -/
set_option maxHeartbeats 4000000
/-! Tables and ways judged. -/
namespace Tx
open PySem PySem.Spec PyProof.Rows L2 Gd
local macro_rules | `(tactic| walk_at "rd1") => `(tactic| first
  | ((with_reducible show tVar _ _ _ _); refine r_var (by rfl) ?_)
  | with_reducible refine r_c ?_
  | with_reducible refine r_seq ?_
  | with_reducible refine r_asg ?_
  | with_reducible refine r_name ?_
  | with_reducible refine r_op ?_
  | with_reducible refine r_I0 ?_
  | with_reducible refine r_cons ?_
  | with_reducible refine r_nil ?_
  | with_reducible refine r_call ?_
  | with_reducible refine r_ret ?_
  | with_reducible refine r_cb ?_
  | with_reducible refine r_ifS ?_
  | with_reducible refine r_test ?_
  | with_reducible refine r_bl ?_
  | with_reducible refine r_dget ?_
  | with_reducible refine r_dput ?_
  | ((with_reducible show (∃ k, [V.int _] = [V.int k] ∧ _) ∨ _); refine Or.inl ⟨_, rfl, ?_⟩)
  | with_reducible refine r_lcR ?_
  | with_reducible refine r_lcL ?_
  | with_reducible refine r_lcT ?_
  | with_reducible refine r_m1 ?_
  | with_reducible refine r_gSub ?_
  | with_reducible refine r_forR ?_
  | with_reducible refine r_forL ?_
  | with_reducible refine r_forT ?_
  | with_reducible refine r_bm ?_
  | with_reducible refine r_next ?_
  | with_reducible refine r_B ?_
  | with_reducible refine r_not ?_
  | with_reducible refine r_and ?_
  | with_reducible refine r_or ?_
  | with_reducible refine r_andV ?_
  | with_reducible refine r_orV ?_
  | with_reducible refine r_notV ?_
  | with_reducible refine r_ifE ?_
  | with_reducible refine r_drop ?_
  | with_reducible refine r_tup ?_
  | with_reducible refine r_lst ?_
  | with_reducible refine r_un ?_
  | with_reducible refine r_U ?_)
local macro_rules | `(tactic| walk_at "rd") => `(tactic| repeat walk_at "rd1")
local macro_rules | `(tactic| walk_at "rd1") => `(tactic| first
  | with_reducible refine r_lcS ?_
  | with_reducible refine r_sl ?_
  | with_reducible refine r_noPart ?_
  | with_reducible refine r_partE ?_
  | with_reducible refine r_chain ?_)
theorem way_at {K : Frg} {H : Hp} {v : V} {w : WD} (h : Dp K H v w.data) : ∃ a b : Addr, v = .ref a ∧ SqT K H a [.str w.word, .str w.name, .ref b] ∧ SqT K H b (w.table.map V.int) := by
  unfold WD.data at h
  cases h with
  | tup h1 h2 =>
    cases h2 with
    | cons g1 h2 =>
      cases h2 with
      | cons g2 h2 =>
        cases h2 with
        | cons g3 h2 =>
          cases h2
          cases g1
          cases g2
          obtain ⟨b, rfl, hb⟩ := ints_at g3
          exact ⟨_, b, rfl, h1, hb⟩
theorem in_sf {w : Str} (h : w = Str.ofString "stands" ∨ w = Str.ofString "flees") : w ∈ [Str.ofString "stands", Str.ofString "flees"] := by
  rcases h with rfl | rfl
  · exact List.mem_cons_self ..
  · exact List.mem_cons_of_mem _ (List.mem_cons_self ..)
def spIsTable (K : Frg) : Sp := fun vs H Q _ => ∃ (m : Int) (i : Nat) (st : Option Int) (a : Addr) (ts : List Int), vs = [.int m, .int i, startV st, .ref a] ∧ Mm m ∧ i ≤ 2 ∧ (∀ s, st = some s → 0 ≤ s ∧ s < m) ∧ SqT K H a (ts.map V.int) ∧
  (ts.length : Int) = szOf m i st.isSome ∧ In m ts ∧ ∀ H', Same H H' → Q (.bl true) H'
def spIsWay (K : Frg) : Sp := fun vs H Q _ => ∃ (v : V) (wd : WD) (m : Int) (a : Addr) (ts : List Int), vs = [v, .int m, .ref a] ∧ Dp K H v wd.data ∧ SqT K H a (ts.map V.int) ∧ ts.length ≤ 1000 ∧ GoodW m ts wd ∧ ∀ H', Same H H' → Q (.bl true) H'
def spAreWays (K : Frg) : Sp := fun vs H Q _ => ∃ (p : Addr) (us : List V) (wl : List WD) (m : Int) (a : Addr) (ts : List Int), vs = [.ref p, .int m, .ref a] ∧ (SqL K H p us ∨ SqT K H p us) ∧ DpAll K H us (wl.map WD.data) ∧ SqT K H a (ts.map V.int) ∧ ts.length ≤ 1000 ∧
  wl.length ≤ 6 ∧ (wl.map WD.name).Nodup ∧ (∀ w ∈ wl, GoodW m ts w) ∧ ∀ H', Same H H' → Q (.bl true) H'
section
variable {P : Program} {w : World} {K : Frg} {mg : Str → Option Value} {base : Heap}
theorem sc_is_table : FnScope ["signs", "inputs", "start", "table", "size", "_"] ["signs", "inputs", "start", "table"] (defScope s_is_table) := ⟨rfl, rfl, rfl, by decide +kernel, rfl, by decide +kernel, by decide +kernel⟩
theorem ok_is_table (T : Txt K mg) : Ok P w K mg base 3 (He.ga K "_is_table") ["signs", "inputs", "start", "table"] (spIsTable K) := by
  obtain ⟨fd, F⟩ := T.F_is_table
  have b : Binds K fd ["signs", "inputs", "start", "table"] [] := F.bindsN fun _ _ _ _ _ _ us hl => match us, hl with | [_, _, _, _], _ => rfl
  refine ok_of F b sc_is_table (fun vs H Q E h => ?_) (fun cdv A outer s H vs Q E hr h => ?_)
  · obtain ⟨m, i, st, a, ts, rfl, _⟩ := h
    rfl
  · obtain ⟨m, i, st, a, ts, rfl, hm, hi, hst, hs, hl, hin, k⟩ := h
    have m2 : 2 ≤ m := by rcases hm with rfl | rfl <;> decide
    have m3 : m ≤ 3 := by rcases hm with rfl | rfl <;> decide
    have l27 : ts.length ≤ 27 := by have := sz_hi (b := st.isSome) hm hi; omega
    refine ⟨_, (pss_cons (ps_if (PW.pt (pw_or (pt_not (pt_val (pk (ok_is_number T) hr rfl T.g_is_number (pa_cons (pv 1) (pa_cons pe_int (pa_cons pe_int pa_nil)))))) (pw_or1 (pt_not (PW.pt (pw_or (pt_cmpR op_isN (pv 2) pe_non (by first | exact nomark _ | rfl)) (pw_or1 (pt_val (pk (ok_is_number T) hr rfl T.g_is_number (pa_cons (pv 2) (pa_cons pe_int (pa_cons (pe_op op_sub (pv 0) pe_int) pa_nil)))))))))))) (pss_one (ps_ret pe_bl)) pss_nil)
  (pss_cons (ps_set (i := 4) sc_is_table.nd rfl (Or.inl rfl) (pe_ifExp (pt_cmpR op_isN (pv 2) pe_non (by first | exact nomark _ | rfl)) pe_int (pv 0)))
  (pss_cons (ps_for PassesOwn.never rfl (pi_range1 rfl T.f_range (pa_cons (pv 1) pa_nil)) (pg_name (i := 5) sc_is_table.nd rfl (Or.inl rfl)) (pss_one (ps_set (i := 4) sc_is_table.nd rfl (Or.inl rfl) (pe_op op_mul (pv 4) (pv 0)))))
  (pss_one (ps_ret (pk (ok_are_signs T) hr rfl T.g_are_signs (pa_cons (pv 3) (pa_cons (pv 0) (pa_cons (pv 4) pa_nil))))))))), ?_⟩
    walk_at "rd"
    refine r_number ?_
    rw [decide_eq_true (⟨by omega, by omega⟩ : (0 : Int) ≤ (i : Int) ∧ (i : Int) ≤ 2)]
    refine r_bl (r_iF ?_)
    walk_at "rd"
    refine ⟨rfl, ?_⟩
    -- the start
    have body : ∀ b : Int, b = (if st.isSome then m else 1) → fR (gName 5) (tAsg (tOp (rI CMul fun i j => V.int (i * j)) (tVar 4) (tVar 0)) (gName 4)) [.int i]
        { nx := tRet (tCall (spSigns K) [] E0 (tCons (tVar 3) (tCons (tVar 0) (tCons (tVar 4) tNil)))) { nx := fun x H' => Q V.non H', rt := Q }, rt := Q }
        [some (.int m), some (.int i), some (startV st), some (.ref a), some (.int b), none] H := by
      intro b hb
      have hsz : ∀ j, m ^ j * b = szOf m j st.isSome := fun j => by rw [hb]; rfl
      refine forR (fun j σ' H' => ∃ o : Option V, σ' = [some (.int m), some (.int i), some (startV st), some (.ref a), some (.int (m ^ j * b)), o] ∧ H' = H) ⟨by omega, by omega⟩ ⟨none, by rw [Int.pow_zero, Int.one_mul], rfl⟩ ?_ ?_
      · rintro j σ' H' hj ⟨o, rfl, rfl⟩
        walk_at "rd"
        refine r_I (.inr ⟨by omega, by omega⟩) ?_
        walk_at "rd"
        exact ⟨some (.int j), by rw [Int.pow_succ, Int.mul_right_comm]; rfl, rfl⟩
      · rintro σ' H' ⟨o, rfl, rfl⟩
        rw [Int.toNat_natCast, hsz]
        walk_at "rd"
        refine r_signs hs (by omega) fun H1 s1 => ?_
        rw [inS_in hl hin]
        exact k H1 s1
    cases st with
    | none =>
      refine r_bl (r_iT (r_iF ?_))
      walk_at "rd"
      refine ⟨rfl, ?_⟩
      refine r_bl (r_iT ?_)
      walk_at "rd"
      exact body 1 rfl
    | some x =>
      obtain ⟨x0, x1⟩ := hst x rfl
      refine r_bl (r_iF ?_)
      walk_at "rd"
      refine r_number ?_
      rw [decide_eq_true (⟨x0, by omega⟩ : (0 : Int) ≤ x ∧ x ≤ m - 1)]
      refine r_bl (r_iF ?_)
      walk_at "rd"
      refine ⟨rfl, ?_⟩
      refine r_bl (r_iF ?_)
      walk_at "rd"
      exact body m rfl
theorem sc_is_way : FnScope ["way", "signs", "table"] ["way", "signs", "table"] (defScope s_is_way) := ⟨rfl, rfl, rfl, by decide +kernel, rfl, by decide +kernel, by decide +kernel⟩
theorem ok_is_way (T : Txt K mg) : Ok P w K mg base 3 (He.ga K "_is_way") ["way", "signs", "table"] (spIsWay K) := by
  obtain ⟨fd, F⟩ := T.F_is_way
  have b : Binds K fd ["way", "signs", "table"] [] := F.bindsN fun _ _ _ _ _ _ us hl => match us, hl with | [_, _, _], _ => rfl
  refine ok_of F b sc_is_way (fun vs H Q E h => ?_) (fun cdv A outer s H vs Q E hr h => ?_)
  · obtain ⟨v, wd, m, a, ts, rfl, _⟩ := h
    rfl
  · obtain ⟨v, wd, m, a, ts, rfl, hd, hs, hn, G, k⟩ := h
    refine ⟨_, (pss_cons (ps_if (PW.pt (pw_or (pt_not (pt_val (pk (ok_is_list T) hr rfl T.g_is_list (pa_cons (pv 0) pa_nil)))) (pw_or (pt_cmpR op_ne (pe_callB call_len_seq (by rfl) T.f_len (by decide +kernel) (pa_cons (pv 0) pa_nil)) pe_int (by first | exact nomark _ | rfl)) (pw_or (pt_not (pt_val (pk (ok_is_name T) hr rfl T.g_is_name (pa_cons (pe_ix ix_tup (pv 0) pe_int (fun _ _ => rfl)) pa_nil)))) (pw_or1 (pt_not (pt_val (pk (ok_are_signs T) hr rfl T.g_are_signs (pa_cons (pe_ix ix_tup (pv 0) pe_int (fun _ _ => rfl)) (pa_cons (pv 1) (pa_cons (pe_callB call_len_seq (by rfl) T.f_len (by decide +kernel) (pa_cons (pv 2) pa_nil)) pa_nil))))))))))) (pss_one (ps_ret pe_bl)) pss_nil)
  (pss_one (ps_ret (pe_and (pe_cmpR op_in_seq (pe_ix ix_tup (pv 0) pe_int (fun _ _ => rfl)) (pe_tup (pa_cons pe_str (pa_cons pe_str pa_nil))) (by first | exact nomark _ | rfl)) (pe_one (pe_cmpR (op_neD hr.units) (pe_callTy call_tuple_of (by rfl) T.f_tuple (by decide +kernel) (pa_cons (pe_ix ix_tup (pv 0) pe_int (fun _ _ => rfl)) pa_nil)) (pv 2) (by first | exact nomark _ | rfl))))))), ?_⟩
    obtain ⟨wa, wt, rfl, hw, hwt⟩ := way_at hd
    walk_at "rd"
    refine r_isList (.inr hw) fun H1 s1 => ?_
    have hw1 := Sd.tup (Sd.of s1) hw
    refine r_bl (r_iF ?_)
    walk_at "rd"
    refine ⟨_, _, rfl, .inr hw1, ?_⟩
    walk_at "rd"
    refine r_ne rfl ?_
    refine r_bl (r_iF ?_)
    walk_at "rd"
    refine r_ixT hw1 (v := .str wd.name) (atI_nat (j := 1) rfl) ?_
    walk_at "rd"
    refine r_isName G.name fun H2 s2 => ?_
    have s12 := s1.trans s2
    have hw2 := Sd.tup (Sd.of s12) hw
    refine r_bl (r_iF ?_)
    walk_at "rd"
    refine r_ixT hw2 (v := .ref wt) (atI_nat (j := 2) rfl) ?_
    walk_at "rd"
    refine ⟨_, _, rfl, .inr (Sd.tup (Sd.of s12) hs), ?_⟩
    rw [List.length_map]
    walk_at "rd"
    refine r_signs (Sd.tup (Sd.of s12) hwt) (by rw [G.len]; omega) fun H3 s3 => ?_
    rw [inS_in (by rw [G.len]) G.in_]
    have s13 := s12.trans s3
    have hw3 := Sd.tup (Sd.of s13) hw
    refine r_bl (r_iF ?_)
    walk_at "rd"
    refine r_ixT hw3 (v := .str wd.word) (atI_nat (j := 0) rfl) ?_
    walk_at "rd"
    refine ⟨by show 2 ≤ sizeLine; decide, fun q hq => ?_⟩
    have s14 := s13.trans (Same.upd (o := .tup [V.str (Str.ofString "stands"), V.str (Str.ofString "flees")]) hq)
    refine r_in (ls := [Str.ofString "stands", Str.ofString "flees"]) (.inr (SqT.of upd_same)) ?_
    rw [decide_eq_true (in_sf G.word)]
    refine r_bl (r_iT ?_)
    walk_at "rd"
    refine r_ixT (Sd.tup (Sd.of s14) hw) (v := .ref wt) (atI_nat (j := 2) rfl) ?_
    walk_at "rd"
    refine ⟨_, _, rfl, .inr ⟨Sd.tup (Sd.of s14) hwt, ?_⟩⟩
    walk_at "rd"
    refine r_neD (ints_of (Sd.tup (Sd.of s14) hwt)) (ints_of (Sd.tup (Sd.of s14) hs)) shaped_ints shaped_ints ?_
    rw [eqv_intsD, decide_eq_false G.ne]
    exact k _ s14
theorem sc_are_ways : FnScope ["ways", "signs", "table", "way"] ["ways", "signs", "table"] (defScope s_are_ways) := ⟨rfl, rfl, rfl, by decide +kernel, rfl, by decide +kernel, by decide +kernel⟩
theorem ok_are_ways (T : Txt K mg) : Ok P w K mg base 4 (He.ga K "_are_ways") ["ways", "signs", "table"] (spAreWays K) := by
  obtain ⟨fd, F⟩ := T.F_are_ways
  have b : Binds K fd ["ways", "signs", "table"] [] := F.bindsN fun _ _ _ _ _ _ us hl => match us, hl with | [_, _, _], _ => rfl
  refine ok_of F b sc_are_ways (fun vs H Q E h => ?_) (fun cdv A outer s H vs Q E hr h => ?_)
  · obtain ⟨p, us, wl, m, a, ts, rfl, _⟩ := h
    rfl
  · obtain ⟨p, us, wl, m, a, ts, rfl, hp, hd, hs, hn, l6, nd, G, k⟩ := h
    have hul : us.length = wl.length := by rw [DpAll.len hd, List.length_map]
    have item : ∀ {i : Nat} {x : V} {H1 : Hp}, Same H H1 → us[i]? = some x → ∃ wd, wl[i]? = some wd ∧ Dp K H1 x wd.data ∧ GoodW m ts wd := by
      intro i x H1 s1 hi
      obtain ⟨d, h1, h2⟩ := DpAll.at_ hd hi
      rw [List.getElem?_map] at h1
      obtain ⟨wd, hw, rfl⟩ := Option.map_eq_some_iff.mp h1
      exact ⟨wd, hw, Dp.sd (Sd.of s1) _ _ (flat_wd wd) h2, G wd (List.mem_of_getElem? hw)⟩
    rcases hp with hp | hp
    · refine ⟨_, (pss_cons (ps_if (PW.pt (pw_or (pt_not (pt_val (pk (ok_is_list T) hr rfl T.g_is_list (pa_cons (pv 0) pa_nil)))) (pw_or1 (pt_cmpR op_gt (pe_callB call_len_seq (by rfl) T.f_len (by decide +kernel) (pa_cons (pv 0) pa_nil)) (pe_glob (v := .int 6) rfl (T.i_MOST_WAYS).choose_spec ⟨_, rfl⟩) (by first | exact nomark _ | rfl))))) (pss_one (ps_ret pe_bl)) pss_nil)
  (pss_cons (ps_if (pt_not (pt_val (pe_callB (cr_all rfl) (by rfl) T.f_all (by decide +kernel) (pa_cons (pe_lc (own := [("way", 3)]) rfl sc_are_ways.nd (pi_list (pv 0)) (blkOk_by (own := [("way", 3)]) (N := ["ways", "signs", "table", "way"]) (sc := defScope s_are_ways) (by decide +kernel)) (fun _ _ _ _ _ => (pg_name (i := 3) sc_are_ways.nd rfl (Or.inl rfl))) (fun _ _ _ _ _ => pts_nil) (fun _ _ _ _ _ => (pk (ok_is_way T) hr rfl T.g_is_way (pa_cons (pv 3) (pa_cons (pv 1) (pa_cons (pv 2) pa_nil)))))) pa_nil)))) (pss_one (ps_ret pe_bl)) pss_nil)
  (pss_one (ps_ret (pk (ok_are_different T) hr rfl T.g_are_different (pa_cons (pe_lc (own := [("way", 3)]) rfl sc_are_ways.nd (pi_list (pv 0)) (blkOk_by (own := [("way", 3)]) (N := ["ways", "signs", "table", "way"]) (sc := defScope s_are_ways) (by decide +kernel)) (fun _ _ _ _ _ => (pg_name (i := 3) sc_are_ways.nd rfl (Or.inl rfl))) (fun _ _ _ _ _ => pts_nil) (fun _ _ _ _ _ => (pe_ix (ix_tupB (K := K) rfl) (pv 3) pe_int (fun _ _ => rfl)))) pa_nil)))))), ?_⟩
      walk_at "rd"
      refine r_isList (.inl hp) fun H1 s1 => ?_
      have hp1 := Same.seq s1 hp
      refine r_bl (r_iF ?_)
      walk_at "rd"
      refine ⟨_, _, rfl, .inl hp1, ?_⟩
      walk_at "rd"
      rw [decide_eq_false (by omega : ¬ (6 : Int) < (us.length : Int))]
      refine r_iF ?_
      walk_at "rd"
      refine lcL (P := fun i v _ => v = .bl true) way_same (Same.refl _) hp1 (by omega) (fun _ _ _ _ _ p => p) (fun i x H2 hi e2 Qe q => ?_) fun D H2 ys hD e2 hy hl hq => ?_
      · refine r_name ⟨rfl, ?_⟩
        walk_at "rd"
        obtain ⟨wd, hw, hx, Gw⟩ := item (s1.trans e2) hi
        exact ⟨_, wd, m, a, ts, rfl, hx, Sd.tup (Sd.of (s1.trans e2)) hs, hn, Gw, fun H3 s3 => q _ _ s3 rfl⟩
      · walk_at "rd"
        refine r_all (K := K) (bs := List.replicate ys.length true) (by rw [← trues hq]; exact SqL.of hy) ?_
        rw [all_true]
        refine r_bl (r_iF ?_)
        have s2 := s1.trans e2
        walk_at "rd"
        refine lcL (P := fun i v _ => ∃ wd, wl[i]? = some wd ∧ v = .str wd.name) way_same (Same.refl _) (Same.seq s2 hp) (by omega) (fun _ _ _ _ _ p => p) (fun i x H3 hi e3 Qe q => ?_) fun D3 H3 ys3 hD3 e3 hy3 hl3 hq3 => ?_
        · refine r_name ⟨rfl, ?_⟩
          walk_at "rd"
          obtain ⟨wd, hw, hx, Gw⟩ := item (s2.trans e3) hi
          obtain ⟨wa, wt, rfl, hwa, hwt⟩ := way_at hx
          refine r_ixT hwa (v := .str wd.name) (atI_nat (j := 1) rfl) ?_
          exact q _ _ (Same.refl _) ⟨wd, hw, rfl⟩
        · have hys := map_read (f := fun w : WD => V.str w.name) (by omega) hq3
          rw [show (wl.map fun w : WD => V.str w.name) = (wl.map WD.name).map V.str by rw [List.map_map]; rfl] at hys
          subst hys
          exact r_diff (E := E0) (SqL.of hy3) (by rw [List.length_map]; omega) nd fun H4 s4 => k _ ((s2.trans e3).trans s4)
    · refine ⟨_, (pss_cons (ps_if (PW.pt (pw_or (pt_not (pt_val (pk (ok_is_list T) hr rfl T.g_is_list (pa_cons (pv 0) pa_nil)))) (pw_or1 (pt_cmpR op_gt (pe_callB call_len_seq (by rfl) T.f_len (by decide +kernel) (pa_cons (pv 0) pa_nil)) (pe_glob (v := .int 6) rfl (T.i_MOST_WAYS).choose_spec ⟨_, rfl⟩) (by first | exact nomark _ | rfl))))) (pss_one (ps_ret pe_bl)) pss_nil)
  (pss_cons (ps_if (pt_not (pt_val (pe_callB (cr_all rfl) (by rfl) T.f_all (by decide +kernel) (pa_cons (pe_lc (own := [("way", 3)]) rfl sc_are_ways.nd (pi_tup (pv 0)) (blkOk_by (own := [("way", 3)]) (N := ["ways", "signs", "table", "way"]) (sc := defScope s_are_ways) (by decide +kernel)) (fun _ _ _ _ _ => (pg_name (i := 3) sc_are_ways.nd rfl (Or.inl rfl))) (fun _ _ _ _ _ => pts_nil) (fun _ _ _ _ _ => (pk (ok_is_way T) hr rfl T.g_is_way (pa_cons (pv 3) (pa_cons (pv 1) (pa_cons (pv 2) pa_nil)))))) pa_nil)))) (pss_one (ps_ret pe_bl)) pss_nil)
  (pss_one (ps_ret (pk (ok_are_different T) hr rfl T.g_are_different (pa_cons (pe_lc (own := [("way", 3)]) rfl sc_are_ways.nd (pi_tup (pv 0)) (blkOk_by (own := [("way", 3)]) (N := ["ways", "signs", "table", "way"]) (sc := defScope s_are_ways) (by decide +kernel)) (fun _ _ _ _ _ => (pg_name (i := 3) sc_are_ways.nd rfl (Or.inl rfl))) (fun _ _ _ _ _ => pts_nil) (fun _ _ _ _ _ => (pe_ix (ix_tupB (K := K) rfl) (pv 3) pe_int (fun _ _ => rfl)))) pa_nil)))))), ?_⟩
      walk_at "rd"
      refine r_isList (.inr hp) fun H1 s1 => ?_
      have hp1 := Sd.tup (Sd.of s1) hp
      refine r_bl (r_iF ?_)
      walk_at "rd"
      refine ⟨_, _, rfl, .inr hp1, ?_⟩
      walk_at "rd"
      rw [decide_eq_false (by omega : ¬ (6 : Int) < (us.length : Int))]
      refine r_iF ?_
      walk_at "rd"
      refine lcT (P := fun i v _ => v = .bl true) way_same (Same.refl _) hp1 (by omega) (fun _ _ _ _ _ p => p) (fun i x H2 hi e2 Qe q => ?_) fun D H2 ys hD e2 hy hl hq => ?_
      · refine r_name ⟨rfl, ?_⟩
        walk_at "rd"
        obtain ⟨wd, hw, hx, Gw⟩ := item (s1.trans e2) hi
        exact ⟨_, wd, m, a, ts, rfl, hx, Sd.tup (Sd.of (s1.trans e2)) hs, hn, Gw, fun H3 s3 => q _ _ s3 rfl⟩
      · walk_at "rd"
        refine r_all (K := K) (bs := List.replicate ys.length true) (by rw [← trues hq]; exact SqL.of hy) ?_
        rw [all_true]
        refine r_bl (r_iF ?_)
        have s2 := s1.trans e2
        walk_at "rd"
        refine lcT (P := fun i v _ => ∃ wd, wl[i]? = some wd ∧ v = .str wd.name) way_same (Same.refl _) (Sd.tup (Sd.of s2) hp) (by omega) (fun _ _ _ _ _ p => p) (fun i x H3 hi e3 Qe q => ?_) fun D3 H3 ys3 hD3 e3 hy3 hl3 hq3 => ?_
        · refine r_name ⟨rfl, ?_⟩
          walk_at "rd"
          obtain ⟨wd, hw, hx, Gw⟩ := item (s2.trans e3) hi
          obtain ⟨wa, wt, rfl, hwa, hwt⟩ := way_at hx
          refine r_ixT hwa (v := .str wd.name) (atI_nat (j := 1) rfl) ?_
          exact q _ _ (Same.refl _) ⟨wd, hw, rfl⟩
        · have hys := map_read (f := fun w : WD => V.str w.name) (by omega) hq3
          rw [show (wl.map fun w : WD => V.str w.name) = (wl.map WD.name).map V.str by rw [List.map_map]; rfl] at hys
          subst hys
          exact r_diff (E := E0) (SqL.of hy3) (by rw [List.length_map]; omega) nd fun H4 s4 => k _ ((s2.trans e3).trans s4)
end
end Tx

/-! ## Pr4 -/
set_option maxHeartbeats 4000000
/-! Kinds made. -/
namespace Tx
open PySem PySem.Spec PyProof.Rows L2 Gd
local macro_rules | `(tactic| walk_at "rd1") => `(tactic| first
  | ((with_reducible show tVar _ _ _ _); refine r_var (by rfl) ?_)
  | with_reducible refine r_c ?_
  | with_reducible refine r_seq ?_
  | with_reducible refine r_asg ?_
  | with_reducible refine r_name ?_
  | with_reducible refine r_op ?_
  | with_reducible refine r_I0 ?_
  | with_reducible refine r_cons ?_
  | with_reducible refine r_nil ?_
  | with_reducible refine r_call ?_
  | with_reducible refine r_ret ?_
  | with_reducible refine r_cb ?_
  | with_reducible refine r_ifS ?_
  | with_reducible refine r_test ?_
  | with_reducible refine r_bl ?_
  | with_reducible refine r_dget ?_
  | with_reducible refine r_dput ?_
  | ((with_reducible show (∃ k, [V.int _] = [V.int k] ∧ _) ∨ _); refine Or.inl ⟨_, rfl, ?_⟩)
  | with_reducible refine r_lcR ?_
  | with_reducible refine r_lcL ?_
  | with_reducible refine r_lcT ?_
  | with_reducible refine r_m1 ?_
  | with_reducible refine r_gSub ?_
  | with_reducible refine r_forR ?_
  | with_reducible refine r_forL ?_
  | with_reducible refine r_forT ?_
  | with_reducible refine r_bm ?_
  | with_reducible refine r_next ?_
  | with_reducible refine r_B ?_
  | with_reducible refine r_not ?_
  | with_reducible refine r_and ?_
  | with_reducible refine r_or ?_
  | with_reducible refine r_andV ?_
  | with_reducible refine r_orV ?_
  | with_reducible refine r_notV ?_
  | with_reducible refine r_ifE ?_
  | with_reducible refine r_drop ?_
  | with_reducible refine r_tup ?_
  | with_reducible refine r_lst ?_
  | with_reducible refine r_un ?_
  | with_reducible refine r_U ?_)
local macro_rules | `(tactic| walk_at "rd") => `(tactic| repeat walk_at "rd1")
theorem r_sfld {K : Frg} {ta tv : TE} {f : Str} {D : Ends} {σ : L2.St} {H : Hp} (h : tv σ H fun y H1 => ta σ H1 fun x H2 => ∃ a C dx fs, x = .ref a ∧ H2 a = some (.ins C dx fs) ∧ Cls K C ∧ NoAttr K C f ∧ fs.length < 1000 ∧
  D.nx σ (upd H2 a (.ins C dx (putF f y fs)))) : sFld K ta tv f D σ H := h
theorem r_tupG {K : Frg} {n : Nat} {t : TGs} {a : Addr} {xs : List V} {σ : L2.St} {H : Hp} {R : L2.St → Hp → Prop} (hs : SqT K H a xs) (hl : xs.length = n) (h : t xs σ H R) : gTup K n t (.ref a) σ H R := ⟨a, xs, rfl, hs, hl, h⟩
theorem r_gc {t : TG} {u : TGs} {v : V} {r : List V} {σ : L2.St} {H : Hp} {R : L2.St → Hp → Prop} (h : t v σ H fun σ' H' => u r σ' H' R) : gCons t u (v :: r) σ H R := ⟨v, r, rfl, h⟩
theorem r_gn {σ : L2.St} {H : Hp} {R : L2.St → Hp → Prop} (h : R σ H) : gNil [] σ H R := ⟨rfl, h⟩
theorem call_tuple_ofB {X : Cx} {K : Frg} (h : X.K = K) : CallR X (.type "tuple") (fun xs H Q => ∃ p ys, xs = [.ref p] ∧ ((SqL K H p ys ∧ ∀ l, H l = none → Q (.ref l) (upd H l (.tup ys))) ∨ (SqT K H p ys ∧ Q (.ref p) H))) := h ▸ call_tuple_of
local macro_rules | `(tactic| walk_at "rd1") => `(tactic| first
  | with_reducible refine r_lcS ?_
  | with_reducible refine r_sl ?_
  | with_reducible refine r_noPart ?_
  | with_reducible refine r_partE ?_
  | with_reducible refine r_sfld ?_
  | with_reducible refine r_gc ?_
  | with_reducible refine r_gn ?_
  | with_reducible refine r_chain ?_)
theorem putF_new {f : Str} {v : V} : ∀ {fs : List (Str × V)}, f ∉ fs.map Prod.fst → putF f v fs = fs ++ [(f, v)]
  | [], _ => rfl
  | (g, x) :: r, h => by
    have h1 : ¬ g = f := fun e => h (by rw [e]; exact List.mem_cons_self ..)
    rw [putF, if_neg h1, putF_new fun m => h (List.mem_cons_of_mem _ m)]
    rfl
/-- all but the thing at x stands -/
def Td (x : Addr) (H H' : Hp) : Prop := ∀ a o, a ≠ x → H a = some o → H' a = some o
section
variable {K : Frg} {H H' H'' : Hp} {x a C dx : Addr} {fs : List (Str × V)} {xs : List V}
theorem Td.trans (e : Td x H H') (f : Td x H' H'') : Td x H H'' := fun a o n h => f a o n (e a o n h)
theorem Td.same (e : Same H H') : Td x H H' := fun a o _ h => e a o h
theorem Td.put {o : HO} : Td x H (upd H x o) := fun a u n h => by rw [upd_ne n]; exact h
theorem Td.tup (e : Td x H H') (hx : H x = some (.ins C dx fs)) (h : SqT K H a xs) : SqT K H' a xs := by
  rcases h with h | h
  · refine .inl ?_
    rcases h with h | ⟨o, h⟩
    · exact .inl (e a _ (fun z => by rw [z, hx] at h; cases h) h)
    · exact .inr ⟨o, e a _ (fun z => by rw [z, hx] at h; cases h) h⟩
  · exact .inr h
theorem Td.seq (e : Td x H H') (hx : H x = some (.ins C dx fs)) (h : SqL K H a xs) : SqL K H' a xs := by
  rcases h with h | h
  · refine .inl ?_
    rcases h with h | ⟨o, h⟩
    · exact .inl (e a _ (fun z => by rw [z, hx] at h; cases h) h)
    · exact .inr ⟨o, e a _ (fun z => by rw [z, hx] at h; cases h) h⟩
  · exact .inr h
/-- a new thing is made, and only it is changed: all that was there stands -/
theorem Td.made {dx : Addr} {o : HO} (nx : H x = none) (nd : H dx = none) (e : Td x (upd (upd H dx (.own x)) x o) H') : Same H H' := fun a u h => by
  have n1 := ne_of_none h nx
  have n2 := ne_of_none h nd
  refine e a u n1 ?_
  rw [upd_ne n1, upd_ne n2]
  exact h
end
def kindL (m : Int) (k : KD) (vt vw : V) : List (Str × V) :=
  [(Str.ofString "signs", .int m), (Str.ofString "name", .str k.name), (Str.ofString "inputs", .int k.inputs), (Str.ofString "table", vt), (Str.ofString "start", startV k.start), (Str.ofString "ways", vw), (Str.ofString "price", .int k.price)]
/-- a kind stands there -/
structure KindAt (K : Frg) (H : Hp) (x : Addr) (m : Int) (k : KD) : Prop where
  ex : ∃ (dx : Addr) (vt vw : V), H x = some (.ins (He.ga K "Kind") dx (kindL m k vt vw)) ∧ Dp K H vt (intsD k.table) ∧ Dp K H vw (waysD k.ways)
def spKind (K : Frg) : Sp := fun vs H Q _ => ∃ (x dx ta p : Addr) (m : Int) (k : KD) (us : List V), vs = [.ref x, .int m, .str k.name, .int k.inputs, .ref ta, startV k.start, .ref p, .int k.price] ∧ H x = some (.ins (He.ga K "Kind") dx []) ∧
  SqT K H ta (k.table.map V.int) ∧ (SqL K H p us ∨ SqT K H p us) ∧ DpAll K H us (k.ways.map WD.data) ∧ GoodK m k ∧ ∀ H', Td x H H' → KindAt K H' x m k → Q .non H'
section
variable {P : Program} {w : World} {K : Frg} {mg : Str → Option Value} {base : Heap}
theorem sc_Kind_init : FnScope ["self", "signs", "name", "inputs", "table", "start", "ways", "price", "word", "label", "broken"] ["self", "signs", "name", "inputs", "table", "start", "ways", "price"] (defScope s_Kind_init) := ⟨rfl, rfl, rfl, by decide +kernel, rfl, by decide +kernel, by decide +kernel⟩
theorem ok_Kind_init (T : Txt K mg) : OkK P w K mg base 5 (He.ma K (He.ga K "Kind") "__init__") ["self", "signs", "name", "inputs", "table", "start", "ways", "price"] (spKind K) 5 ["start", "ways", "price"] := by
  obtain ⟨fd, F⟩ := T.F_Kind_init
  have b : KB K fd ["self", "signs", "name", "inputs", "table", "start", "ways", "price"] 5 ["start", "ways", "price"] := kb_of F (by simp [DefA.kws, d_Kind_init]) fun D doc pm an cdv ct us ws l1 l2 => match us, ws, l1, l2 with | [_, _, _, _, _], [_, _, _], _, _ => rfl
  refine okK_of F b sc_Kind_init (fun vs H Q E h => ?_) (fun cdv A outer s H vs Q E hr h => ?_)
  · obtain ⟨x, dx, ta, p, m, k, us, rfl, _⟩ := h
    rfl
  · obtain ⟨x, dx, ta, p, m, kd, us, rfl, hx, hta, hp, hus, G, k⟩ := h
    have hm := G.m_
    have m2 : 2 ≤ m := by rcases hm with rfl | rfl <;> decide
    have m3 : m ≤ 3 := by rcases hm with rfl | rfl <;> decide
    have l27 : kd.table.length ≤ 27 := by have := sz_hi (b := kd.start.isSome) hm G.inputs; have := G.len; omega
    have p0 := G.p0
    have p1 := G.p1
    have hul : us.length = kd.ways.length := by rw [DpAll.len hus, List.length_map]
    have l6 := G.most
    have item : ∀ {i : Nat} {v : V}, us[i]? = some v → ∃ wd, kd.ways[i]? = some wd ∧ ∃ a b : Addr, v = .ref a ∧ SqT K H a [.str wd.word, .str wd.name, .ref b] ∧ SqT K H b (wd.table.map V.int) := by
      intro i v hi
      obtain ⟨d, h1, h2⟩ := DpAll.at_ hus hi
      rw [List.getElem?_map] at h1
      obtain ⟨wd, hw, rfl⟩ := Option.map_eq_some_iff.mp h1
      exact ⟨wd, hw, way_at h2⟩
    rcases hp with hp | hp
    · refine ⟨_, (pss_cons (ps_if (pt_not (pt_val (pk (ok_is_number T) hr rfl T.g_is_number (pa_cons (pv 1) (pa_cons pe_int (pa_cons pe_int pa_nil)))))) (pss_one ps_never) pss_nil)
  (pss_cons (ps_if (pt_not (pt_val (pk (ok_is_name T) hr rfl T.g_is_name (pa_cons (pv 2) pa_nil)))) (pss_one ps_never) pss_nil)
  (pss_cons (ps_if (PW.pt (pw_or (pt_not (pt_val (pk (ok_is_table T) hr rfl T.g_is_table (pa_cons (pv 1) (pa_cons (pv 3) (pa_cons (pv 5) (pa_cons (pv 4) pa_nil))))))) (pw_or1 (pt_not (pt_val (pk (ok_is_number T) hr rfl T.g_is_number (pa_cons (pv 7) (pa_cons pe_int (pa_cons (pe_glob (v := .int 600) rfl (T.i_MOST_PRICE).choose_spec ⟨_, rfl⟩) pa_nil))))))))) (pss_one ps_never) pss_nil)
  (pss_cons (ps_if (pt_not (pt_val (pk (ok_are_ways T) hr rfl T.g_are_ways (pa_cons (pv 6) (pa_cons (pv 1) (pa_cons (pe_callTy call_tuple_of (by rfl) T.f_tuple (by decide +kernel) (pa_cons (pv 4) pa_nil)) pa_nil)))))) (pss_one ps_never) pss_nil)
  (pss_cons (ps_fld (pv 0) (pv 1) rfl)
  (pss_cons (ps_fld (pv 0) (pv 2) rfl)
  (pss_cons (ps_fld (pv 0) (pv 3) rfl)
  (pss_cons (ps_fld (pv 0) (pe_callTy call_tuple_of (by rfl) T.f_tuple (by decide +kernel) (pa_cons (pv 4) pa_nil)) rfl)
  (pss_cons (ps_fld (pv 0) (pv 5) rfl)
  (pss_cons (ps_fld (pv 0) (pe_callTy call_tuple_of (by rfl) T.f_tuple (by decide +kernel) (pa_cons (pe_lc (own := [("word", 8), ("label", 9), ("broken", 10)]) rfl sc_Kind_init.nd (pi_list (pv 6)) (blkOk_by (own := [("word", 8), ("label", 9), ("broken", 10)]) (N := ["self", "signs", "name", "inputs", "table", "start", "ways", "price", "word", "label", "broken"]) (sc := defScope s_Kind_init) (by decide +kernel)) (fun _ _ _ _ _ => (pg_tupB (K := K) (n := 3) rfl (by rfl) (pgs_cons (pg_name (i := 8) sc_Kind_init.nd rfl (Or.inl rfl)) (pgs_cons (pg_name (i := 9) sc_Kind_init.nd rfl (Or.inl rfl)) (pgs_cons (pg_name (i := 10) sc_Kind_init.nd rfl (Or.inl rfl)) pgs_nil))))) (fun _ _ _ _ _ => pts_nil) (fun _ _ _ _ _ => (pe_tup (pa_cons (pv 8) (pa_cons (pv 9) (pa_cons (pe_callTy (call_tuple_ofB (K := K) rfl) (by rfl) T.f_tuple (by decide +kernel) (pa_cons (pv 10) pa_nil)) pa_nil)))))) pa_nil)) rfl)
  (pss_one (ps_fld (pv 0) (pv 7) rfl)))))))))))), ?_⟩
      walk_at "rd"
      refine r_number ?_
      rw [decide_eq_true (⟨by omega, by omega⟩ : (2 : Int) ≤ m ∧ m ≤ 3)]
      refine r_bl (r_iF ?_)
      walk_at "rd"
      refine r_isName G.name fun H1 s1 => ?_
      refine r_bl (r_iF ?_)
      walk_at "rd"
      refine ⟨m, kd.inputs, kd.start, ta, kd.table, rfl, hm, G.inputs, G.start, Sd.tup (Sd.of s1) hta, G.len, G.in_, fun H2 s2 => ?_⟩
      have s2 := s1.trans s2
      refine r_bl (r_iF ?_)
      walk_at "rd"
      refine r_number ?_
      rw [decide_eq_true (⟨by omega, by omega⟩ : (0 : Int) ≤ kd.price ∧ kd.price ≤ 600)]
      refine r_bl (r_iF ?_)
      walk_at "rd"
      refine ⟨_, _, rfl, .inr ⟨Sd.tup (Sd.of s2) hta, ?_⟩⟩
      walk_at "rd"
      refine ⟨p, us, kd.ways, m, ta, kd.table, rfl, .inl (Same.seq s2 hp), DpAll.sd (Sd.of s2) _ _ (flat_wds _) hus, Sd.tup (Sd.of s2) hta, by omega, l6, G.nd, G.ways, fun H3 s3 => ?_⟩
      have s3 := s2.trans s3
      refine r_bl (r_iF ?_)
      have e3 : Td x H H3 := Td.same s3
      have hx3 := s3 _ _ hx
      walk_at "rd"
      refine ⟨x, _, dx, [], rfl, hx3, T.c_Kind, T.n_Kind_signs, by show 0 < 1000; decide, ?_⟩
      rw [show putF (Str.ofString "signs") (.int m) [] = [(Str.ofString "signs", .int m)] from putF_new (by show Str.ofString "signs" ∉ ([] : List Str); decide +kernel)]
      have ea := e3.trans (Td.put (H := H3) (o := .ins (He.ga K "Kind") dx [(Str.ofString "signs", .int m)]))
      have hxa := (upd_same : upd H3 x (.ins (He.ga K "Kind") dx [(Str.ofString "signs", .int m)]) x = _)
      generalize upd H3 x (.ins (He.ga K "Kind") dx [(Str.ofString "signs", .int m)]) = HXa at ea hxa ⊢
      walk_at "rd"
      refine ⟨x, _, dx, [(Str.ofString "signs", .int m)], rfl, hxa, T.c_Kind, T.n_Kind_name, by show 1 < 1000; decide, ?_⟩
      rw [show putF (Str.ofString "name") (.str kd.name) [(Str.ofString "signs", .int m)] = [(Str.ofString "signs", .int m), (Str.ofString "name", .str kd.name)] from putF_new (by show Str.ofString "name" ∉ ([Str.ofString "signs"] : List Str); decide +kernel)]
      have eb := ea.trans (Td.put (H := HXa) (o := .ins (He.ga K "Kind") dx [(Str.ofString "signs", .int m), (Str.ofString "name", .str kd.name)]))
      have hxb := (upd_same : upd HXa x (.ins (He.ga K "Kind") dx [(Str.ofString "signs", .int m), (Str.ofString "name", .str kd.name)]) x = _)
      generalize upd HXa x (.ins (He.ga K "Kind") dx [(Str.ofString "signs", .int m), (Str.ofString "name", .str kd.name)]) = HXb at eb hxb ⊢
      walk_at "rd"
      refine ⟨x, _, dx, [(Str.ofString "signs", .int m), (Str.ofString "name", .str kd.name)], rfl, hxb, T.c_Kind, T.n_Kind_inputs, by show 2 < 1000; decide, ?_⟩
      rw [show putF (Str.ofString "inputs") (.int kd.inputs) [(Str.ofString "signs", .int m), (Str.ofString "name", .str kd.name)] = [(Str.ofString "signs", .int m), (Str.ofString "name", .str kd.name), (Str.ofString "inputs", .int kd.inputs)] from putF_new (by show Str.ofString "inputs" ∉ ([Str.ofString "signs", Str.ofString "name"] : List Str); decide +kernel)]
      have ec := eb.trans (Td.put (H := HXb) (o := .ins (He.ga K "Kind") dx [(Str.ofString "signs", .int m), (Str.ofString "name", .str kd.name), (Str.ofString "inputs", .int kd.inputs)]))
      have hxc := (upd_same : upd HXb x (.ins (He.ga K "Kind") dx [(Str.ofString "signs", .int m), (Str.ofString "name", .str kd.name), (Str.ofString "inputs", .int kd.inputs)]) x = _)
      generalize upd HXb x (.ins (He.ga K "Kind") dx [(Str.ofString "signs", .int m), (Str.ofString "name", .str kd.name), (Str.ofString "inputs", .int kd.inputs)]) = HXc at ec hxc ⊢
      walk_at "rd"
      have ht3 := ec.tup hx hta
      refine ⟨_, _, rfl, .inr ⟨ht3, ?_⟩⟩
      walk_at "rd"
      refine ⟨x, _, dx, [(Str.ofString "signs", .int m), (Str.ofString "name", .str kd.name), (Str.ofString "inputs", .int kd.inputs)], rfl, hxc, T.c_Kind, T.n_Kind_table, by show 3 < 1000; decide, ?_⟩
      rw [show putF (Str.ofString "table") (.ref ta) [(Str.ofString "signs", .int m), (Str.ofString "name", .str kd.name), (Str.ofString "inputs", .int kd.inputs)] = [(Str.ofString "signs", .int m), (Str.ofString "name", .str kd.name), (Str.ofString "inputs", .int kd.inputs), (Str.ofString "table", .ref ta)] from putF_new (by show Str.ofString "table" ∉ ([Str.ofString "signs", Str.ofString "name", Str.ofString "inputs"] : List Str); decide +kernel)]
      have ed := ec.trans (Td.put (H := HXc) (o := .ins (He.ga K "Kind") dx [(Str.ofString "signs", .int m), (Str.ofString "name", .str kd.name), (Str.ofString "inputs", .int kd.inputs), (Str.ofString "table", .ref ta)]))
      have hxd := (upd_same : upd HXc x (.ins (He.ga K "Kind") dx [(Str.ofString "signs", .int m), (Str.ofString "name", .str kd.name), (Str.ofString "inputs", .int kd.inputs), (Str.ofString "table", .ref ta)]) x = _)
      generalize upd HXc x (.ins (He.ga K "Kind") dx [(Str.ofString "signs", .int m), (Str.ofString "name", .str kd.name), (Str.ofString "inputs", .int kd.inputs), (Str.ofString "table", .ref ta)]) = HXd at ed hxd ⊢
      walk_at "rd"
      refine ⟨x, _, dx, [(Str.ofString "signs", .int m), (Str.ofString "name", .str kd.name), (Str.ofString "inputs", .int kd.inputs), (Str.ofString "table", .ref ta)], rfl, hxd, T.c_Kind, T.n_Kind_start, by show 4 < 1000; decide, ?_⟩
      rw [show putF (Str.ofString "start") (startV kd.start) [(Str.ofString "signs", .int m), (Str.ofString "name", .str kd.name), (Str.ofString "inputs", .int kd.inputs), (Str.ofString "table", .ref ta)] = [(Str.ofString "signs", .int m), (Str.ofString "name", .str kd.name), (Str.ofString "inputs", .int kd.inputs), (Str.ofString "table", .ref ta), (Str.ofString "start", startV kd.start)] from putF_new (by show Str.ofString "start" ∉ ([Str.ofString "signs", Str.ofString "name", Str.ofString "inputs", Str.ofString "table"] : List Str); decide +kernel)]
      have e5 := ed.trans (Td.put (H := HXd) (o := .ins (He.ga K "Kind") dx [(Str.ofString "signs", .int m), (Str.ofString "name", .str kd.name), (Str.ofString "inputs", .int kd.inputs), (Str.ofString "table", .ref ta), (Str.ofString "start", startV kd.start)]))
      have hx5 := (upd_same : upd HXd x (.ins (He.ga K "Kind") dx [(Str.ofString "signs", .int m), (Str.ofString "name", .str kd.name), (Str.ofString "inputs", .int kd.inputs), (Str.ofString "table", .ref ta), (Str.ofString "start", startV kd.start)]) x = _)
      generalize upd HXd x (.ins (He.ga K "Kind") dx [(Str.ofString "signs", .int m), (Str.ofString "name", .str kd.name), (Str.ofString "inputs", .int kd.inputs), (Str.ofString "table", .ref ta), (Str.ofString "start", startV kd.start)]) = HX5 at e5 hx5 ⊢
      walk_at "rd"
      have hp5 := e5.seq hx hp
      refine lcL (P := fun i v H' => ∃ wd a b, kd.ways[i]? = some wd ∧ v = .ref a ∧ SqT K H' a [.str wd.word, .str wd.name, .ref b] ∧ SqT K H' b (wd.table.map V.int)) way_same (Same.refl _) hp5 (by omega) (fun i v A B sd ⟨wd, a, b, h1, h2, h3, h4⟩ => ⟨wd, a, b, h1, h2, sd.tup h3, sd.tup h4⟩) (fun i v H6 hi e6 Qe q => ?_) fun D H6 ys hD e6 hy hl hq => ?_
      · obtain ⟨wd, hw, a, b, rfl, ha, hb⟩ := item hi
        have ha := Sd.tup (Sd.of e6) (e5.tup hx ha)
        have hb := Sd.tup (Sd.of e6) (e5.tup hx hb)
        refine r_tupG ha rfl ?_
        walk_at "rd"
        refine ⟨rfl, ?_⟩
        walk_at "rd"
        refine ⟨_, _, rfl, .inr ⟨hb, ?_⟩⟩
        walk_at "rd"
        refine ⟨by show 3 ≤ sizeLine; decide, fun p3 hp3 => ?_⟩
        have up := Same.upd (o := .tup [V.str wd.word, V.str wd.name, V.ref b]) hp3
        exact q _ _ up ⟨wd, p3, b, hw, rfl, SqT.of upd_same, Sd.tup (Sd.of up) hb⟩
      walk_at "rd"
      refine ⟨_, _, rfl, .inl ⟨SqL.of hy, fun q hq2 => ?_⟩⟩
      have up6 := e6.trans (Same.upd (o := .tup ys) hq2)
      have hx6 := up6 _ _ hx5
      have e6 := e5.trans (Td.same up6)
      have hq6 : SqT K (upd H6 q (.tup ys)) q ys := SqT.of upd_same
      have hy6 : ∀ (i : Nat) v, ys[i]? = some v → ∃ wd a b, kd.ways[i]? = some wd ∧ v = .ref a ∧ SqT K (upd H6 q (.tup ys)) a [.str wd.word, .str wd.name, .ref b] ∧ SqT K (upd H6 q (.tup ys)) b (wd.table.map V.int) := fun i v hi => by
        obtain ⟨wd, a, b, h1, h2, h3, h4⟩ := hq i v hi
        exact ⟨wd, a, b, h1, h2, (Sd.new hq2).tup h3, (Sd.new hq2).tup h4⟩
      generalize upd H6 q (.tup ys) = H6' at hx6 e6 hq6 hy6 ⊢
      walk_at "rd"
      refine ⟨x, _, dx, [(Str.ofString "signs", .int m), (Str.ofString "name", .str kd.name), (Str.ofString "inputs", .int kd.inputs), (Str.ofString "table", .ref ta), (Str.ofString "start", startV kd.start)], rfl, hx6, T.c_Kind, T.n_Kind_ways, by show 5 < 1000; decide, ?_⟩
      rw [show putF (Str.ofString "ways") (.ref q) [(Str.ofString "signs", .int m), (Str.ofString "name", .str kd.name), (Str.ofString "inputs", .int kd.inputs), (Str.ofString "table", .ref ta), (Str.ofString "start", startV kd.start)] = [(Str.ofString "signs", .int m), (Str.ofString "name", .str kd.name), (Str.ofString "inputs", .int kd.inputs), (Str.ofString "table", .ref ta), (Str.ofString "start", startV kd.start), (Str.ofString "ways", .ref q)] from putF_new (by show Str.ofString "ways" ∉ ([Str.ofString "signs", Str.ofString "name", Str.ofString "inputs", Str.ofString "table", Str.ofString "start"] : List Str); decide +kernel)]
      have e7 := e6.trans (Td.put (H := H6') (o := .ins (He.ga K "Kind") dx [(Str.ofString "signs", .int m), (Str.ofString "name", .str kd.name), (Str.ofString "inputs", .int kd.inputs), (Str.ofString "table", .ref ta), (Str.ofString "start", startV kd.start), (Str.ofString "ways", .ref q)]))
      have hx7 := (upd_same : upd H6' x (.ins (He.ga K "Kind") dx [(Str.ofString "signs", .int m), (Str.ofString "name", .str kd.name), (Str.ofString "inputs", .int kd.inputs), (Str.ofString "table", .ref ta), (Str.ofString "start", startV kd.start), (Str.ofString "ways", .ref q)]) x = _)
      have t7 := (Td.put (x := x) (H := H6') (o := .ins (He.ga K "Kind") dx [(Str.ofString "signs", .int m), (Str.ofString "name", .str kd.name), (Str.ofString "inputs", .int kd.inputs), (Str.ofString "table", .ref ta), (Str.ofString "start", startV kd.start), (Str.ofString "ways", .ref q)]))
      generalize upd H6' x (.ins (He.ga K "Kind") dx [(Str.ofString "signs", .int m), (Str.ofString "name", .str kd.name), (Str.ofString "inputs", .int kd.inputs), (Str.ofString "table", .ref ta), (Str.ofString "start", startV kd.start), (Str.ofString "ways", .ref q)]) = HX7 at e7 hx7 t7 ⊢
      walk_at "rd"
      refine ⟨x, _, dx, [(Str.ofString "signs", .int m), (Str.ofString "name", .str kd.name), (Str.ofString "inputs", .int kd.inputs), (Str.ofString "table", .ref ta), (Str.ofString "start", startV kd.start), (Str.ofString "ways", .ref q)], rfl, hx7, T.c_Kind, T.n_Kind_price, by show 6 < 1000; decide, ?_⟩
      rw [show putF (Str.ofString "price") (.int kd.price) [(Str.ofString "signs", .int m), (Str.ofString "name", .str kd.name), (Str.ofString "inputs", .int kd.inputs), (Str.ofString "table", .ref ta), (Str.ofString "start", startV kd.start), (Str.ofString "ways", .ref q)] = [(Str.ofString "signs", .int m), (Str.ofString "name", .str kd.name), (Str.ofString "inputs", .int kd.inputs), (Str.ofString "table", .ref ta), (Str.ofString "start", startV kd.start), (Str.ofString "ways", .ref q), (Str.ofString "price", .int kd.price)] from putF_new (by show Str.ofString "price" ∉ ([Str.ofString "signs", Str.ofString "name", Str.ofString "inputs", Str.ofString "table", Str.ofString "start", Str.ofString "ways"] : List Str); decide +kernel)]
      have e8 := e7.trans (Td.put (H := HX7) (o := .ins (He.ga K "Kind") dx [(Str.ofString "signs", .int m), (Str.ofString "name", .str kd.name), (Str.ofString "inputs", .int kd.inputs), (Str.ofString "table", .ref ta), (Str.ofString "start", startV kd.start), (Str.ofString "ways", .ref q), (Str.ofString "price", .int kd.price)]))
      have hx8 := (upd_same : upd HX7 x (.ins (He.ga K "Kind") dx [(Str.ofString "signs", .int m), (Str.ofString "name", .str kd.name), (Str.ofString "inputs", .int kd.inputs), (Str.ofString "table", .ref ta), (Str.ofString "start", startV kd.start), (Str.ofString "ways", .ref q), (Str.ofString "price", .int kd.price)]) x = _)
      walk_at "rd"
      have t8 := t7.trans (Td.put (H := HX7) (o := .ins (He.ga K "Kind") dx (kindL m kd (.ref ta) (.ref q))))
      refine k _ e8 ⟨dx, .ref ta, .ref q, hx8, ints_of (e8.tup hx hta), .tup (t8.tup hx6 hq6) (DpAll.of_at (by rw [List.length_map]; omega) fun i v d hv hd => ?_)⟩
      rw [List.getElem?_map] at hd
      obtain ⟨wd, hw, rfl⟩ := Option.map_eq_some_iff.mp hd
      obtain ⟨wd2, a, b, h1, rfl, h3, h4⟩ := hy6 i v hv
      rw [hw] at h1
      cases h1
      exact .tup (t8.tup hx6 h3) (.cons (.str _) (.cons (.str _) (.cons (ints_of (t8.tup hx6 h4)) .nil)))
    · refine ⟨_, (pss_cons (ps_if (pt_not (pt_val (pk (ok_is_number T) hr rfl T.g_is_number (pa_cons (pv 1) (pa_cons pe_int (pa_cons pe_int pa_nil)))))) (pss_one ps_never) pss_nil)
  (pss_cons (ps_if (pt_not (pt_val (pk (ok_is_name T) hr rfl T.g_is_name (pa_cons (pv 2) pa_nil)))) (pss_one ps_never) pss_nil)
  (pss_cons (ps_if (PW.pt (pw_or (pt_not (pt_val (pk (ok_is_table T) hr rfl T.g_is_table (pa_cons (pv 1) (pa_cons (pv 3) (pa_cons (pv 5) (pa_cons (pv 4) pa_nil))))))) (pw_or1 (pt_not (pt_val (pk (ok_is_number T) hr rfl T.g_is_number (pa_cons (pv 7) (pa_cons pe_int (pa_cons (pe_glob (v := .int 600) rfl (T.i_MOST_PRICE).choose_spec ⟨_, rfl⟩) pa_nil))))))))) (pss_one ps_never) pss_nil)
  (pss_cons (ps_if (pt_not (pt_val (pk (ok_are_ways T) hr rfl T.g_are_ways (pa_cons (pv 6) (pa_cons (pv 1) (pa_cons (pe_callTy call_tuple_of (by rfl) T.f_tuple (by decide +kernel) (pa_cons (pv 4) pa_nil)) pa_nil)))))) (pss_one ps_never) pss_nil)
  (pss_cons (ps_fld (pv 0) (pv 1) rfl)
  (pss_cons (ps_fld (pv 0) (pv 2) rfl)
  (pss_cons (ps_fld (pv 0) (pv 3) rfl)
  (pss_cons (ps_fld (pv 0) (pe_callTy call_tuple_of (by rfl) T.f_tuple (by decide +kernel) (pa_cons (pv 4) pa_nil)) rfl)
  (pss_cons (ps_fld (pv 0) (pv 5) rfl)
  (pss_cons (ps_fld (pv 0) (pe_callTy call_tuple_of (by rfl) T.f_tuple (by decide +kernel) (pa_cons (pe_lc (own := [("word", 8), ("label", 9), ("broken", 10)]) rfl sc_Kind_init.nd (pi_tup (pv 6)) (blkOk_by (own := [("word", 8), ("label", 9), ("broken", 10)]) (N := ["self", "signs", "name", "inputs", "table", "start", "ways", "price", "word", "label", "broken"]) (sc := defScope s_Kind_init) (by decide +kernel)) (fun _ _ _ _ _ => (pg_tupB (K := K) (n := 3) rfl (by rfl) (pgs_cons (pg_name (i := 8) sc_Kind_init.nd rfl (Or.inl rfl)) (pgs_cons (pg_name (i := 9) sc_Kind_init.nd rfl (Or.inl rfl)) (pgs_cons (pg_name (i := 10) sc_Kind_init.nd rfl (Or.inl rfl)) pgs_nil))))) (fun _ _ _ _ _ => pts_nil) (fun _ _ _ _ _ => (pe_tup (pa_cons (pv 8) (pa_cons (pv 9) (pa_cons (pe_callTy (call_tuple_ofB (K := K) rfl) (by rfl) T.f_tuple (by decide +kernel) (pa_cons (pv 10) pa_nil)) pa_nil)))))) pa_nil)) rfl)
  (pss_one (ps_fld (pv 0) (pv 7) rfl)))))))))))), ?_⟩
      walk_at "rd"
      refine r_number ?_
      rw [decide_eq_true (⟨by omega, by omega⟩ : (2 : Int) ≤ m ∧ m ≤ 3)]
      refine r_bl (r_iF ?_)
      walk_at "rd"
      refine r_isName G.name fun H1 s1 => ?_
      refine r_bl (r_iF ?_)
      walk_at "rd"
      refine ⟨m, kd.inputs, kd.start, ta, kd.table, rfl, hm, G.inputs, G.start, Sd.tup (Sd.of s1) hta, G.len, G.in_, fun H2 s2 => ?_⟩
      have s2 := s1.trans s2
      refine r_bl (r_iF ?_)
      walk_at "rd"
      refine r_number ?_
      rw [decide_eq_true (⟨by omega, by omega⟩ : (0 : Int) ≤ kd.price ∧ kd.price ≤ 600)]
      refine r_bl (r_iF ?_)
      walk_at "rd"
      refine ⟨_, _, rfl, .inr ⟨Sd.tup (Sd.of s2) hta, ?_⟩⟩
      walk_at "rd"
      refine ⟨p, us, kd.ways, m, ta, kd.table, rfl, .inr (Sd.tup (Sd.of s2) hp), DpAll.sd (Sd.of s2) _ _ (flat_wds _) hus, Sd.tup (Sd.of s2) hta, by omega, l6, G.nd, G.ways, fun H3 s3 => ?_⟩
      have s3 := s2.trans s3
      refine r_bl (r_iF ?_)
      have e3 : Td x H H3 := Td.same s3
      have hx3 := s3 _ _ hx
      walk_at "rd"
      refine ⟨x, _, dx, [], rfl, hx3, T.c_Kind, T.n_Kind_signs, by show 0 < 1000; decide, ?_⟩
      rw [show putF (Str.ofString "signs") (.int m) [] = [(Str.ofString "signs", .int m)] from putF_new (by show Str.ofString "signs" ∉ ([] : List Str); decide +kernel)]
      have ea := e3.trans (Td.put (H := H3) (o := .ins (He.ga K "Kind") dx [(Str.ofString "signs", .int m)]))
      have hxa := (upd_same : upd H3 x (.ins (He.ga K "Kind") dx [(Str.ofString "signs", .int m)]) x = _)
      generalize upd H3 x (.ins (He.ga K "Kind") dx [(Str.ofString "signs", .int m)]) = HXa at ea hxa ⊢
      walk_at "rd"
      refine ⟨x, _, dx, [(Str.ofString "signs", .int m)], rfl, hxa, T.c_Kind, T.n_Kind_name, by show 1 < 1000; decide, ?_⟩
      rw [show putF (Str.ofString "name") (.str kd.name) [(Str.ofString "signs", .int m)] = [(Str.ofString "signs", .int m), (Str.ofString "name", .str kd.name)] from putF_new (by show Str.ofString "name" ∉ ([Str.ofString "signs"] : List Str); decide +kernel)]
      have eb := ea.trans (Td.put (H := HXa) (o := .ins (He.ga K "Kind") dx [(Str.ofString "signs", .int m), (Str.ofString "name", .str kd.name)]))
      have hxb := (upd_same : upd HXa x (.ins (He.ga K "Kind") dx [(Str.ofString "signs", .int m), (Str.ofString "name", .str kd.name)]) x = _)
      generalize upd HXa x (.ins (He.ga K "Kind") dx [(Str.ofString "signs", .int m), (Str.ofString "name", .str kd.name)]) = HXb at eb hxb ⊢
      walk_at "rd"
      refine ⟨x, _, dx, [(Str.ofString "signs", .int m), (Str.ofString "name", .str kd.name)], rfl, hxb, T.c_Kind, T.n_Kind_inputs, by show 2 < 1000; decide, ?_⟩
      rw [show putF (Str.ofString "inputs") (.int kd.inputs) [(Str.ofString "signs", .int m), (Str.ofString "name", .str kd.name)] = [(Str.ofString "signs", .int m), (Str.ofString "name", .str kd.name), (Str.ofString "inputs", .int kd.inputs)] from putF_new (by show Str.ofString "inputs" ∉ ([Str.ofString "signs", Str.ofString "name"] : List Str); decide +kernel)]
      have ec := eb.trans (Td.put (H := HXb) (o := .ins (He.ga K "Kind") dx [(Str.ofString "signs", .int m), (Str.ofString "name", .str kd.name), (Str.ofString "inputs", .int kd.inputs)]))
      have hxc := (upd_same : upd HXb x (.ins (He.ga K "Kind") dx [(Str.ofString "signs", .int m), (Str.ofString "name", .str kd.name), (Str.ofString "inputs", .int kd.inputs)]) x = _)
      generalize upd HXb x (.ins (He.ga K "Kind") dx [(Str.ofString "signs", .int m), (Str.ofString "name", .str kd.name), (Str.ofString "inputs", .int kd.inputs)]) = HXc at ec hxc ⊢
      walk_at "rd"
      have ht3 := ec.tup hx hta
      refine ⟨_, _, rfl, .inr ⟨ht3, ?_⟩⟩
      walk_at "rd"
      refine ⟨x, _, dx, [(Str.ofString "signs", .int m), (Str.ofString "name", .str kd.name), (Str.ofString "inputs", .int kd.inputs)], rfl, hxc, T.c_Kind, T.n_Kind_table, by show 3 < 1000; decide, ?_⟩
      rw [show putF (Str.ofString "table") (.ref ta) [(Str.ofString "signs", .int m), (Str.ofString "name", .str kd.name), (Str.ofString "inputs", .int kd.inputs)] = [(Str.ofString "signs", .int m), (Str.ofString "name", .str kd.name), (Str.ofString "inputs", .int kd.inputs), (Str.ofString "table", .ref ta)] from putF_new (by show Str.ofString "table" ∉ ([Str.ofString "signs", Str.ofString "name", Str.ofString "inputs"] : List Str); decide +kernel)]
      have ed := ec.trans (Td.put (H := HXc) (o := .ins (He.ga K "Kind") dx [(Str.ofString "signs", .int m), (Str.ofString "name", .str kd.name), (Str.ofString "inputs", .int kd.inputs), (Str.ofString "table", .ref ta)]))
      have hxd := (upd_same : upd HXc x (.ins (He.ga K "Kind") dx [(Str.ofString "signs", .int m), (Str.ofString "name", .str kd.name), (Str.ofString "inputs", .int kd.inputs), (Str.ofString "table", .ref ta)]) x = _)
      generalize upd HXc x (.ins (He.ga K "Kind") dx [(Str.ofString "signs", .int m), (Str.ofString "name", .str kd.name), (Str.ofString "inputs", .int kd.inputs), (Str.ofString "table", .ref ta)]) = HXd at ed hxd ⊢
      walk_at "rd"
      refine ⟨x, _, dx, [(Str.ofString "signs", .int m), (Str.ofString "name", .str kd.name), (Str.ofString "inputs", .int kd.inputs), (Str.ofString "table", .ref ta)], rfl, hxd, T.c_Kind, T.n_Kind_start, by show 4 < 1000; decide, ?_⟩
      rw [show putF (Str.ofString "start") (startV kd.start) [(Str.ofString "signs", .int m), (Str.ofString "name", .str kd.name), (Str.ofString "inputs", .int kd.inputs), (Str.ofString "table", .ref ta)] = [(Str.ofString "signs", .int m), (Str.ofString "name", .str kd.name), (Str.ofString "inputs", .int kd.inputs), (Str.ofString "table", .ref ta), (Str.ofString "start", startV kd.start)] from putF_new (by show Str.ofString "start" ∉ ([Str.ofString "signs", Str.ofString "name", Str.ofString "inputs", Str.ofString "table"] : List Str); decide +kernel)]
      have e5 := ed.trans (Td.put (H := HXd) (o := .ins (He.ga K "Kind") dx [(Str.ofString "signs", .int m), (Str.ofString "name", .str kd.name), (Str.ofString "inputs", .int kd.inputs), (Str.ofString "table", .ref ta), (Str.ofString "start", startV kd.start)]))
      have hx5 := (upd_same : upd HXd x (.ins (He.ga K "Kind") dx [(Str.ofString "signs", .int m), (Str.ofString "name", .str kd.name), (Str.ofString "inputs", .int kd.inputs), (Str.ofString "table", .ref ta), (Str.ofString "start", startV kd.start)]) x = _)
      generalize upd HXd x (.ins (He.ga K "Kind") dx [(Str.ofString "signs", .int m), (Str.ofString "name", .str kd.name), (Str.ofString "inputs", .int kd.inputs), (Str.ofString "table", .ref ta), (Str.ofString "start", startV kd.start)]) = HX5 at e5 hx5 ⊢
      walk_at "rd"
      have hp5 := e5.tup hx hp
      refine lcT (P := fun i v H' => ∃ wd a b, kd.ways[i]? = some wd ∧ v = .ref a ∧ SqT K H' a [.str wd.word, .str wd.name, .ref b] ∧ SqT K H' b (wd.table.map V.int)) way_same (Same.refl _) hp5 (by omega) (fun i v A B sd ⟨wd, a, b, h1, h2, h3, h4⟩ => ⟨wd, a, b, h1, h2, sd.tup h3, sd.tup h4⟩) (fun i v H6 hi e6 Qe q => ?_) fun D H6 ys hD e6 hy hl hq => ?_
      · obtain ⟨wd, hw, a, b, rfl, ha, hb⟩ := item hi
        have ha := Sd.tup (Sd.of e6) (e5.tup hx ha)
        have hb := Sd.tup (Sd.of e6) (e5.tup hx hb)
        refine r_tupG ha rfl ?_
        walk_at "rd"
        refine ⟨rfl, ?_⟩
        walk_at "rd"
        refine ⟨_, _, rfl, .inr ⟨hb, ?_⟩⟩
        walk_at "rd"
        refine ⟨by show 3 ≤ sizeLine; decide, fun p3 hp3 => ?_⟩
        have up := Same.upd (o := .tup [V.str wd.word, V.str wd.name, V.ref b]) hp3
        exact q _ _ up ⟨wd, p3, b, hw, rfl, SqT.of upd_same, Sd.tup (Sd.of up) hb⟩
      walk_at "rd"
      refine ⟨_, _, rfl, .inl ⟨SqL.of hy, fun q hq2 => ?_⟩⟩
      have up6 := e6.trans (Same.upd (o := .tup ys) hq2)
      have hx6 := up6 _ _ hx5
      have e6 := e5.trans (Td.same up6)
      have hq6 : SqT K (upd H6 q (.tup ys)) q ys := SqT.of upd_same
      have hy6 : ∀ (i : Nat) v, ys[i]? = some v → ∃ wd a b, kd.ways[i]? = some wd ∧ v = .ref a ∧ SqT K (upd H6 q (.tup ys)) a [.str wd.word, .str wd.name, .ref b] ∧ SqT K (upd H6 q (.tup ys)) b (wd.table.map V.int) := fun i v hi => by
        obtain ⟨wd, a, b, h1, h2, h3, h4⟩ := hq i v hi
        exact ⟨wd, a, b, h1, h2, (Sd.new hq2).tup h3, (Sd.new hq2).tup h4⟩
      generalize upd H6 q (.tup ys) = H6' at hx6 e6 hq6 hy6 ⊢
      walk_at "rd"
      refine ⟨x, _, dx, [(Str.ofString "signs", .int m), (Str.ofString "name", .str kd.name), (Str.ofString "inputs", .int kd.inputs), (Str.ofString "table", .ref ta), (Str.ofString "start", startV kd.start)], rfl, hx6, T.c_Kind, T.n_Kind_ways, by show 5 < 1000; decide, ?_⟩
      rw [show putF (Str.ofString "ways") (.ref q) [(Str.ofString "signs", .int m), (Str.ofString "name", .str kd.name), (Str.ofString "inputs", .int kd.inputs), (Str.ofString "table", .ref ta), (Str.ofString "start", startV kd.start)] = [(Str.ofString "signs", .int m), (Str.ofString "name", .str kd.name), (Str.ofString "inputs", .int kd.inputs), (Str.ofString "table", .ref ta), (Str.ofString "start", startV kd.start), (Str.ofString "ways", .ref q)] from putF_new (by show Str.ofString "ways" ∉ ([Str.ofString "signs", Str.ofString "name", Str.ofString "inputs", Str.ofString "table", Str.ofString "start"] : List Str); decide +kernel)]
      have e7 := e6.trans (Td.put (H := H6') (o := .ins (He.ga K "Kind") dx [(Str.ofString "signs", .int m), (Str.ofString "name", .str kd.name), (Str.ofString "inputs", .int kd.inputs), (Str.ofString "table", .ref ta), (Str.ofString "start", startV kd.start), (Str.ofString "ways", .ref q)]))
      have hx7 := (upd_same : upd H6' x (.ins (He.ga K "Kind") dx [(Str.ofString "signs", .int m), (Str.ofString "name", .str kd.name), (Str.ofString "inputs", .int kd.inputs), (Str.ofString "table", .ref ta), (Str.ofString "start", startV kd.start), (Str.ofString "ways", .ref q)]) x = _)
      have t7 := (Td.put (x := x) (H := H6') (o := .ins (He.ga K "Kind") dx [(Str.ofString "signs", .int m), (Str.ofString "name", .str kd.name), (Str.ofString "inputs", .int kd.inputs), (Str.ofString "table", .ref ta), (Str.ofString "start", startV kd.start), (Str.ofString "ways", .ref q)]))
      generalize upd H6' x (.ins (He.ga K "Kind") dx [(Str.ofString "signs", .int m), (Str.ofString "name", .str kd.name), (Str.ofString "inputs", .int kd.inputs), (Str.ofString "table", .ref ta), (Str.ofString "start", startV kd.start), (Str.ofString "ways", .ref q)]) = HX7 at e7 hx7 t7 ⊢
      walk_at "rd"
      refine ⟨x, _, dx, [(Str.ofString "signs", .int m), (Str.ofString "name", .str kd.name), (Str.ofString "inputs", .int kd.inputs), (Str.ofString "table", .ref ta), (Str.ofString "start", startV kd.start), (Str.ofString "ways", .ref q)], rfl, hx7, T.c_Kind, T.n_Kind_price, by show 6 < 1000; decide, ?_⟩
      rw [show putF (Str.ofString "price") (.int kd.price) [(Str.ofString "signs", .int m), (Str.ofString "name", .str kd.name), (Str.ofString "inputs", .int kd.inputs), (Str.ofString "table", .ref ta), (Str.ofString "start", startV kd.start), (Str.ofString "ways", .ref q)] = [(Str.ofString "signs", .int m), (Str.ofString "name", .str kd.name), (Str.ofString "inputs", .int kd.inputs), (Str.ofString "table", .ref ta), (Str.ofString "start", startV kd.start), (Str.ofString "ways", .ref q), (Str.ofString "price", .int kd.price)] from putF_new (by show Str.ofString "price" ∉ ([Str.ofString "signs", Str.ofString "name", Str.ofString "inputs", Str.ofString "table", Str.ofString "start", Str.ofString "ways"] : List Str); decide +kernel)]
      have e8 := e7.trans (Td.put (H := HX7) (o := .ins (He.ga K "Kind") dx [(Str.ofString "signs", .int m), (Str.ofString "name", .str kd.name), (Str.ofString "inputs", .int kd.inputs), (Str.ofString "table", .ref ta), (Str.ofString "start", startV kd.start), (Str.ofString "ways", .ref q), (Str.ofString "price", .int kd.price)]))
      have hx8 := (upd_same : upd HX7 x (.ins (He.ga K "Kind") dx [(Str.ofString "signs", .int m), (Str.ofString "name", .str kd.name), (Str.ofString "inputs", .int kd.inputs), (Str.ofString "table", .ref ta), (Str.ofString "start", startV kd.start), (Str.ofString "ways", .ref q), (Str.ofString "price", .int kd.price)]) x = _)
      walk_at "rd"
      have t8 := t7.trans (Td.put (H := HX7) (o := .ins (He.ga K "Kind") dx (kindL m kd (.ref ta) (.ref q))))
      refine k _ e8 ⟨dx, .ref ta, .ref q, hx8, ints_of (e8.tup hx hta), .tup (t8.tup hx6 hq6) (DpAll.of_at (by rw [List.length_map]; omega) fun i v d hv hd => ?_)⟩
      rw [List.getElem?_map] at hd
      obtain ⟨wd, hw, rfl⟩ := Option.map_eq_some_iff.mp hd
      obtain ⟨wd2, a, b, h1, rfl, h3, h4⟩ := hy6 i v hv
      rw [hw] at h1
      cases h1
      exact .tup (t8.tup hx6 h3) (.cons (.str _) (.cons (.str _) (.cons (ints_of (t8.tup hx6 h4)) .nil)))
end
end Tx

/-! ## Pr5 -/
set_option maxHeartbeats 4000000
/-! Catalogues made. -/
namespace Tx
open PySem PySem.Spec PyProof.Rows L2 Gd
local macro_rules | `(tactic| walk_at "rd1") => `(tactic| first
  | ((with_reducible show tVar _ _ _ _); refine r_var (by rfl) ?_)
  | with_reducible refine r_c ?_
  | with_reducible refine r_seq ?_
  | with_reducible refine r_asg ?_
  | with_reducible refine r_name ?_
  | with_reducible refine r_op ?_
  | with_reducible refine r_I0 ?_
  | with_reducible refine r_cons ?_
  | with_reducible refine r_nil ?_
  | with_reducible refine r_call ?_
  | with_reducible refine r_ret ?_
  | with_reducible refine r_cb ?_
  | with_reducible refine r_ifS ?_
  | with_reducible refine r_test ?_
  | with_reducible refine r_bl ?_
  | with_reducible refine r_dget ?_
  | with_reducible refine r_dput ?_
  | ((with_reducible show (∃ k, [V.int _] = [V.int k] ∧ _) ∨ _); refine Or.inl ⟨_, rfl, ?_⟩)
  | with_reducible refine r_lcR ?_
  | with_reducible refine r_lcL ?_
  | with_reducible refine r_lcT ?_
  | with_reducible refine r_m1 ?_
  | with_reducible refine r_gSub ?_
  | with_reducible refine r_forR ?_
  | with_reducible refine r_forL ?_
  | with_reducible refine r_forT ?_
  | with_reducible refine r_bm ?_
  | with_reducible refine r_next ?_
  | with_reducible refine r_B ?_
  | with_reducible refine r_not ?_
  | with_reducible refine r_and ?_
  | with_reducible refine r_or ?_
  | with_reducible refine r_andV ?_
  | with_reducible refine r_orV ?_
  | with_reducible refine r_notV ?_
  | with_reducible refine r_ifE ?_
  | with_reducible refine r_drop ?_
  | with_reducible refine r_tup ?_
  | with_reducible refine r_lst ?_
  | with_reducible refine r_un ?_
  | with_reducible refine r_U ?_)
local macro_rules | `(tactic| walk_at "rd") => `(tactic| repeat walk_at "rd1")
theorem pe_fldB {X : Cx} {K : Frg} (h : X.K = K) {e : Expr} {ta : TE} {f : Str} {pos : Pos} (he : PE X e ta) (hb : attributeBase e f X.env (eval e X.env) = eval e X.env) : PE X (.Attribute e f pos) (tFld K ta f) := h ▸ pe_fld he hb
local macro_rules | `(tactic| walk_at "rd1") => `(tactic| first
  | with_reducible refine r_lcS ?_
  | with_reducible refine r_sl ?_
  | with_reducible refine r_noPart ?_
  | with_reducible refine r_partE ?_
  | with_reducible refine r_sfld ?_
  | with_reducible refine r_gc ?_
  | with_reducible refine r_gn ?_
  | with_reducible refine r_forE ?_
  | with_reducible refine r_makeK ?_
  | with_reducible refine r_make ?_
  | with_reducible refine r_fld ?_
  | with_reducible refine r_prop ?_
  | with_reducible refine r_meth ?_
  | with_reducible refine r_chain ?_)
section
variable {K : Frg} {H H' : Hp} {x c : Addr} {m : Int} {k : KD} {ks : List KD} {as : List Addr}
theorem flat_ways (k : KD) : flatD (waysD k.ways) = true := by simp [waysD, flatD, flat_wds]
theorem KindAt.sd (h : KindAt K H x m k) (e : Sd H H') : KindAt K H' x m k := by
  obtain ⟨dx, vt, vw, a, b, c⟩ := h.ex
  exact ⟨dx, vt, vw, e _ _ trivial a, Dp.sd e _ _ flat_intsD b, Dp.sd e _ _ (flat_ways k) c⟩
theorem KindAt.td {C dx : Addr} {fs : List (Str × V)} (h : KindAt K H x m k) (e : Td c H H') (hc : H c = some (.ins C dx fs)) (n : x ≠ c) : KindAt K H' x m k := by
  obtain ⟨dx, vt, vw, a, b, d⟩ := h.ex
  exact ⟨dx, vt, vw, e _ _ n a, Dp.ts (fun _ _ z => e.tup hc z) _ _ flat_intsD b, Dp.ts (fun _ _ z => e.tup hc z) _ _ (flat_ways k) d⟩
/-- kinds stand there -/
structure KindsAt (K : Frg) (H : Hp) (as : List Addr) (m : Int) (ks : List KD) : Prop where
  len : as.length = ks.length
  at_ : ∀ (i : Nat) a k, as[i]? = some a → ks[i]? = some k → KindAt K H a m k
theorem KindsAt.sd (h : KindsAt K H as m ks) (e : Sd H H') : KindsAt K H' as m ks := ⟨h.len, fun i a k x y => (h.at_ i a k x y).sd e⟩
theorem KindsAt.get (h : KindsAt K H as m ks) {i : Nat} {v : V} (e : (as.map V.ref)[i]? = some v) : ∃ a k, as[i]? = some a ∧ ks[i]? = some k ∧ v = .ref a ∧ KindAt K H a m k := by
  rw [List.getElem?_map] at e
  obtain ⟨a, ha, rfl⟩ := Option.map_eq_some_iff.mp e
  have hi : i < ks.length := by rw [← h.len]; exact (List.getElem?_eq_some_iff.mp ha).1
  exact ⟨a, ks[i], ha, List.getElem?_eq_getElem hi, rfl, h.at_ i a _ ha (List.getElem?_eq_getElem hi)⟩
end
def catL (m : Int) (p q : Addr) : List (Str × V) := [(Str.ofString "signs", .int m), (Str.ofString "kinds", .ref p), (Str.ofString "_names", .ref q)]
/-- a catalogue stands there -/
structure CatAt (K : Frg) (H : Hp) (c : Addr) (m : Int) (ks : List KD) : Prop where
  ex : ∃ (dx p q : Addr) (as : List Addr), H c = some (.ins (He.ga K "Catalogue") dx (catL m p q)) ∧ SqT K H p (as.map V.ref) ∧ KindsAt K H as m ks
theorem CatAt.sd {K : Frg} {H H' : Hp} {c : Addr} {m : Int} {ks : List KD} (h : CatAt K H c m ks) (e : Sd H H') : CatAt K H' c m ks := by
  obtain ⟨dx, p, q, as, a, b, d⟩ := h.ex
  exact ⟨dx, p, q, as, e _ _ trivial a, e.tup b, d.sd e⟩
def spKeeps (K : Frg) : Sp := fun vs H Q _ => ∃ x m k, vs = [.ref x] ∧ KindAt K H x m k ∧ Q (.bl k.start.isSome) H
def spCat (K : Frg) : Sp := fun vs H Q _ => ∃ (x dx p : Addr) (m : Int) (as : List Addr) (ks : List KD), vs = [.ref x, .int m, .ref p] ∧ H x = some (.ins (He.ga K "Catalogue") dx []) ∧ SqL K H p (as.map V.ref) ∧ KindsAt K H as m ks ∧ GoodT m ks ∧ ks.length ≤ 8 ∧ x ∉ as ∧
  ∀ H', Td x H H' → CatAt K H' x m ks → Q .non H'
section
variable {P : Program} {w : World} {K : Frg} {mg : Str → Option Value} {base : Heap}
theorem sc_Kind_keeps : FnScope ["self"] ["self"] (defScope s_Kind_keeps) := ⟨rfl, rfl, rfl, by decide +kernel, rfl, by decide +kernel, by decide +kernel⟩
theorem ok_Kind_keeps (T : Txt K mg) : Ok P w K mg base 1 (getA "Kind" "keeps" K) ["self"] (spKeeps K) := by
  obtain ⟨fd, F⟩ := T.F_Kind_keeps
  have b : Binds K fd ["self"] [] := F.bindsN fun _ _ _ _ _ _ us hl => match us, hl with | [_], _ => rfl
  refine ok_of F b sc_Kind_keeps (fun vs H Q E h => ?_) (fun cdv A outer s H vs Q E hr h => ?_)
  · obtain ⟨x, m, k, rfl, _⟩ := h
    rfl
  · obtain ⟨x, m, kd, rfl, hx, k⟩ := h
    obtain ⟨dx, vt, vw, hx, _⟩ := hx.ex
    refine ⟨_, (pss_one (ps_ret (pe_cmpR op_notN (pe_fld (pv 0) rfl) pe_non (by first | exact nomark _ | rfl)))), ?_⟩
    walk_at "rd"
    refine ⟨_, _, _, _, _, rfl, hx, T.c_Kind, T.n_Kind_start, rfl, ?_⟩
    walk_at "rd"
    refine ⟨rfl, ?_⟩
    cases hs : kd.start with
    | none => rw [hs] at k; exact k
    | some s => rw [hs] at k; exact k
theorem sc_Catalogue_init : FnScope ["self", "signs", "kinds", "kind", "names", "at", "name"] ["self", "signs", "kinds"] (defScope s_Catalogue_init) := ⟨rfl, rfl, rfl, by decide +kernel, rfl, by decide +kernel, by decide +kernel⟩
theorem ok_Catalogue_init (T : Txt K mg) : Ok P w K mg base 2 (He.ma K (He.ga K "Catalogue") "__init__") ["self", "signs", "kinds"] (spCat K) := by
  obtain ⟨fd, F⟩ := T.F_Catalogue_init
  have b : Binds K fd ["self", "signs", "kinds"] [] := by
    obtain ⟨ds, hv, b⟩ := F.binds1 (ps := ["self", "signs", "kinds"]) 3 1 (by simp [DefA.dvs, d_Catalogue_init]) (by simp [DefA.dvs, d_Catalogue_init]) (fun T kV doc pm an cdv ct us its l1 l2 => match us, its, l1, l2 with | [_, _, _], [_], _, _ => ⟨_, rfl, rfl⟩)
    have e : (d_Catalogue_init.dvs K).drop 1 = [] := rfl
    rw [e] at hv
    cases hv
    exact b
  refine ok_of F b sc_Catalogue_init (fun vs H Q E h => ?_) (fun cdv A outer s H vs Q E hr h => ?_)
  · obtain ⟨x, dx, p, m, as, ks, rfl, _⟩ := h
    rfl
  · obtain ⟨x, dx, p, m, as, ks, rfl, hx, hp, hk, G, l8, nin, k⟩ := h
    have hm := G.m_
    have m2 : 2 ≤ m := by rcases hm with rfl | rfl <;> decide
    have m3 : m ≤ 3 := by rcases hm with rfl | rfl <;> decide
    have hl := hk.len
    refine ⟨_, (pss_cons (ps_if (pt_not (pt_val (pk (ok_is_number T) hr rfl T.g_is_number (pa_cons (pv 1) (pa_cons pe_int (pa_cons pe_int pa_nil)))))) (pss_one ps_never) pss_nil)
  (pss_cons (ps_if (pt_cmpR op_gt (pe_callB call_len_seq (by rfl) T.f_len (by decide +kernel) (pa_cons (pv 2) pa_nil)) (pe_glob (v := .int 8) rfl (T.i_MOST_KINDS).choose_spec ⟨_, rfl⟩) (by first | exact nomark _ | rfl)) (pss_one ps_never) pss_nil)
  (pss_cons (ps_for PassesOwn.never rfl (pi_list (pv 2)) (pg_name (i := 3) sc_Catalogue_init.nd rfl (Or.inl rfl)) (pss_one (ps_if (pt_cmpR op_ne (pe_fld (pv 3) rfl) (pv 1) (by first | exact nomark _ | rfl)) (pss_one ps_never) pss_nil)))
  (pss_cons (ps_setLc (i := 4) (own := [("kind", 3)]) rfl sc_Catalogue_init.nd rfl rfl (sw_true rfl rfl rfl (by decide +kernel)) (pi_list (pv 2)) (blkOk_by (own := [("kind", 3)]) (N := ["self", "signs", "kinds", "kind", "names", "at", "name"]) (sc := defScope s_Catalogue_init) (by decide +kernel)) (fun _ _ _ _ _ => (pg_name (i := 3) sc_Catalogue_init.nd rfl (Or.inl rfl))) (fun _ _ _ _ _ => pts_nil) (fun _ _ _ _ _ => (pe_fldB (K := K) rfl (pv 3) rfl)))
  (pss_cons (ps_for PassesOwn.never rfl (pi_enum (by rfl) T.f_enumerate (pa_cons (pv 4) pa_nil)) (pg_tup (by rfl) (pgs_cons (pg_name (i := 5) sc_Catalogue_init.nd rfl (Or.inl rfl)) (pgs_cons (pg_name (i := 6) sc_Catalogue_init.nd rfl (Or.inl rfl)) pgs_nil))) (pss_one (ps_if (pt_cmpR op_in_seq (pv 6) (pe_slice sl_list (pv 4) po_none (po_some (pv 5))) (by first | exact nomark _ | rfl)) (pss_one ps_never) pss_nil)))
  (pss_cons (ps_fld (pv 0) (pv 1) rfl)
  (pss_cons (ps_fld (pv 0) (pe_callTy call_tuple_of (by rfl) T.f_tuple (by decide +kernel) (pa_cons (pv 2) pa_nil)) rfl)
  (pss_one (ps_fld (pv 0) (pe_callTy call_tuple_of (by rfl) T.f_tuple (by decide +kernel) (pa_cons (pv 4) pa_nil)) rfl))))))))), ?_⟩
    walk_at "rd"
    refine r_number ?_
    rw [decide_eq_true (⟨by omega, by omega⟩ : (2 : Int) ≤ m ∧ m ≤ 3)]
    refine r_bl (r_iF ?_)
    walk_at "rd"
    refine ⟨_, _, rfl, .inl hp, ?_⟩
    rw [List.length_map]
    walk_at "rd"
    rw [decide_eq_false (by omega : ¬ (8 : Int) < (as.length : Int))]
    refine r_iF ?_
    walk_at "rd"
    refine forL (fun j σ' H' => ∃ o : Option V, σ' = [some (.ref x), some (.int m), some (.ref p), o, none, none, none] ∧ H' = H) hp ⟨none, rfl, rfl⟩ (fun j σ' H' _ z => ?_) ?_ ?_
    · obtain ⟨_, _, rfl⟩ := z
      exact hp
    · rintro j v σ' H' hv ⟨o, rfl, rfl⟩
      obtain ⟨a, kd, _, hkd, rfl, hK⟩ := hk.get hv
      obtain ⟨dk, vt, vw, ha, _⟩ := hK.ex
      walk_at "rd"
      refine ⟨_, _, _, _, _, rfl, ha, T.c_Kind, T.n_Kind_signs, rfl, ?_⟩
      walk_at "rd"
      refine r_ne rfl ?_
      rw [decide_eq_true rfl]
      refine r_bl (r_iF ?_)
      walk_at "rd"
      exact ⟨_, rfl, rfl⟩
    rintro σ' H' ⟨o, rfl, rfl⟩
    walk_at "rd"
    refine lcL (P := fun i v _ => ∃ k, ks[i]? = some k ∧ v = .str k.name) way_same (Same.refl _) hp (by rw [List.length_map]; omega) (fun _ _ _ _ _ p => p) (fun i v H1 hi e1 Qe q => ?_) fun D H1 ys hD e1 hy hyl hq => ?_
    · refine r_name ⟨rfl, ?_⟩
      obtain ⟨a, kd, _, hkd, rfl, hK⟩ := hk.get hi
      obtain ⟨dk, vt, vw, ha, _⟩ := hK.ex
      walk_at "rd"
      refine ⟨_, _, _, _, _, rfl, e1 _ _ ha, T.c_Kind, T.n_Kind_name, rfl, ?_⟩
      exact q _ _ (Same.refl _) ⟨kd, hkd, rfl⟩
    rw [List.length_map] at hyl
    have hys := map_read (f := fun k : KD => V.str k.name) (by omega) hq
    rw [show (ks.map fun k : KD => V.str k.name) = (ks.map KD.name).map V.str by rw [List.map_map]; rfl] at hys
    subst hys
    walk_at "rd"
    refine forE (fun j σ' H' => ∃ o5 o6 : Option V, σ' = [some (.ref x), some (.int m), some (.ref p), o, some (.ref D), o5, o6] ∧ Same H1 H') (SqL.of hy) ⟨none, none, rfl, Same.refl _⟩ (fun j σ' H' _ z => ?_) ?_ ?_
    · obtain ⟨_, _, _, z⟩ := z
      exact Same.seq z (SqL.of hy)
    · rintro j v σ' H2 A hv ⟨o5, o6, rfl, s2⟩ hA
      rw [List.getElem?_map] at hv
      obtain ⟨nm, hnm, rfl⟩ := Option.map_eq_some_iff.mp hv
      have s3 := s2.trans (Same.upd (o := .tup [.int (j : Int), .str nm]) hA)
      refine r_tupG (SqT.of upd_same) rfl ?_
      walk_at "rd"
      refine ⟨_, rfl, r_slL (Same.seq s3 (SqL.of hy)) fun q hq => ?_⟩
      have hj : j < (ks.map KD.name).length := (List.getElem?_eq_some_iff.mp hnm).1
      have ec : cutV ((ks.map KD.name).map V.str) none (some (j : Int)) = ((ks.map KD.name).take j).map V.str := by
        unfold cutV
        rw [HT.sIx_none, HT.sIx_nat, List.length_map (f := V.str), Nat.min_eq_left (by omega), Nat.sub_zero, List.drop_zero, List.map_take]
      rw [ec]
      have s4 := s3.trans (Same.upd (o := .lst (((ks.map KD.name).take j).map V.str)) hq)
      refine r_in (.inl (SqL.of upd_same)) ?_
      have hno : nm ∉ (ks.map KD.name).take j := fun hmem => by
        obtain ⟨i, hi, e⟩ := List.mem_take_iff_getElem.mp hmem
        have e2 : (ks.map KD.name)[j] = nm := (List.getElem?_eq_some_iff.mp hnm).2
        have := (List.getElem_inj (h₀ := by omega) (h₁ := hj) G.nd).mp (e.trans e2.symm)
        omega
      rw [decide_eq_false hno]
      refine r_bl (r_iF ?_)
      walk_at "rd"
      exact ⟨_, _, rfl, s4⟩
    rintro σ' H3 ⟨o5, o6, rfl, s3⟩
    have hyD : SqL K H3 D ((ks.map KD.name).map V.str) := Same.seq s3 (SqL.of hy)
    have s3 := e1.trans s3
    have e3 : Td x H3 H3 := Td.same (Same.refl _)
    have hx3 := s3 _ _ hx
    have hp3 := Same.seq s3 hp
    have hk3 := hk.sd (Sd.of s3)
    walk_at "rd"
    refine ⟨x, _, dx, [], rfl, hx3, T.c_Catalogue, T.n_Catalogue_signs, by show 0 < 1000; decide, ?_⟩
    rw [show putF (Str.ofString "signs") (.int m) [] = [(Str.ofString "signs", .int m)] from putF_new (by show Str.ofString "signs" ∉ ([] : List Str); decide +kernel)]
    have ea := e3.trans (Td.put (H := H3) (o := .ins (He.ga K "Catalogue") dx [(Str.ofString "signs", .int m)]))
    have hxa := (upd_same : upd H3 x (.ins (He.ga K "Catalogue") dx [(Str.ofString "signs", .int m)]) x = _)
    generalize upd H3 x (.ins (He.ga K "Catalogue") dx [(Str.ofString "signs", .int m)]) = HXa at ea hxa  ⊢
    walk_at "rd"
    refine ⟨_, _, rfl, .inl ⟨ea.seq hx3 hp3, fun q hq => ?_⟩⟩
    have eq := ea.trans (Td.same (Same.upd (o := .tup (as.map V.ref)) hq))
    have hxq := Same.upd (o := .tup (as.map V.ref)) hq _ _ hxa
    have hq2 : SqT K (upd HXa q (.tup (as.map V.ref))) q (as.map V.ref) := SqT.of upd_same
    generalize upd HXa q (.tup (as.map V.ref)) = HXq at eq hxq hq2 ⊢
    walk_at "rd"
    refine ⟨x, _, dx, [(Str.ofString "signs", .int m)], rfl, hxq, T.c_Catalogue, T.n_Catalogue_kinds, by show 1 < 1000; decide, ?_⟩
    rw [show putF (Str.ofString "kinds") (.ref q) [(Str.ofString "signs", .int m)] = [(Str.ofString "signs", .int m), (Str.ofString "kinds", .ref q)] from putF_new (by show Str.ofString "kinds" ∉ ([Str.ofString "signs"] : List Str); decide +kernel)]
    have eb := eq.trans (Td.put (H := HXq) (o := .ins (He.ga K "Catalogue") dx [(Str.ofString "signs", .int m), (Str.ofString "kinds", .ref q)]))
    have hxb := (upd_same : upd HXq x (.ins (He.ga K "Catalogue") dx [(Str.ofString "signs", .int m), (Str.ofString "kinds", .ref q)]) x = _)
    have tb := Td.put (x := x) (H := HXq) (o := .ins (He.ga K "Catalogue") dx [(Str.ofString "signs", .int m), (Str.ofString "kinds", .ref q)])
    generalize upd HXq x (.ins (He.ga K "Catalogue") dx [(Str.ofString "signs", .int m), (Str.ofString "kinds", .ref q)]) = HXb at eb hxb tb ⊢
    walk_at "rd"
    refine ⟨_, _, rfl, .inl ⟨eb.seq hx3 hyD, fun r hr => ?_⟩⟩
    have er := eb.trans (Td.same (Same.upd (o := .tup ((ks.map KD.name).map V.str)) hr))
    have tr := tb.trans (Td.same (x := x) (Same.upd (o := .tup ((ks.map KD.name).map V.str)) hr))
    have hxr := Same.upd (o := .tup ((ks.map KD.name).map V.str)) hr _ _ hxb
    generalize upd HXb r (.tup ((ks.map KD.name).map V.str)) = HXr at er tr hxr ⊢
    walk_at "rd"
    refine ⟨x, _, dx, [(Str.ofString "signs", .int m), (Str.ofString "kinds", .ref q)], rfl, hxr, T.c_Catalogue, T.n_Catalogue_names, by show 2 < 1000; decide, ?_⟩
    rw [show putF (Str.ofString "_names") (.ref r) [(Str.ofString "signs", .int m), (Str.ofString "kinds", .ref q)] = [(Str.ofString "signs", .int m), (Str.ofString "kinds", .ref q), (Str.ofString "_names", .ref r)] from putF_new (by show Str.ofString "_names" ∉ ([Str.ofString "signs", Str.ofString "kinds"] : List Str); decide +kernel)]
    have ec := er.trans (Td.put (H := HXr) (o := .ins (He.ga K "Catalogue") dx [(Str.ofString "signs", .int m), (Str.ofString "kinds", .ref q), (Str.ofString "_names", .ref r)]))
    have hxc := (upd_same : upd HXr x (.ins (He.ga K "Catalogue") dx [(Str.ofString "signs", .int m), (Str.ofString "kinds", .ref q), (Str.ofString "_names", .ref r)]) x = _)
    walk_at "rd"
    have tc := tr.trans (Td.put (x := x) (H := HXr) (o := .ins (He.ga K "Catalogue") dx (catL m q r)))
    refine k _ ((Td.same s3).trans ec) ⟨dx, q, r, as, hxc, tc.tup hxq hq2, ⟨hl, fun i a kd h1 h2 => (hk3.at_ i a kd h1 h2).td ec hx3 ?_⟩⟩
    rintro rfl
    exact nin (List.mem_of_getElem? h1)
end
end Tx

/-! ## Pr6 -/
set_option maxHeartbeats 4000000
/-! What the law makes of what is told. -/
namespace Tx
open PySem PySem.Spec PyProof.Rows L2 Gd
local macro_rules | `(tactic| walk_at "rd1") => `(tactic| first
  | ((with_reducible show tVar _ _ _ _); refine r_var (by rfl) ?_)
  | with_reducible refine r_c ?_
  | with_reducible refine r_seq ?_
  | with_reducible refine r_asg ?_
  | with_reducible refine r_name ?_
  | with_reducible refine r_op ?_
  | with_reducible refine r_I0 ?_
  | with_reducible refine r_cons ?_
  | with_reducible refine r_nil ?_
  | with_reducible refine r_call ?_
  | with_reducible refine r_ret ?_
  | with_reducible refine r_cb ?_
  | with_reducible refine r_ifS ?_
  | with_reducible refine r_test ?_
  | with_reducible refine r_bl ?_
  | with_reducible refine r_dget ?_
  | with_reducible refine r_dput ?_
  | ((with_reducible show (∃ k, [V.int _] = [V.int k] ∧ _) ∨ _); refine Or.inl ⟨_, rfl, ?_⟩)
  | with_reducible refine r_lcR ?_
  | with_reducible refine r_lcL ?_
  | with_reducible refine r_lcT ?_
  | with_reducible refine r_m1 ?_
  | with_reducible refine r_gSub ?_
  | with_reducible refine r_forR ?_
  | with_reducible refine r_forL ?_
  | with_reducible refine r_forT ?_
  | with_reducible refine r_bm ?_
  | with_reducible refine r_next ?_
  | with_reducible refine r_B ?_
  | with_reducible refine r_not ?_
  | with_reducible refine r_and ?_
  | with_reducible refine r_or ?_
  | with_reducible refine r_andV ?_
  | with_reducible refine r_orV ?_
  | with_reducible refine r_notV ?_
  | with_reducible refine r_ifE ?_
  | with_reducible refine r_drop ?_
  | with_reducible refine r_tup ?_
  | with_reducible refine r_lst ?_
  | with_reducible refine r_un ?_
  | with_reducible refine r_U ?_)
local macro_rules | `(tactic| walk_at "rd") => `(tactic| repeat walk_at "rd1")
local macro_rules | `(tactic| walk_at "rd1") => `(tactic| first
  | with_reducible refine r_lcS ?_
  | with_reducible refine r_sl ?_
  | with_reducible refine r_noPart ?_
  | with_reducible refine r_partE ?_
  | with_reducible refine r_sfld ?_
  | with_reducible refine r_gc ?_
  | with_reducible refine r_gn ?_
  | with_reducible refine r_forE ?_
  | with_reducible refine r_makeK ?_
  | with_reducible refine r_make ?_
  | with_reducible refine r_fld ?_
  | with_reducible refine r_prop ?_
  | with_reducible refine r_meth ?_
  | with_reducible refine r_chain ?_)
section
variable {K : Frg} {H H' : Hp} {t : Addr} {m : Int} {ks : List KD} {β : Bag}
theorem ToldAt.kinds (h : ToldAt K H t m ks) : ∃ (l : Addr) (vs : List V), (∀ H', Same H H' → DGet H' t (.str (Str.ofString "signs")) (some (.int m))) ∧ (∀ H', Same H H' → DGet H' t (.str (Str.ofString "kinds")) (some (.ref l))) ∧ H l = some (.lst vs) ∧ vs.length = ks.length ∧
    ∀ (i : Nat) v H', Same H H' → vs[i]? = some v → ∃ k, ks[i]? = some k ∧ Dp K H' v k.data := by
  obtain ⟨l, vs, a, b, c⟩ := h.ex
  refine ⟨l, vs, fun H' s => DGet_k (s _ _ a) told_sg, fun H' s => DGet_k (s _ _ a) told_kd, b, by rw [DpAll.len c, List.length_map], fun i v H' s hi => ?_⟩
  obtain ⟨d, h1, h2⟩ := DpAll.at_ c hi
  rw [List.getElem?_map] at h1
  obtain ⟨k, hk, rfl⟩ := Option.map_eq_some_iff.mp h1
  exact ⟨k, hk, Dp.sd (Sd.of s) _ _ (flat_kd k) h2⟩
theorem DGet.same' {k : V} {v : V} (h : ToldAt K H t m ks) (e : Same H H') : ToldAt K H' t m ks := h.same e
theorem ways_at {v : V} {wl : List WD} (h : Dp K H v (waysD wl)) : ∃ (p : Addr) (us : List V), v = .ref p ∧ SqT K H p us ∧ DpAll K H us (wl.map WD.data) := by
  unfold waysD at h
  cases h with
  | tup h1 h2 => exact ⟨_, _, rfl, h1, h2⟩
end
theorem refs_read : ∀ {ys : List V} {P : Nat → Addr → Prop}, (∀ (i : Nat) y, ys[i]? = some y → ∃ a, y = V.ref a ∧ P i a) → ∃ as : List Addr, ys = as.map V.ref ∧ ∀ (i : Nat) a, as[i]? = some a → P i a
  | [], _, _ => ⟨[], rfl, fun i a h => by simp at h⟩
  | y :: r, P, h => by
    obtain ⟨a, rfl, ha⟩ := h 0 y rfl
    obtain ⟨as, e, hs⟩ := refs_read (ys := r) (P := fun i => P (i + 1)) fun i z hz => h (i + 1) z (by simpa using hz)
    refine ⟨a :: as, by rw [e]; rfl, fun i b hb => ?_⟩
    cases i with
    | zero => cases (show some a = some b from hb); exact ha
    | succ i => exact hs i b (by simpa using hb)
def spObjects (K : Frg) : Sp := fun vs H Q _ => ∃ (t : Addr) (m : Int) (ks : List KD), vs = [.ref t] ∧ ToldAt K H t m ks ∧ GoodT m ks ∧ ks.length ≤ 8 ∧ ∀ p as H', Same H H' → H' p = some (.lst (as.map V.ref)) → KindsAt K H' as m ks → Q (.ref p) H'
def spCatOf (K : Frg) : Sp := fun vs H Q _ => ∃ (t : Addr) (m : Int) (ks : List KD), vs = [.ref t] ∧ ToldAt K H t m ks ∧ GoodT m ks ∧ ks.length ≤ 8 ∧ ∀ c H', Same H H' → CatAt K H' c m ks → Q (.ref c) H'
theorem r_catOf {K : Frg} {t : Addr} {m : Int} {ks : List KD} {H : Hp} {Q : VK} {E : XK} (ht : ToldAt K H t m ks) (G : GoodT m ks) (l8 : ks.length ≤ 8) (h : ∀ c H', Same H H' → CatAt K H' c m ks → Q (.ref c) H') : spCatOf K ([.ref t] ++ []) H Q E := ⟨t, m, ks, rfl, ht, G, l8, h⟩
section
variable {P : Program} {w : World} {K : Frg} {mg : Str → Option Value} {base : Heap}
theorem sc_law_kind_objects : FnScope ["_law_told", "_law_kind"] ["_law_told"] (defScope s_law_kind_objects) := ⟨rfl, rfl, rfl, by decide +kernel, rfl, by decide +kernel, by decide +kernel⟩
theorem ok_law_kind_objects (T : Txt K mg) : Ok P w K mg base 7 (He.ga K "_law_kind_objects") ["_law_told"] (spObjects K) := by
  obtain ⟨fd, F⟩ := T.F_law_kind_objects
  have b : Binds K fd ["_law_told"] [] := F.bindsN fun _ _ _ _ _ _ us hl => match us, hl with | [_], _ => rfl
  refine ok_of F b sc_law_kind_objects (fun vs H Q E h => ?_) (fun cdv A outer s H vs Q E hr h => ?_)
  · obtain ⟨t, m, ks, rfl, _⟩ := h
    rfl
  · obtain ⟨t, m, ks, rfl, ht, G, l8, k⟩ := h
    refine ⟨_, (pss_one (ps_ret (pe_lc (own := [("_law_kind", 1)]) rfl sc_law_kind_objects.nd (pi_list (pe_dget (hu_of hr) (pv 0) pe_str (fun _ _ => rfl))) (blkOk_by (own := [("_law_kind", 1)]) (N := ["_law_told", "_law_kind"]) (sc := defScope s_law_kind_objects) (by decide +kernel)) (fun _ _ _ _ _ => (pg_name (i := 1) sc_law_kind_objects.nd rfl (Or.inl rfl))) (fun _ _ _ _ _ => pts_nil) (fun _ _ _ _ _ => (pmkK T.k_Kind (ok_Kind_init T) hr rfl T.g_Kind (pa_cons (pe_dget (hu_of hr) (pv 0) pe_str (fun _ _ => rfl)) (pa_cons (pe_ix (ix_tupB (K := K) rfl) (pv 1) pe_int (fun _ _ => rfl)) (pa_cons (pe_ix (ix_tupB (K := K) rfl) (pv 1) pe_int (fun _ _ => rfl)) (pa_cons (pe_ix (ix_tupB (K := K) rfl) (pv 1) pe_int (fun _ _ => rfl)) pa_nil)))) (pk_cons (pe_ix (ix_tupB (K := K) rfl) (pv 1) pe_int (fun _ _ => rfl)) (pk_cons (pe_ix (ix_tupB (K := K) rfl) (pv 1) pe_int (fun _ _ => rfl)) (pk_cons (pe_ix (ix_tupB (K := K) rfl) (pv 1) pe_int (fun _ _ => rfl)) pk_nil)))))))), ?_⟩
    obtain ⟨l, vs, g1, g2, hl, hvl, item⟩ := ht.kinds
    walk_at "rd"
    refine r_dgot (g2 _ (Same.refl _)) ?_
    walk_at "rd"
    refine lcL (P := fun i v H' => ∃ a k, ks[i]? = some k ∧ v = .ref a ∧ KindAt K H' a m k) way_same (Same.refl _) (SqL.of hl) (by omega) (fun i v A B e ⟨a, k, h1, h2, h3⟩ => ⟨a, k, h1, h2, h3.sd e⟩) (fun i v H1 hi e1 Qe q => ?_) fun D H1 ys hD e1 hy hyl hq => ?_
    · refine r_name ⟨rfl, ?_⟩
      walk_at "rd"
      obtain ⟨kd, hkd, hv⟩ := item i v H1 e1 hi
      obtain ⟨a, vt, vw, rfl, hs, hvt, hvw⟩ := kd_at hv
      obtain ⟨ta, rfl, hta⟩ := ints_at hvt
      obtain ⟨wp, us, rfl, hwp, hus⟩ := ways_at hvw
      refine r_dgot (g1 _ e1) ?_
      walk_at "rd"
      refine r_ixT hs (v := .str kd.name) (atI_nat (j := 0) rfl) ?_
      walk_at "rd"
      refine r_ixT hs (v := .int kd.inputs) (atI_nat (j := 1) rfl) ?_
      walk_at "rd"
      refine r_ixT hs (v := .ref ta) (atI_nat (j := 2) rfl) ?_
      walk_at "rd"
      refine r_ixT hs (v := startV kd.start) (atI_nat (j := 3) rfl) ?_
      walk_at "rd"
      refine r_ixT hs (v := .ref wp) (atI_nat (j := 4) rfl) ?_
      walk_at "rd"
      refine r_ixT hs (v := .int kd.price) (atI_nat (j := 5) rfl) ?_
      walk_at "rd"
      refine ⟨rfl, rfl, fun x dx nx nd ne => ?_⟩
      have s0 : Same H1 (upd (upd H1 dx (.own x)) x (.ins (He.ga K "Kind") dx [])) := Td.made nx nd (fun a o _ h => h)
      refine ⟨x, dx, ta, wp, m, kd, us, rfl, upd_same, Sd.tup (Sd.of s0) hta, .inr (Sd.tup (Sd.of s0) hwp), DpAll.sd (Sd.of s0) _ _ (flat_wds _) hus, G.good kd (List.mem_of_getElem? hkd), fun H2 e2 hK => ⟨rfl, ?_⟩⟩
      exact q _ _ (Td.made nx nd e2) ⟨x, kd, hkd, rfl, hK⟩
    · obtain ⟨as, rfl, has⟩ := refs_read (P := fun i a => ∃ k, ks[i]? = some k ∧ KindAt K H1 a m k) fun i y hi => by
        obtain ⟨a, k, h1, h2, h3⟩ := hq i y hi
        exact ⟨a, h2, k, h1, h3⟩
      rw [List.length_map] at hyl
      refine k D as H1 e1 hy ⟨by omega, fun i a kd ha hkd => ?_⟩
      obtain ⟨k2, h1, h2⟩ := has i a ha
      rw [hkd] at h1
      cases h1
      exact h2
theorem sc_law_catalogue_of : FnScope ["_law_told"] ["_law_told"] (defScope s_law_catalogue_of) := ⟨rfl, rfl, rfl, by decide +kernel, rfl, by decide +kernel, by decide +kernel⟩
theorem ok_law_catalogue_of (T : Txt K mg) : Ok P w K mg base 8 (He.ga K "_law_catalogue_of") ["_law_told"] (spCatOf K) := by
  obtain ⟨fd, F⟩ := T.F_law_catalogue_of
  have b : Binds K fd ["_law_told"] [] := F.bindsN fun _ _ _ _ _ _ us hl => match us, hl with | [_], _ => rfl
  refine ok_of F b sc_law_catalogue_of (fun vs H Q E h => ?_) (fun cdv A outer s H vs Q E hr h => ?_)
  · obtain ⟨t, m, ks, rfl, _⟩ := h
    rfl
  · obtain ⟨t, m, ks, rfl, ht, G, l8, k⟩ := h
    refine ⟨_, (pss_one (ps_ret (pmk T.k_Catalogue (ok_Catalogue_init T) hr rfl T.g_Catalogue (pa_cons (pe_dget (hu_of hr) (pv 0) pe_str (fun _ _ => rfl)) (pa_cons (pk (ok_law_kind_objects T) hr rfl T.g_law_kind_objects (pa_cons (pv 0) pa_nil)) pa_nil))))), ?_⟩
    obtain ⟨_, _, g1, _⟩ := ht.kinds
    walk_at "rd"
    refine r_dgot (g1 _ (Same.refl _)) ?_
    walk_at "rd"
    refine ⟨t, m, ks, rfl, ht, G, l8, fun p as H1 s1 hp hk => ?_⟩
    walk_at "rd"
    intro x dx nx nd ne
    have s0 : Same H1 (upd (upd H1 dx (.own x)) x (.ins (He.ga K "Catalogue") dx [])) := Td.made nx nd (fun a o _ h => h)
    refine ⟨x, dx, p, m, as, ks, rfl, upd_same, Same.seq s0 (SqL.of hp), hk.sd (Sd.of s0), G, l8, fun hx => ?_, fun H2 e2 hC => ⟨rfl, k x H2 (s1.trans (Td.made nx nd e2)) hC⟩⟩
    obtain ⟨i, hi, e⟩ := List.getElem_of_mem hx
    have hi2 : i < ks.length := by rw [← hk.len]; exact hi
    obtain ⟨dk, vt, vw, ha, _⟩ := (hk.at_ i x ks[i] (by rw [List.getElem?_eq_getElem hi, e]) (List.getElem?_eq_getElem hi2)).ex
    rw [nx] at ha
    cases ha
end
end Tx

/-! ## Pr7 -/
set_option maxHeartbeats 4000000
/-! Lines. -/
namespace Tx
open PySem PySem.Spec PyProof.Rows L2 Gd
local macro_rules | `(tactic| walk_at "rd1") => `(tactic| first
  | ((with_reducible show tVar _ _ _ _); refine r_var (by rfl) ?_)
  | with_reducible refine r_c ?_
  | with_reducible refine r_seq ?_
  | with_reducible refine r_asg ?_
  | with_reducible refine r_name ?_
  | with_reducible refine r_op ?_
  | with_reducible refine r_I0 ?_
  | with_reducible refine r_cons ?_
  | with_reducible refine r_nil ?_
  | with_reducible refine r_call ?_
  | with_reducible refine r_ret ?_
  | with_reducible refine r_cb ?_
  | with_reducible refine r_ifS ?_
  | with_reducible refine r_test ?_
  | with_reducible refine r_bl ?_
  | with_reducible refine r_dget ?_
  | with_reducible refine r_dput ?_
  | ((with_reducible show (∃ k, [V.int _] = [V.int k] ∧ _) ∨ _); refine Or.inl ⟨_, rfl, ?_⟩)
  | with_reducible refine r_lcR ?_
  | with_reducible refine r_lcL ?_
  | with_reducible refine r_lcT ?_
  | with_reducible refine r_m1 ?_
  | with_reducible refine r_gSub ?_
  | with_reducible refine r_forR ?_
  | with_reducible refine r_forL ?_
  | with_reducible refine r_forT ?_
  | with_reducible refine r_bm ?_
  | with_reducible refine r_next ?_
  | with_reducible refine r_B ?_
  | with_reducible refine r_not ?_
  | with_reducible refine r_and ?_
  | with_reducible refine r_or ?_
  | with_reducible refine r_andV ?_
  | with_reducible refine r_orV ?_
  | with_reducible refine r_notV ?_
  | with_reducible refine r_ifE ?_
  | with_reducible refine r_drop ?_
  | with_reducible refine r_tup ?_
  | with_reducible refine r_lst ?_
  | with_reducible refine r_un ?_
  | with_reducible refine r_U ?_)
local macro_rules | `(tactic| walk_at "rd") => `(tactic| repeat walk_at "rd1")
local macro_rules | `(tactic| walk_at "rd1") => `(tactic| first
  | with_reducible refine r_lcS ?_
  | with_reducible refine r_sl ?_
  | with_reducible refine r_noPart ?_
  | with_reducible refine r_partE ?_
  | with_reducible refine r_sfld ?_
  | with_reducible refine r_gc ?_
  | with_reducible refine r_gn ?_
  | with_reducible refine r_forE ?_
  | with_reducible refine r_makeK ?_
  | with_reducible refine r_make ?_
  | with_reducible refine r_fld ?_
  | with_reducible refine r_prop ?_
  | with_reducible refine r_meth ?_
  | with_reducible refine r_chain ?_)
abbrev num (i : Int) : Str := Str.ofString (toString i)
def sp1 : Str := Str.ofString " "
def line (ws : List Str) : Str := Txt.join sp1 ws
theorem tl_line (ws : List Str) : (line ws).cps.toList = TL.joinL sp1.cps.toList (ws.map fun w => w.cps.toList) := by
  unfold line
  rw [TL.join_eq]
  exact TL.tl_join _ _
theorem tl_add (s t : Str) : (s ++ t).cps.toList = s.cps.toList ++ t.cps.toList := TL.tl_append s t
theorem line2 (a b : Str) : line [a, b] = a ++ sp1 ++ b := cps_inj (by rw [tl_line]; simp [TL.joinL, tl_add])
theorem line3 (a b c : Str) : line [a, b, c] = a ++ sp1 ++ b ++ sp1 ++ c := cps_inj (by rw [tl_line]; simp [TL.joinL, tl_add])
theorem line4 (a b c d : Str) : line [a, b, c, d] = a ++ sp1 ++ b ++ sp1 ++ c ++ sp1 ++ d := cps_inj (by rw [tl_line]; simp [TL.joinL, tl_add])
theorem empty_add (s : Str) : Str.empty ++ s = s := cps_inj (by rw [tl_add]; rfl)
theorem e_signs : Str.ofString "signs " = Str.ofString "signs" ++ sp1 := by decide +kernel
theorem e_kind : Str.ofString "kind " = Str.ofString "kind" ++ sp1 := by decide +kernel
theorem e_keeps : Str.ofString "keeps " = Str.ofString "keeps" ++ sp1 := by decide +kernel
theorem e_table : Str.ofString "table " = Str.ofString "table" ++ sp1 := by decide +kernel
def wSigns (m : Int) : List Str := [Str.ofString "signs", num m]
def wKind (k : KD) : List Str := [Str.ofString "kind", k.name, num k.inputs, num k.price]
def wKeeps : Option Int → List (List Str)
  | none => []
  | some s => [[Str.ofString "keeps", num s]]
def wTable (ts : List Int) : List Str := [Str.ofString "table", dig ts]
def wWay (w : WD) : List Str := [w.word, w.name, dig w.table]
def kindWords (k : KD) : List (List Str) := wKind k :: (wKeeps k.start ++ wTable k.table :: k.ways.map wWay)
def allWords (m : Int) (ks : List KD) : List (List Str) := wSigns m :: (ks.map kindWords).flatten
def linesOf (m : Int) (ks : List KD) : List Str := (allWords m ks).map line
theorem num_len {i : Int} (h0 : 0 ≤ i) (h1 : i ≤ 600) : (num i).length ≤ 3 := by
  have h : ∀ n : Nat, n < 601 → (num (n : Int)).length ≤ 3 := by decide +kernel
  obtain ⟨n, rfl⟩ : ∃ n : Nat, i = (n : Int) := ⟨i.toNat, by omega⟩
  exact h n (by omega)
theorem num_log {i : Int} (h0 : 0 ≤ i) (h1 : i ≤ 600) : i.natAbs.log2 < 1920 := by
  have h : ∀ n : Nat, n < 601 → n.log2 < 1920 := by decide +kernel
  exact h _ (by omega)
theorem dig_len {ts : List Int} : (dig ts).length = ts.length := by
  show (ts.map _).toArray.size = _
  rw [List.size_toArray, List.length_map]
theorem len_add (s t : Str) : (s ++ t).length = s.length + t.length := by
  rw [TL.len_tl, TL.len_tl s, TL.len_tl t]
  show (s ++ t).cps.toList.length = _
  rw [tl_add, List.length_append]
theorem le_line {n : Nat} (h : n ≤ 1000) : n ≤ sizeLine := Nat.le_trans h (by decide)
theorem sp1_len : sp1.length = 1 := by rfl
theorem lines_snoc {m : Int} {ks : List KD} {j : Nat} {k : KD} (h : ks[j]? = some k) : linesOf m (ks.take (j + 1)) = linesOf m (ks.take j) ++ (kindWords k).map line := by
  unfold linesOf allWords
  rw [List.take_succ, h, Option.toList_some, List.map_append, List.flatten_append]
  simp
theorem lines_len {m : Int} {ks : List KD} (h : ∀ k ∈ ks, GoodK m k) : (linesOf m ks).length ≤ 1 + 9 * ks.length := by
  unfold linesOf allWords
  rw [List.length_map, List.length_cons]
  have : ((ks.map kindWords).flatten).length ≤ 9 * ks.length := by
    induction ks with
    | nil => simp
    | cons k r ih =>
      have i := ih fun k hk => h k (List.mem_cons_of_mem _ hk)
      have l6 := (h k (List.mem_cons_self ..)).most
      have k2 : (wKeeps k.start).length ≤ 1 := by cases k.start <;> simp [wKeeps]
      rw [List.map_cons, List.flatten_cons, List.length_append, List.length_cons]
      have : (kindWords k).length ≤ 9 := by
        unfold kindWords
        rw [List.length_cons, List.length_append, List.length_cons, List.length_map]
        omega
      omega
  omega
def spLines (K : Frg) : Sp := fun vs H Q _ => ∃ (t : Addr) (m : Int) (ks : List KD), vs = [.ref t] ∧ ToldAt K H t m ks ∧ GoodT m ks ∧ ks.length ≤ 8 ∧ ∀ p H', Same H H' → H p = none → H' p = some (.lst ((linesOf m ks).map V.str)) → Q (.ref p) H'
theorem r_linesOf {K : Frg} {t : Addr} {m : Int} {ks : List KD} {H : Hp} {Q : VK} {E : XK} (ht : ToldAt K H t m ks) (G : GoodT m ks) (l8 : ks.length ≤ 8) (h : ∀ p H', Same H H' → H p = none → H' p = some (.lst ((linesOf m ks).map V.str)) → Q (.ref p) H') : spLines K ([.ref t] ++ []) H Q E := ⟨t, m, ks, rfl, ht, G, l8, h⟩
section
variable {P : Program} {w : World} {K : Frg} {mg : Str → Option Value} {base : Heap}
theorem sc_law_digits : FnScope ["_law_table", "_law_sign"] ["_law_table"] (defScope s_law_digits) := ⟨rfl, rfl, rfl, by decide +kernel, rfl, by decide +kernel, by decide +kernel⟩
theorem ok_law_digits (T : Txt K mg) : Ok P w K mg base 1 (He.ga K "_law_digits") ["_law_table"] (spDigits K) := by
  obtain ⟨fd, F⟩ := T.F_law_digits
  have b : Binds K fd ["_law_table"] [] := F.bindsN fun _ _ _ _ _ _ us hl => match us, hl with | [_], _ => rfl
  refine ok_of F b sc_law_digits (fun vs H Q E h => ?_) (fun cdv A outer s H vs Q E hr h => ?_)
  · obtain ⟨a, ts, rfl, _⟩ := h
    rfl
  · obtain ⟨a, ts, rfl, hs, hn, hin, k⟩ := h
    refine ⟨_, (pss_one (ps_ret (pe_join pe_str (pe_lc (own := [("_law_sign", 1)]) rfl sc_law_digits.nd (pi_tup (pv 0)) (blkOk_by (own := [("_law_sign", 1)]) (N := ["_law_table", "_law_sign"]) (sc := defScope s_law_digits) (by decide +kernel)) (fun _ _ _ _ _ => (pg_name (i := 1) sc_law_digits.nd rfl (Or.inl rfl))) (fun _ _ _ _ _ => pts_nil) (fun _ _ _ _ _ => (pe_callTy call_str_int (by rfl) T.f_str (by decide +kernel) (pa_cons (pv 1) pa_nil))))))), ?_⟩
    walk_at "rd"
    refine ⟨⟨_, rfl⟩, ?_⟩
    walk_at "rd"
    refine lcT (P := fun i v _ => ∃ t, ts[i]? = some t ∧ v = .str ⟨#[48 + t.toNat]⟩) way_same (Same.refl _) hs (by rw [List.length_map]; omega) (fun _ _ _ _ _ p => p) (fun i x H1 hi e1 Qe q => ?_) fun D H1 ys hD e1 hy hl hp => ?_
    · rw [List.getElem?_map] at hi
      obtain ⟨t, ht, rfl⟩ := Option.map_eq_some_iff.mp hi
      obtain ⟨t0, t1⟩ := hin t (List.mem_of_getElem? ht)
      refine r_name ⟨rfl, ?_⟩
      walk_at "rd"
      refine ⟨t, rfl, num_log t0 (by omega), ?_⟩
      rw [dig1 t0 t1]
      exact q _ _ (Same.refl _) ⟨t, ht, rfl⟩
    rw [List.length_map] at hl
    have hys := map_read (f := fun t : Int => V.str ⟨#[48 + t.toNat]⟩) hl hp
    subst hys
    refine ⟨_, D, ts.map fun t => ⟨#[48 + t.toNat]⟩, rfl, rfl, .inl (SqL.of (by rw [List.map_map]; exact hy)), ?_, ?_⟩
    · rw [sum_ones]
      show _ + _ * 0 ≤ _
      omega
    · have := k H1 e1
      rw [← dig_join hin] at this
      exact this
theorem sc_law_lines_of : FnScope ["_law_told", "_law_found", "_law_kind", "_law_way"] ["_law_told"] (defScope s_law_lines_of) := ⟨rfl, rfl, rfl, by decide +kernel, rfl, by decide +kernel, by decide +kernel⟩
theorem ok_law_lines_of (T : Txt K mg) : Ok P w K mg base 2 (He.ga K "_law_lines_of") ["_law_told"] (spLines K) := by
  obtain ⟨fd, F⟩ := T.F_law_lines_of
  have b : Binds K fd ["_law_told"] [] := F.bindsN fun _ _ _ _ _ _ us hl => match us, hl with | [_], _ => rfl
  refine ok_of F b sc_law_lines_of (fun vs H Q E h => ?_) (fun cdv A outer s H vs Q E hr h => ?_)
  · obtain ⟨t, m, ks, rfl, _⟩ := h
    rfl
  · obtain ⟨t, m, ks, rfl, ht, G, l8, k⟩ := h
    have hm := G.m_
    have m2 : 2 ≤ m := by rcases hm with rfl | rfl <;> decide
    have m3 : m ≤ 3 := by rcases hm with rfl | rfl <;> decide
    obtain ⟨l, vs, g1, g2, hl, hvl, item⟩ := ht.kinds
    refine ⟨_, (pss_cons (ps_set (i := 1) sc_law_lines_of.nd rfl (Or.inl rfl) (pe_lst (pa_cons (pe_op op_add_str pe_str (pe_callTy call_str_int (by rfl) T.f_str (by decide +kernel) (pa_cons (pe_dget (hu_of hr) (pv 0) pe_str (fun _ _ => rfl)) pa_nil))) pa_nil)))
  (pss_cons (ps_for PassesOwn.never rfl (pi_list (pe_dget (hu_of hr) (pv 0) pe_str (fun _ _ => rfl))) (pg_name (i := 2) sc_law_lines_of.nd rfl (Or.inl rfl)) (pss_cons (ps_expr (pe_bm PySem.F.plainAttrs_list PySem.F.slot_list_append PySem.F.type_list_append mt_append (pv 1) (pa_cons (pe_op op_add_str (pe_op op_add_str (pe_op op_add_str (pe_op op_add_str (pe_op op_add_str pe_str (pe_ix ix_tup (pv 2) pe_int (fun _ _ => rfl))) pe_str) (pe_callTy call_str_int (by rfl) T.f_str (by decide +kernel) (pa_cons (pe_ix ix_tup (pv 2) pe_int (fun _ _ => rfl)) pa_nil))) pe_str) (pe_callTy call_str_int (by rfl) T.f_str (by decide +kernel) (pa_cons (pe_ix ix_tup (pv 2) pe_int (fun _ _ => rfl)) pa_nil))) pa_nil)))
  (Evl.pss_cut (ps_if (pt_cmpR op_notN (pe_ix ix_tup (pv 2) pe_int (fun _ _ => rfl)) pe_non (by first | exact nomark _ | rfl)) (pss_one (ps_expr (pe_bm PySem.F.plainAttrs_list PySem.F.slot_list_append PySem.F.type_list_append mt_append (pv 1) (pa_cons (pe_op op_add_str pe_str (pe_callTy call_str_int (by rfl) T.f_str (by decide +kernel) (pa_cons (pe_ix ix_tup (pv 2) pe_int (fun _ _ => rfl)) pa_nil))) pa_nil)))) pss_nil)
  (pss_cons (ps_expr (pe_bm PySem.F.plainAttrs_list PySem.F.slot_list_append PySem.F.type_list_append mt_append (pv 1) (pa_cons (pe_op op_add_str pe_str (pk (ok_law_digits T) hr rfl T.g_law_digits (pa_cons (pe_ix ix_tup (pv 2) pe_int (fun _ _ => rfl)) pa_nil))) pa_nil)))
  (pss_one (ps_expr (pe_bm PySem.F.plainAttrs_list PySem.F.slot_list_extend PySem.F.type_list_extend mt_extend (pv 1) (pa_cons (pe_lc (own := [("_law_way", 3)]) rfl sc_law_lines_of.nd (pi_tup (pe_ix ix_tup (pv 2) pe_int (fun _ _ => rfl))) (blkOk_by (own := [("_law_way", 3)]) (N := ["_law_told", "_law_found", "_law_kind", "_law_way"]) (sc := defScope s_law_lines_of) (by decide +kernel)) (fun _ _ _ _ _ => (pg_name (i := 3) sc_law_lines_of.nd rfl (Or.inl rfl))) (fun _ _ _ _ _ => pts_nil) (fun _ _ _ _ _ => (pe_op op_add_str (pe_op op_add_str (pe_op op_add_str (pe_op op_add_str (pe_ix (ix_tupB (K := K) rfl) (pv 3) pe_int (fun _ _ => rfl)) pe_str) (pe_ix (ix_tupB (K := K) rfl) (pv 3) pe_int (fun _ _ => rfl))) pe_str) (pk (ok_law_digits T) hr rfl T.g_law_digits (pa_cons (pe_ix (ix_tupB (K := K) rfl) (pv 3) pe_int (fun _ _ => rfl)) pa_nil))))) pa_nil))))))))
  (pss_one (ps_ret (pv 1))))), ?_⟩
    walk_at "rd"
    refine r_dgot (g1 _ (Same.refl _)) ?_
    walk_at "rd"
    refine ⟨m, rfl, num_log (by omega) (by omega), ?_⟩
    walk_at "rd"
    have nl := num_len (i := m) (by omega) (by omega)
    refine ⟨_, _, rfl, rfl, le_line (by show 6 + (num m).length ≤ 1000; omega), ?_⟩
    walk_at "rd"
    refine ⟨by show 1 ≤ sizeLine; decide, fun F hF => ?_⟩
    have s0 : Same H (upd H F (.lst [V.str (Str.ofString "signs " ++ num m)])) := Same.upd hF
    walk_at "rd"
    refine r_dgot (g2 _ s0) ?_
    have e0 : Str.ofString "signs " ++ num m = line (wSigns m) := by rw [wSigns, line2, e_signs]
    rw [e0] at s0
    rw [e0]
    refine forL (fun j σ' H' => ∃ o : Option V, σ' = [some (.ref t), some (.ref F), o, none] ∧ Same H H' ∧ H' F = some (.lst ((linesOf m (ks.take j)).map V.str))) (SqL.of (s0 _ _ hl))
      ⟨none, rfl, s0, upd_same⟩ (fun j σ' H' _ z => ?_) ?_ ?_
    · obtain ⟨_, _, z, _⟩ := z
      exact SqL.of (z _ _ hl)
    · rintro j v σ' H1 hv ⟨o, rfl, s1, hF1⟩
      obtain ⟨kd, hkd, hd⟩ := item j v H1 s1 hv
      obtain ⟨a, vt, vw, rfl, hs, hvt, hvw⟩ := kd_at hd
      obtain ⟨ta, rfl, hta⟩ := ints_at hvt
      obtain ⟨wp, us, rfl, hwp, hus⟩ := ways_at hvw
      have Gk := G.good kd (List.mem_of_getElem? hkd)
      have hj : j < ks.length := (List.getElem?_eq_some_iff.mp hkd).1
      have nlen : kd.name.length ≤ 8 := Gk.name.hi
      have i2 := Gk.inputs
      have ni := num_len (i := kd.inputs) (by omega) (by omega)
      have np := num_len (i := kd.price) Gk.p0 Gk.p1
      have p0 := Gk.p0
      have p1 := Gk.p1
      have lpre : (linesOf m (ks.take j)).length ≤ 100 := by
        have := lines_len (m := m) (ks := ks.take j) fun k hk => G.good k (List.mem_of_mem_take hk)
        rw [List.length_take] at this
        omega
      walk_at "rd"
      refine r_tyL hF1 ?_
      walk_at "rd"
      refine r_ixT hs (v := .str kd.name) (atI_nat (j := 0) rfl) ?_
      refine ⟨_, _, rfl, rfl, le_line (by show 5 + kd.name.length ≤ 1000; omega), ?_⟩
      walk_at "rd"
      refine ⟨_, _, rfl, rfl, le_line (by rw [len_add]; show 5 + kd.name.length + 1 ≤ 1000; omega), ?_⟩
      walk_at "rd"
      refine r_ixT hs (v := .int kd.inputs) (atI_nat (j := 1) rfl) ?_
      walk_at "rd"
      refine ⟨_, rfl, num_log (by omega) (by omega), ?_⟩
      refine ⟨_, _, rfl, rfl, le_line (by rw [len_add, len_add]; show 5 + kd.name.length + 1 + (num kd.inputs).length ≤ 1000; omega), ?_⟩
      walk_at "rd"
      refine ⟨_, _, rfl, rfl, le_line (by rw [len_add, len_add, len_add]; show 5 + kd.name.length + 1 + (num kd.inputs).length + 1 ≤ 1000; omega), ?_⟩
      walk_at "rd"
      refine r_ixT hs (v := .int kd.price) (atI_nat (j := 5) rfl) ?_
      walk_at "rd"
      refine ⟨_, rfl, num_log p0 p1, ?_⟩
      refine ⟨_, _, rfl, rfl, le_line (by rw [len_add, len_add, len_add, len_add]; show 5 + kd.name.length + 1 + (num kd.inputs).length + 1 + (num kd.price).length ≤ 1000; omega), ?_⟩
      walk_at "rd"
      refine r_append hF1 (by rw [List.length_map]; omega) ?_
      have ek : Str.ofString "kind " ++ kd.name ++ Str.ofString " " ++ num kd.inputs ++ Str.ofString " " ++ num kd.price = line (wKind kd) := by rw [wKind, line4, e_kind]; rfl
      rw [ek]
      have s2 := way_same.chg (o := .lst ((linesOf m (ks.take j)).map V.str ++ [V.str (line (wKind kd))])) s1 hF
      have hF2 := (upd_same : upd H1 F (.lst ((linesOf m (ks.take j)).map V.str ++ [V.str (line (wKind kd))])) F = _)
      have up2 : Sd H1 (upd H1 F (.lst ((linesOf m (ks.take j)).map V.str ++ [V.str (line (wKind kd))]))) := Sd.lst hF1
      generalize upd H1 F (.lst ((linesOf m (ks.take j)).map V.str ++ [V.str (line (wKind kd))])) = H2 at s2 hF2 up2 ⊢
      have hs := up2.tup hs
      have hta := up2.tup hta
      have hwp := up2.tup hwp
      have hus := DpAll.sd up2 _ _ (flat_wds _) hus
      walk_at "rd"
      refine ⟨fun σ' H' => σ' = [some (.ref t), some (.ref F), some (.ref a), none] ∧ Same H H' ∧ Sd H2 H' ∧ H' F = some (.lst ((linesOf m (ks.take j)).map V.str ++ (line (wKind kd) :: (wKeeps kd.start).map line).map V.str)), ?_, ?_⟩
      · walk_at "rd"
        refine r_ixT hs (v := startV kd.start) (atI_nat (j := 3) rfl) ?_
        walk_at "rd"
        refine ⟨rfl, ?_⟩
        cases hst : kd.start with
        | none =>
          refine r_bl (r_iF ?_)
          walk_at "rd"
          exact ⟨rfl, s2, Sd.refl _, hF2⟩
        | some x =>
          obtain ⟨x0, x1⟩ := Gk.start x hst
          rw [hst] at hs
          have nx := num_len (i := x) x0 (by omega)
          refine r_bl (r_iT ?_)
          walk_at "rd"
          refine r_tyL hF2 ?_
          walk_at "rd"
          refine r_ixT hs (v := .int x) (atI_nat (j := 3) rfl) ?_
          walk_at "rd"
          refine ⟨x, rfl, num_log x0 (by omega), ?_⟩
          refine ⟨_, _, rfl, rfl, le_line (by show 6 + (num x).length ≤ 1000; omega), ?_⟩
          walk_at "rd"
          refine r_append hF2 (by rw [List.length_append, List.length_map]; show _ + 1 < 100000; omega) ?_
          have ek : Str.ofString "keeps " ++ num x = line [Str.ofString "keeps", num x] := by rw [line2, e_keeps]
          rw [ek]
          walk_at "rd"
          refine ⟨rfl, way_same.chg s2 hF, Sd.lst hF2, ?_⟩
          rw [upd_same, List.append_assoc]
          rfl
      rintro σ' H3 ⟨rfl, s3, up3, hF3⟩
      have hs := up3.tup hs
      have hta := up3.tup hta
      have hwp := up3.tup hwp
      have hus := DpAll.sd up3 _ _ (flat_wds _) hus
      have l27 : kd.table.length ≤ 27 := by have := sz_hi (b := kd.start.isSome) hm Gk.inputs; have := Gk.len; omega
      have kl : (wKeeps kd.start).length ≤ 1 := by cases kd.start <;> simp [wKeeps]
      have in3 : ∀ {ts : List Int}, In m ts → In 3 ts := fun h t ht => ⟨(h t ht).1, by have := (h t ht).2; omega⟩
      walk_at "rd"
      refine r_tyL hF3 ?_
      walk_at "rd"
      refine r_ixT hs (v := .ref ta) (atI_nat (j := 2) rfl) ?_
      walk_at "rd"
      refine r_digits hta (by omega) (in3 Gk.in_) fun H4 s4 => ?_
      refine ⟨_, _, rfl, rfl, le_line (by rw [dig_len]; show 6 + _ ≤ 1000; omega), ?_⟩
      walk_at "rd"
      have hF4 := s4 _ _ hF3
      refine r_append hF4 (by rw [List.length_append, List.length_map, List.length_map, List.length_cons, List.length_map]; omega) ?_
      have ek : Str.ofString "table " ++ dig kd.table = line (wTable kd.table) := by rw [wTable, line2, e_table]
      rw [ek, List.append_assoc, show (line (wKind kd) :: (wKeeps kd.start).map line).map V.str ++ [V.str (line (wTable kd.table))] = (line (wKind kd) :: ((wKeeps kd.start).map line ++ [line (wTable kd.table)])).map V.str by simp]
      have s5 := way_same.chg (o := .lst ((linesOf m (ks.take j)).map V.str ++ (line (wKind kd) :: ((wKeeps kd.start).map line ++ [line (wTable kd.table)])).map V.str)) (s3.trans s4) hF
      have hF5 := (upd_same : upd H4 F (.lst ((linesOf m (ks.take j)).map V.str ++ (line (wKind kd) :: ((wKeeps kd.start).map line ++ [line (wTable kd.table)])).map V.str)) F = _)
      have up5 : Sd H3 (upd H4 F (.lst ((linesOf m (ks.take j)).map V.str ++ (line (wKind kd) :: ((wKeeps kd.start).map line ++ [line (wTable kd.table)])).map V.str))) := (Sd.of s4).trans (Sd.lst hF4)
      generalize upd H4 F (.lst ((linesOf m (ks.take j)).map V.str ++ (line (wKind kd) :: ((wKeeps kd.start).map line ++ [line (wTable kd.table)])).map V.str)) = H5 at s5 hF5 up5 ⊢
      have hs := up5.tup hs
      have hwp := up5.tup hwp
      have hus := DpAll.sd up5 _ _ (flat_wds _) hus
      have hul : us.length = kd.ways.length := by rw [DpAll.len hus, List.length_map]
      have l6 := Gk.most
      walk_at "rd"
      refine r_tyL hF5 ?_
      walk_at "rd"
      refine r_ixT hs (v := .ref wp) (atI_nat (j := 4) rfl) ?_
      walk_at "rd"
      refine lcT (P := fun i v _ => ∃ wd, kd.ways[i]? = some wd ∧ v = .str (line (wWay wd))) way_same (Same.refl _) hwp (by omega) (fun _ _ _ _ _ p => p) (fun i x H6 hi e6 Qe q => ?_) fun D H6 ys hD e6 hy hyl hp => ?_
      · refine r_name ⟨rfl, ?_⟩
        walk_at "rd"
        obtain ⟨d, h1, h2⟩ := DpAll.at_ hus hi
        rw [List.getElem?_map] at h1
        obtain ⟨wd, hw, rfl⟩ := Option.map_eq_some_iff.mp h1
        obtain ⟨wa, wt, rfl, hwa, hwt⟩ := way_at (Dp.sd (Sd.of e6) _ _ (flat_wd wd) h2)
        have Gw := Gk.ways wd (List.mem_of_getElem? hw)
        have wl : wd.word.length ≤ 6 := by
          rcases Gw.word with e | e <;> rw [e] <;> decide +kernel
        have wn := Gw.name.hi
        have wlen := Gw.len
        refine r_ixT hwa (v := .str wd.word) (atI_nat (j := 0) rfl) ?_
        walk_at "rd"
        refine ⟨_, _, rfl, rfl, le_line (by show _ + 1 ≤ 1000; omega), ?_⟩
        walk_at "rd"
        refine r_ixT hwa (v := .str wd.name) (atI_nat (j := 1) rfl) ?_
        refine ⟨_, _, rfl, rfl, le_line (by rw [len_add]; show _ + 1 + _ ≤ 1000; omega), ?_⟩
        walk_at "rd"
        refine ⟨_, _, rfl, rfl, le_line (by rw [len_add, len_add]; show _ + 1 + _ + 1 ≤ 1000; omega), ?_⟩
        walk_at "rd"
        refine r_ixT hwa (v := .ref wt) (atI_nat (j := 2) rfl) ?_
        walk_at "rd"
        refine r_digits hwt (by omega) (in3 Gw.in_) fun H7 s7 => ?_
        refine ⟨_, _, rfl, rfl, le_line (by rw [len_add, len_add, len_add, dig_len]; show _ + 1 + _ + 1 + _ ≤ 1000; omega), ?_⟩
        have ew : wd.word ++ Str.ofString " " ++ wd.name ++ Str.ofString " " ++ dig wd.table = line (wWay wd) := by rw [wWay, line3]; rfl
        rw [ew]
        exact q _ _ s7 ⟨wd, hw, rfl⟩
      have hys := map_read (f := fun w : WD => V.str (line (wWay w))) (by omega) hp
      subst hys
      walk_at "rd"
      have hF6 := e6 _ _ hF5
      refine ⟨F, D, _, _, rfl, rfl, hF6, hy, le_line (by rw [List.length_append, List.length_map, List.length_map, List.length_cons, List.length_append, List.length_map, List.length_map, List.length_singleton]; omega), ?_⟩
      walk_at "rd"
      refine ⟨_, rfl, way_same.chg (s5.trans e6) hF, ?_⟩
      rw [upd_same, lines_snoc hkd]
      simp [kindWords, List.map_append]
    · rintro σ' H1 ⟨o, rfl, s1, hF1⟩
      rw [hvl, List.take_length] at hF1
      walk_at "rd"
      exact k F H1 s1 hF hF1
end
end Tx

/-! ## Pr8 -/
set_option maxHeartbeats 4000000
/-! Lines written. -/
namespace Tx
open PySem PySem.Spec PyProof.Rows L2 Gd
local macro_rules | `(tactic| walk_at "rd1") => `(tactic| first
  | ((with_reducible show tVar _ _ _ _); refine r_var (by rfl) ?_)
  | with_reducible refine r_c ?_
  | with_reducible refine r_seq ?_
  | with_reducible refine r_asg ?_
  | with_reducible refine r_name ?_
  | with_reducible refine r_op ?_
  | with_reducible refine r_I0 ?_
  | with_reducible refine r_cons ?_
  | with_reducible refine r_nil ?_
  | with_reducible refine r_call ?_
  | with_reducible refine r_ret ?_
  | with_reducible refine r_cb ?_
  | with_reducible refine r_ifS ?_
  | with_reducible refine r_test ?_
  | with_reducible refine r_bl ?_
  | with_reducible refine r_dget ?_
  | with_reducible refine r_dput ?_
  | ((with_reducible show (∃ k, [V.int _] = [V.int k] ∧ _) ∨ _); refine Or.inl ⟨_, rfl, ?_⟩)
  | with_reducible refine r_lcR ?_
  | with_reducible refine r_lcL ?_
  | with_reducible refine r_lcT ?_
  | with_reducible refine r_m1 ?_
  | with_reducible refine r_gSub ?_
  | with_reducible refine r_forR ?_
  | with_reducible refine r_forL ?_
  | with_reducible refine r_forT ?_
  | with_reducible refine r_bm ?_
  | with_reducible refine r_next ?_
  | with_reducible refine r_B ?_
  | with_reducible refine r_not ?_
  | with_reducible refine r_and ?_
  | with_reducible refine r_or ?_
  | with_reducible refine r_andV ?_
  | with_reducible refine r_orV ?_
  | with_reducible refine r_notV ?_
  | with_reducible refine r_ifE ?_
  | with_reducible refine r_drop ?_
  | with_reducible refine r_tup ?_
  | with_reducible refine r_lst ?_
  | with_reducible refine r_un ?_
  | with_reducible refine r_U ?_)
local macro_rules | `(tactic| walk_at "rd") => `(tactic| repeat walk_at "rd1")
local macro_rules | `(tactic| walk_at "rd1") => `(tactic| first
  | with_reducible refine r_lcS ?_
  | with_reducible refine r_sl ?_
  | with_reducible refine r_noPart ?_
  | with_reducible refine r_partE ?_
  | with_reducible refine r_sfld ?_
  | with_reducible refine r_gc ?_
  | with_reducible refine r_gn ?_
  | with_reducible refine r_forE ?_
  | with_reducible refine r_makeK ?_
  | with_reducible refine r_make ?_
  | with_reducible refine r_fld ?_
  | with_reducible refine r_prop ?_
  | with_reducible refine r_meth ?_
  | with_reducible refine r_js ?_
  | with_reducible refine r_jn ?_
  | with_reducible refine r_fmt ?_
  | with_reducible refine r_chain ?_)
/-- the kinds of a catalogue stand at t -/
def DCat (K : Frg) (c t : Addr) (H : Hp) : Prop := ∃ (dx q : Addr) (m : Int) (xs : List V), H c = some (.ins (He.ga K "Catalogue") dx (catL m t q)) ∧ SqT K H t xs
theorem l_empty : Str.empty.length = 0 := rfl
theorem l_sp : (Str.ofString " ").length = 1 := rfl
theorem l_signs : (Str.ofString "signs ").length = 6 := rfl
theorem l_kind : (Str.ofString "kind ").length = 5 := rfl
theorem l_keeps : (Str.ofString "keeps ").length = 6 := rfl
theorem l_table : (Str.ofString "table ").length = 6 := rfl
theorem w_signs (m : Int) : Str.empty ++ Str.ofString "signs " ++ num m = line (wSigns m) := by rw [empty_add, wSigns, line2, e_signs]
theorem w_kind (k : KD) : Str.empty ++ Str.ofString "kind " ++ k.name ++ Str.ofString " " ++ num k.inputs ++ Str.ofString " " ++ num k.price = line (wKind k) := by rw [empty_add, wKind, line4, e_kind]; rfl
theorem w_keeps (x : Int) : Str.empty ++ Str.ofString "keeps " ++ num x = line [Str.ofString "keeps", num x] := by rw [empty_add, line2, e_keeps]
theorem w_table (ts : List Int) : Str.empty ++ Str.ofString "table " ++ dig ts = line (wTable ts) := by rw [empty_add, wTable, line2, e_table]
theorem w_way (w : WD) : Str.empty ++ w.word ++ Str.ofString " " ++ w.name ++ Str.ofString " " ++ dig w.table = line (wWay w) := by rw [empty_add, wWay, line3]; rfl
def spWrite (K : Frg) : Sp := fun vs H Q _ => ∃ (c : Addr) (m : Int) (ks : List KD), vs = [.ref c] ∧ CatAt K H c m ks ∧ GoodT m ks ∧ ks.length ≤ 8 ∧ ∀ p H', Same H H' → H' p = some (.tup ((linesOf m ks).map V.str)) → Q (.ref p) H'
section
variable {P : Program} {w : World} {K : Frg} {mg : Str → Option Value} {base : Heap}
theorem sc_Catalogue_iter : FnScope ["self"] ["self"] (defScope s_Catalogue_iter) := ⟨rfl, rfl, rfl, by decide +kernel, rfl, by decide +kernel, by decide +kernel⟩
theorem ok_Catalogue_iter (T : Txt K mg) : OkS P w K mg base 1 (He.ma K (He.ga K "Catalogue") "__iter__") ["self"] (spOwnIt (DCat K)) := by
  obtain ⟨fd, F⟩ := T.F_Catalogue_iter
  have b : Binds K fd ["self"] [] := F.bindsN fun _ _ _ _ _ _ us hl => match us, hl with | [_], _ => rfl
  refine ⟨fd, fnS_of F sc_Catalogue_iter (fun n vs H Q E h => ?_) (fun cdv A outer s H vs Q hr h => ?_), b⟩
  · obtain ⟨c, t, rfl, _⟩ := h
    rfl
  · obtain ⟨c, t, rfl, ⟨dx, q, m, xs, hc, ht⟩, k⟩ := h
    refine ⟨_, (pss_one (ps_ret (pe_callB call_iterT (by rfl) T.f_iter (by decide +kernel) (pa_cons (pe_fld (pv 0) rfl) pa_nil)))), ?_⟩
    walk_at "rd"
    refine ⟨_, _, _, _, _, rfl, hc, T.c_Catalogue, T.n_Catalogue_kinds, rfl, ?_⟩
    walk_at "rd"
    exact ⟨t, xs, rfl, ht, fun it h1 h2 => k it h1 h2⟩
theorem sc_write_catalogue : FnScope ["catalogue", "lines", "kind", "word", "name", "table"] ["catalogue"] (defScope s_write_catalogue) := ⟨rfl, rfl, rfl, by decide +kernel, rfl, by decide +kernel, by decide +kernel⟩
theorem ok_write_catalogue (T : Txt K mg) : Ok P w K mg base 3 (He.ga K "write_catalogue") ["catalogue"] (spWrite K) := by
  obtain ⟨fd, F⟩ := T.F_write_catalogue
  have b : Binds K fd ["catalogue"] [] := F.bindsN fun _ _ _ _ _ _ us hl => match us, hl with | [_], _ => rfl
  refine ok_of F b sc_write_catalogue (fun vs H Q E h => ?_) (fun cdv A outer s H vs Q E hr h => ?_)
  · obtain ⟨c, m, ks, rfl, _⟩ := h
    rfl
  · obtain ⟨c, m, ks, rfl, hC, G, l8, k⟩ := h
    have hm := G.m_
    have m2 : 2 ≤ m := by rcases hm with rfl | rfl <;> decide
    have m3 : m ≤ 3 := by rcases hm with rfl | rfl <;> decide
    obtain ⟨dx, p, q, as, hc, hp, hk⟩ := hC.ex
    have hal := hk.len
    refine ⟨_, (pss_cons (ps_set (i := 1) sc_write_catalogue.nd rfl (Or.inl rfl) (pe_lst (pa_cons (pe_joined (.cons pe_str (.cons (pe_fmt (pe_fld (pv 0) rfl)) .nil))) pa_nil)))
  (pss_cons (ps_for PassesOwn.never rfl (pi_own (pv 0) T.m_Catalogue_iter (ok_Catalogue_iter T) hr) (pg_name (i := 2) sc_write_catalogue.nd rfl (Or.inl rfl)) (pss_cons (ps_expr (pe_bm PySem.F.plainAttrs_list PySem.F.slot_list_append PySem.F.type_list_append mt_append (pv 1) (pa_cons (pe_joined (.cons pe_str (.cons (pe_fmt (pe_fld (pv 2) rfl)) (.cons pe_str (.cons (pe_fmt (pe_fld (pv 2) rfl)) (.cons pe_str (.cons (pe_fmt (pe_fld (pv 2) rfl)) .nil))))))) pa_nil)))
  (Evl.pss_cut (ps_if (pt_val (pprop (ok_Kind_keeps T) hr T.c_Kind T.p_Kind_keeps (pv 2))) (pss_one (ps_expr (pe_bm PySem.F.plainAttrs_list PySem.F.slot_list_append PySem.F.type_list_append mt_append (pv 1) (pa_cons (pe_joined (.cons pe_str (.cons (pe_fmt (pe_fld (pv 2) rfl)) .nil))) pa_nil)))) pss_nil)
  (pss_cons (ps_expr (pe_bm PySem.F.plainAttrs_list PySem.F.slot_list_append PySem.F.type_list_append mt_append (pv 1) (pa_cons (pe_joined (.cons pe_str (.cons (pe_fmt (pk (ok_write_digits T) hr rfl T.g_write_digits (pa_cons (pe_fld (pv 2) rfl) pa_nil))) .nil))) pa_nil)))
  (pss_one (ps_for PassesOwn.never rfl (pi_tup (pe_fld (pv 2) rfl)) (pg_tup (by rfl) (pgs_cons (pg_name (i := 3) sc_write_catalogue.nd rfl (Or.inl rfl)) (pgs_cons (pg_name (i := 4) sc_write_catalogue.nd rfl (Or.inl rfl)) (pgs_cons (pg_name (i := 5) sc_write_catalogue.nd rfl (Or.inl rfl)) pgs_nil)))) (pss_one (ps_expr (pe_bm PySem.F.plainAttrs_list PySem.F.slot_list_append PySem.F.type_list_append mt_append (pv 1) (pa_cons (pe_joined (.cons (pe_fmt (pv 3)) (.cons pe_str (.cons (pe_fmt (pv 4)) (.cons pe_str (.cons (pe_fmt (pk (ok_write_digits T) hr rfl T.g_write_digits (pa_cons (pv 5) pa_nil))) .nil)))))) pa_nil))))))))))
  (pss_one (ps_ret (pe_callTy call_tuple_of (by rfl) T.f_tuple (by decide +kernel) (pa_cons (pv 1) pa_nil)))))), ?_⟩
    walk_at "rd"
    have nl : (Str.ofString (toString m)).length ≤ 3 := num_len (i := m) (by omega) (by omega)
    refine ⟨_, rfl, le_line (by simp only [len_add, l_empty, l_signs]; omega), ?_⟩
    walk_at "rd"
    refine ⟨_, _, _, _, _, rfl, hc, T.c_Catalogue, T.n_Catalogue_signs, rfl, ?_⟩
    refine .inr ⟨m, rfl, num_log (by omega) (by omega), ?_⟩
    refine ⟨_, rfl, le_line (by simp only [len_add, l_empty, l_signs]; omega), ?_⟩
    walk_at "rd"
    rw [w_signs]
    refine ⟨by show 1 ≤ sizeLine; decide, fun F hF => ?_⟩
    have s0 : Same H (upd H F (.lst [V.str (line (wSigns m))])) := Same.upd hF
    walk_at "rd"
    refine r_forO rfl (s0 _ _ hc) ⟨dx, q, m, _, s0 _ _ hc, Sd.tup (Sd.of s0) hp⟩ ?_
    refine forT (fun j σ' H' => ∃ o2 o3 o4 o5 : Option V, σ' = [some (.ref c), some (.ref F), o2, o3, o4, o5] ∧ Same H H' ∧ H' F = some (.lst ((linesOf m (ks.take j)).map V.str))) (Sd.tup (Sd.of s0) hp)
      ⟨none, none, none, none, rfl, s0, upd_same⟩ (fun j σ' H' _ z => ?_) ?_ ?_
    · obtain ⟨_, _, _, _, _, z, _⟩ := z
      exact Sd.tup (Sd.of z) hp
    · rintro j v σ' H1 hv ⟨o2, o3, o4, o5, rfl, s1, hF1⟩
      obtain ⟨a, kd, _, hkd, rfl, hK⟩ := (hk.sd (Sd.of s1)).get hv
      obtain ⟨dk, vt, vw, ha, hvt, hvw⟩ := hK.ex
      obtain ⟨ta, rfl, hta⟩ := ints_at hvt
      obtain ⟨wp, us, rfl, hwp, hus⟩ := ways_at hvw
      have Gk := G.good kd (List.mem_of_getElem? hkd)
      have hj : j < ks.length := (List.getElem?_eq_some_iff.mp hkd).1
      have nlen : kd.name.length ≤ 8 := Gk.name.hi
      have i2 := Gk.inputs
      have ni : (Str.ofString (toString (kd.inputs : Int))).length ≤ 3 := num_len (i := kd.inputs) (by omega) (by omega)
      have np : (Str.ofString (toString kd.price)).length ≤ 3 := num_len (i := kd.price) Gk.p0 Gk.p1
      have p0 := Gk.p0
      have p1 := Gk.p1
      have lpre : (linesOf m (ks.take j)).length ≤ 100 := by
        have := lines_len (m := m) (ks := ks.take j) fun k hk => G.good k (List.mem_of_mem_take hk)
        rw [List.length_take] at this
        omega
      walk_at "rd"
      refine r_tyL hF1 ?_
      walk_at "rd"
      refine ⟨_, rfl, le_line (by simp only [len_add, l_empty, l_kind]; omega), ?_⟩
      walk_at "rd"
      refine ⟨_, _, _, _, _, rfl, ha, T.c_Kind, T.n_Kind_name, rfl, ?_⟩
      refine .inl ⟨_, rfl, le_line (by omega), ?_⟩
      refine ⟨_, rfl, le_line (by simp only [len_add, l_empty, l_kind]; omega), ?_⟩
      walk_at "rd"
      refine ⟨_, rfl, le_line (by simp only [len_add, l_empty, l_kind, l_sp]; omega), ?_⟩
      walk_at "rd"
      refine ⟨_, _, _, _, _, rfl, ha, T.c_Kind, T.n_Kind_inputs, rfl, ?_⟩
      refine .inr ⟨_, rfl, num_log (by omega) (by omega), ?_⟩
      refine ⟨_, rfl, le_line (by simp only [len_add, l_empty, l_kind, l_sp]; omega), ?_⟩
      walk_at "rd"
      refine ⟨_, rfl, le_line (by simp only [len_add, l_empty, l_kind, l_sp]; omega), ?_⟩
      walk_at "rd"
      refine ⟨_, _, _, _, _, rfl, ha, T.c_Kind, T.n_Kind_price, rfl, ?_⟩
      refine .inr ⟨_, rfl, num_log (by omega) (by omega), ?_⟩
      refine ⟨_, rfl, le_line (by simp only [len_add, l_empty, l_kind, l_sp]; omega), ?_⟩
      walk_at "rd"
      rw [w_kind]
      refine r_append hF1 (by rw [List.length_map]; omega) ?_
      have s2 := way_same.chg (o := .lst ((linesOf m (ks.take j)).map V.str ++ [V.str (line (wKind kd))])) s1 hF
      have hF2 := (upd_same : upd H1 F (.lst ((linesOf m (ks.take j)).map V.str ++ [V.str (line (wKind kd))])) F = _)
      have up2 : Sd H1 (upd H1 F (.lst ((linesOf m (ks.take j)).map V.str ++ [V.str (line (wKind kd))]))) := Sd.lst hF1
      generalize upd H1 F (.lst ((linesOf m (ks.take j)).map V.str ++ [V.str (line (wKind kd))])) = H2 at s2 hF2 up2 ⊢
      have ha := up2 _ (.ins _ _ _) trivial ha
      have hK := hK.sd up2
      have hta := up2.tup hta
      have hwp := up2.tup hwp
      have hus := DpAll.sd up2 _ _ (flat_wds _) hus
      walk_at "rd"
      refine ⟨fun σ' H' => σ' = [some (.ref c), some (.ref F), some (.ref a), o3, o4, o5] ∧ Same H H' ∧ Sd H2 H' ∧ H' F = some (.lst ((linesOf m (ks.take j)).map V.str ++ (line (wKind kd) :: (wKeeps kd.start).map line).map V.str)), ?_, ?_⟩
      · walk_at "rd"
        refine ⟨a, dk, _, rfl, ha, ?_⟩
        refine ⟨a, m, kd, rfl, hK, ?_⟩
        cases hst : kd.start with
        | none =>
          refine r_bl (r_iF ?_)
          walk_at "rd"
          exact ⟨rfl, s2, Sd.refl _, hF2⟩
        | some x =>
          obtain ⟨x0, x1⟩ := Gk.start x hst
          have nx : (Str.ofString (toString x)).length ≤ 3 := num_len (i := x) x0 (by omega)
          refine r_bl (r_iT ?_)
          walk_at "rd"
          refine r_tyL hF2 ?_
          walk_at "rd"
          refine ⟨_, rfl, le_line (by simp only [len_add, l_empty, l_keeps]; omega), ?_⟩
          walk_at "rd"
          refine ⟨_, _, _, _, _, rfl, ha, T.c_Kind, T.n_Kind_start, rfl, ?_⟩
          rw [hst]
          refine .inr ⟨x, rfl, num_log x0 (by omega), ?_⟩
          refine ⟨_, rfl, le_line (by simp only [len_add, l_empty, l_keeps]; omega), ?_⟩
          walk_at "rd"
          rw [w_keeps]
          refine r_append hF2 (by rw [List.length_append, List.length_map]; show _ + 1 < 100000; omega) ?_
          walk_at "rd"
          refine ⟨rfl, way_same.chg s2 hF, Sd.lst hF2, ?_⟩
          rw [upd_same, List.append_assoc]
          rfl
      rintro σ' H3 ⟨rfl, s3, up3, hF3⟩
      have ha := up3 _ (.ins _ _ _) trivial ha
      have hta := up3.tup hta
      have hwp := up3.tup hwp
      have hus := DpAll.sd up3 _ _ (flat_wds _) hus
      have l27 : kd.table.length ≤ 27 := by have := sz_hi (b := kd.start.isSome) hm Gk.inputs; have := Gk.len; omega
      have kl : (wKeeps kd.start).length ≤ 1 := by cases kd.start <;> simp [wKeeps]
      have in3 : ∀ {ts : List Int}, In m ts → In 3 ts := fun h t ht => ⟨(h t ht).1, by have := (h t ht).2; omega⟩
      walk_at "rd"
      refine r_tyL hF3 ?_
      walk_at "rd"
      refine ⟨_, rfl, le_line (by simp only [len_add, l_empty, l_table]; omega), ?_⟩
      walk_at "rd"
      refine ⟨_, _, _, _, _, rfl, ha, T.c_Kind, T.n_Kind_table, rfl, ?_⟩
      walk_at "rd"
      refine r_digits hta (by omega) (in3 Gk.in_) fun H4 s4 => ?_
      refine .inl ⟨_, rfl, le_line (by rw [dig_len]; omega), ?_⟩
      refine ⟨_, rfl, le_line (by simp only [len_add, l_empty, l_table, dig_len]; omega), ?_⟩
      walk_at "rd"
      rw [w_table]
      have hF4 := s4 _ _ hF3
      refine r_append hF4 (by rw [List.length_append, List.length_map, List.length_map, List.length_cons, List.length_map]; omega) ?_
      rw [List.append_assoc, show (line (wKind kd) :: (wKeeps kd.start).map line).map V.str ++ [V.str (line (wTable kd.table))] = (line (wKind kd) :: ((wKeeps kd.start).map line ++ [line (wTable kd.table)])).map V.str by simp]
      have s5 := way_same.chg (o := .lst ((linesOf m (ks.take j)).map V.str ++ (line (wKind kd) :: ((wKeeps kd.start).map line ++ [line (wTable kd.table)])).map V.str)) (s3.trans s4) hF
      have hF5 := (upd_same : upd H4 F (.lst ((linesOf m (ks.take j)).map V.str ++ (line (wKind kd) :: ((wKeeps kd.start).map line ++ [line (wTable kd.table)])).map V.str)) F = _)
      have up5 : Sd H3 (upd H4 F (.lst ((linesOf m (ks.take j)).map V.str ++ (line (wKind kd) :: ((wKeeps kd.start).map line ++ [line (wTable kd.table)])).map V.str))) := (Sd.of s4).trans (Sd.lst hF4)
      generalize upd H4 F (.lst ((linesOf m (ks.take j)).map V.str ++ (line (wKind kd) :: ((wKeeps kd.start).map line ++ [line (wTable kd.table)])).map V.str)) = H5 at s5 hF5 up5 ⊢
      have ha := up5 _ (.ins _ _ _) trivial ha
      have hwp := up5.tup hwp
      have hus := DpAll.sd up5 _ _ (flat_wds _) hus
      have hul : us.length = kd.ways.length := by rw [DpAll.len hus, List.length_map]
      have l6 := Gk.most
      walk_at "rd"
      refine ⟨_, _, _, _, _, rfl, ha, T.c_Kind, T.n_Kind_ways, rfl, ?_⟩
      refine forT (fun i σ' H' => ∃ o3 o4 o5 : Option V, σ' = [some (.ref c), some (.ref F), some (.ref a), o3, o4, o5] ∧ Same H H' ∧ Sd H5 H' ∧
        H' F = some (.lst ((linesOf m (ks.take j) ++ (line (wKind kd) :: ((wKeeps kd.start).map line ++ [line (wTable kd.table)])) ++ ((kd.ways.take i).map wWay).map line).map V.str))) hwp
        ⟨o3, o4, o5, rfl, s5, Sd.refl _, by rw [hF5, List.take_zero]; simp⟩ (fun i σ' H' _ z => ?_) ?_ ?_
      · obtain ⟨_, _, _, _, _, z, _⟩ := z
        exact z.tup hwp
      · rintro i v σ' H6 hv ⟨o3, o4, o5, rfl, s6, up6, hF6⟩
        obtain ⟨d, h1, h2⟩ := DpAll.at_ hus hv
        rw [List.getElem?_map] at h1
        obtain ⟨wd, hw, rfl⟩ := Option.map_eq_some_iff.mp h1
        obtain ⟨wa, wt, rfl, hwa, hwt⟩ := way_at (Dp.sd up6 _ _ (flat_wd wd) h2)
        have Gw := Gk.ways wd (List.mem_of_getElem? hw)
        have hi : i < kd.ways.length := (List.getElem?_eq_some_iff.mp hw).1
        have wl : wd.word.length ≤ 6 := by
          rcases Gw.word with e | e <;> rw [e] <;> decide +kernel
        have wn := Gw.name.hi
        have wlen := Gw.len
        refine r_tupG hwa rfl ?_
        walk_at "rd"
        refine r_tyL hF6 ?_
        walk_at "rd"
        refine .inl ⟨_, rfl, le_line (by omega), ?_⟩
        refine ⟨_, rfl, le_line (by simp only [len_add, l_empty]; omega), ?_⟩
        walk_at "rd"
        refine ⟨_, rfl, le_line (by simp only [len_add, l_empty, l_sp]; omega), ?_⟩
        walk_at "rd"
        refine .inl ⟨_, rfl, le_line (by omega), ?_⟩
        refine ⟨_, rfl, le_line (by simp only [len_add, l_empty, l_sp]; omega), ?_⟩
        walk_at "rd"
        refine ⟨_, rfl, le_line (by simp only [len_add, l_empty, l_sp]; omega), ?_⟩
        walk_at "rd"
        refine r_digits hwt (by omega) (in3 Gw.in_) fun H7 s7 => ?_
        refine .inl ⟨_, rfl, le_line (by rw [dig_len]; omega), ?_⟩
        refine ⟨_, rfl, le_line (by simp only [len_add, l_empty, l_sp, dig_len]; omega), ?_⟩
        walk_at "rd"
        rw [w_way]
        have hF7 := s7 _ _ hF6
        refine r_append hF7 (by simp only [List.length_append, List.length_map, List.length_cons, List.length_take, List.length_nil]; omega) ?_
        walk_at "rd"
        refine ⟨_, _, _, rfl, way_same.chg (s6.trans s7) hF, (up6.trans (Sd.of s7)).trans (Sd.lst hF7), ?_⟩
        rw [upd_same, List.take_succ, hw]
        simp
      · rintro σ' H6 ⟨o3, o4, o5, rfl, s6, up6, hF6⟩
        rw [hul, List.take_length] at hF6
        refine ⟨_, _, _, _, rfl, s6, ?_⟩
        rw [hF6, lines_snoc hkd]
        simp [kindWords]
    · rintro σ' H1 ⟨o2, o3, o4, o5, rfl, s1, hF1⟩
      rw [List.length_map, hal, List.take_length] at hF1
      walk_at "rd"
      refine ⟨_, _, rfl, .inl ⟨SqL.of hF1, fun p2 hp2 => ?_⟩⟩
      exact k p2 _ (s1.trans (Same.upd hp2)) upd_same
end
end Tx

/-! ## Pr9 -/
set_option maxHeartbeats 4000000
/-! Lines and words read. -/
namespace Tx
open PySem PySem.Spec PyProof.Rows L2 Gd
local macro_rules | `(tactic| walk_at "rd1") => `(tactic| first
  | ((with_reducible show tVar _ _ _ _); refine r_var (by rfl) ?_)
  | with_reducible refine r_c ?_
  | with_reducible refine r_seq ?_
  | with_reducible refine r_asg ?_
  | with_reducible refine r_name ?_
  | with_reducible refine r_op ?_
  | with_reducible refine r_I0 ?_
  | with_reducible refine r_cons ?_
  | with_reducible refine r_nil ?_
  | with_reducible refine r_call ?_
  | with_reducible refine r_ret ?_
  | with_reducible refine r_cb ?_
  | with_reducible refine r_ifS ?_
  | with_reducible refine r_test ?_
  | with_reducible refine r_bl ?_
  | with_reducible refine r_dget ?_
  | with_reducible refine r_dput ?_
  | ((with_reducible show (∃ k, [V.int _] = [V.int k] ∧ _) ∨ _); refine Or.inl ⟨_, rfl, ?_⟩)
  | with_reducible refine r_lcR ?_
  | with_reducible refine r_lcL ?_
  | with_reducible refine r_lcT ?_
  | with_reducible refine r_m1 ?_
  | with_reducible refine r_gSub ?_
  | with_reducible refine r_forR ?_
  | with_reducible refine r_forL ?_
  | with_reducible refine r_forT ?_
  | with_reducible refine r_bm ?_
  | with_reducible refine r_next ?_
  | with_reducible refine r_B ?_
  | with_reducible refine r_not ?_
  | with_reducible refine r_and ?_
  | with_reducible refine r_or ?_
  | with_reducible refine r_andV ?_
  | with_reducible refine r_orV ?_
  | with_reducible refine r_notV ?_
  | with_reducible refine r_ifE ?_
  | with_reducible refine r_drop ?_
  | with_reducible refine r_tup ?_
  | with_reducible refine r_lst ?_
  | with_reducible refine r_un ?_
  | with_reducible refine r_U ?_)
local macro_rules | `(tactic| walk_at "rd") => `(tactic| repeat walk_at "rd1")
local macro_rules | `(tactic| walk_at "rd1") => `(tactic| first
  | with_reducible refine r_lcS ?_
  | with_reducible refine r_sl ?_
  | with_reducible refine r_noPart ?_
  | with_reducible refine r_partE ?_
  | with_reducible refine r_sfld ?_
  | with_reducible refine r_gc ?_
  | with_reducible refine r_gn ?_
  | with_reducible refine r_forE ?_
  | with_reducible refine r_makeK ?_
  | with_reducible refine r_make ?_
  | with_reducible refine r_fld ?_
  | with_reducible refine r_prop ?_
  | with_reducible refine r_meth ?_
  | with_reducible refine r_js ?_
  | with_reducible refine r_jn ?_
  | with_reducible refine r_fmt ?_
  | with_reducible refine r_chain ?_)
theorem r_sfa {K : Frg} {ta tv : TE} {rd : V → V → Hp → VK → Prop} {f : Str} {D : Ends} {σ : L2.St} {H : Hp} (h : ta σ H fun x H1 => ∃ a C dx fs v, x = .ref a ∧ H1 a = some (.ins C dx fs) ∧ Cls K C ∧ NoAttr K C f ∧ fs.lookup f = some v ∧
  tv σ H1 fun y H2 => rd v y H2 fun z H3 => ∃ dx' fs', H3 a = some (.ins C dx' fs') ∧ fs'.length < 1000 ∧ D.nx σ (upd H3 a (.ins C dx' (putF f z fs')))) : sFldAug K ta tv rd f D σ H := h
local macro_rules | `(tactic| walk_at "rd1") => `(tactic| with_reducible refine r_sfa ?_)
/-- words that make a line -/
structure WOk (ws : List Str) : Prop where
  ne : ws ≠ []
  sp : ∀ w ∈ ws, 32 ∉ w.cps.toList
  len : (line ws).length ≤ 900
  cnt : ws.length ≤ 100
theorem split_line {ws : List Str} (h : WOk ws) : Txt.split (line ws) sp1 = ws :=
  TL.split_join (s := 32) (S := []) (by decide +kernel) (by decide +kernel) h.ne h.sp
section
variable {K : Frg} {H H' : Hp} {r w x : Addr} {WS : List (List Str)} {ws : List Str} {i j ln : Nat}
def linesL (t : Addr) (i : Nat) : List (Str × V) := [(Str.ofString "_texts", .ref t), (Str.ofString "_at", .int i)]
structure LinesAt (K : Frg) (H : Hp) (r : Addr) (WS : List (List Str)) (i : Nat) : Prop where
  ex : ∃ (dx t : Addr), H r = some (.ins (He.ga K "Lines") dx (linesL t i)) ∧ SqT K H t ((WS.map line).map V.str)
def wordsF (ln l : Addr) (j : Nat) : List (Str × V) := [(Str.ofString "_line", .int ln), (Str.ofString "_words", .ref l), (Str.ofString "_at", .int j)]
structure WordsAt (K : Frg) (H : Hp) (w : Addr) (ln : Nat) (ws : List Str) (j : Nat) : Prop where
  ex : ∃ (dx l : Addr), H w = some (.ins (He.ga K "Words") dx (wordsF ln l j)) ∧ SqL K H l (ws.map V.str)
theorem LinesAt.same (h : LinesAt K H r WS i) (e : Same H H') : LinesAt K H' r WS i := by
  obtain ⟨dx, t, a, b⟩ := h.ex
  exact ⟨dx, t, e _ _ a, Sd.tup (Sd.of e) b⟩
theorem WordsAt.same (h : WordsAt K H w ln ws j) (e : Same H H') : WordsAt K H' w ln ws j := by
  obtain ⟨dx, l, a, b⟩ := h.ex
  exact ⟨dx, l, e _ _ a, Same.seq e b⟩
/-- a new thing is changed: what was there stands -/
theorem Td.new (e1 : Td r H H') (nw : H w = none) {H'' : Hp} (e2 : Td w H' H'') : Td r H H'' := fun a o n h => e2 a o (fun z => by rw [z, nw] at h; cases h) (e1 a o n h)
theorem Td.of_new (nw : H w = none) {H'' : Hp} (e1 : Same H H') (e2 : Td w H' H'') : Same H H'' := fun a o h => e2 a o (fun z => by rw [z, nw] at h; cases h) (e1 a o h)
theorem LinesAt.td (h : LinesAt K H r WS i) {C dx : Addr} {fs : List (Str × V)} (hx : H x = some (.ins C dx fs)) (n : r ≠ x) (e : Td x H H') : LinesAt K H' r WS i := by
  obtain ⟨d, t, a, b⟩ := h.ex
  exact ⟨d, t, e _ _ n a, e.tup hx b⟩
theorem WordsAt.td (h : WordsAt K H w ln ws j) {C dx : Addr} {fs : List (Str × V)} (hx : H x = some (.ins C dx fs)) (n : w ≠ x) (e : Td x H H') : WordsAt K H' w ln ws j := by
  obtain ⟨d, l, a, b⟩ := h.ex
  exact ⟨d, l, e _ _ n a, e.seq hx b⟩
end
/-- the first word of the i-th line, or the empty word -/
def fw (WS : List (List Str)) (i : Nat) : Str := match WS[i]? with
  | some (w :: _) => w
  | _ => Str.ofString ""
def spWords (K : Frg) : Sp := fun vs H Q _ => ∃ ws, vs = [.str (line ws)] ∧ WOk ws ∧ ∀ p, H p = none → Q (.ref p) (upd H p (.lst (ws.map V.str)))
def spFirst (K : Frg) : Sp := fun vs H Q _ => ∃ r WS i, vs = [.ref r] ∧ LinesAt K H r WS i ∧ i ≤ WS.length ∧ WS.length ≤ 1000 ∧ (∀ ws ∈ WS, WOk ws) ∧ ∀ H', Same H H' → Q (.str (fw WS i)) H'
def spLinesInit (K : Frg) : Sp := fun vs H Q _ => ∃ (x dx p : Addr) (WS : List (List Str)), vs = [.ref x, .ref p] ∧ H x = some (.ins (He.ga K "Lines") dx []) ∧ (SqL K H p ((WS.map line).map V.str) ∨ SqT K H p ((WS.map line).map V.str)) ∧
  ∀ H', Td x H H' → LinesAt K H' x WS 0 → Q .non H'
def spLinesEnd (K : Frg) : Sp := fun vs H Q _ => ∃ r WS, vs = [.ref r] ∧ LinesAt K H r WS WS.length ∧ Q .non H
section
variable {P : Program} {w : World} {K : Frg} {mg : Str → Option Value} {base : Heap}
theorem sc_words : FnScope ["text"] ["text"] (defScope s_words) := ⟨rfl, rfl, rfl, by decide +kernel, rfl, by decide +kernel, by decide +kernel⟩
theorem ok_words (T : Txt K mg) : Ok P w K mg base 1 (He.ga K "_words") ["text"] (spWords K) := by
  obtain ⟨fd, F⟩ := T.F_words
  have b : Binds K fd ["text"] [] := F.bindsN fun _ _ _ _ _ _ us hl => match us, hl with | [_], _ => rfl
  refine ok_of F b sc_words (fun vs H Q E h => ?_) (fun cdv A outer s H vs Q E hr h => ?_)
  · obtain ⟨ws, rfl, _⟩ := h
    rfl
  · obtain ⟨ws, rfl, G, k⟩ := h
    refine ⟨_, (pss_one (ps_ret (pe_ifExp (pt_val (pe_callB call_isi (by rfl) T.f_isinstance (by decide +kernel) (pa_cons (pv 0) (pa_cons (pe_bltn (v := .ty "str") (u := .type "str") (by rfl) T.f_str (by decide +kernel) rfl) pa_nil)))) (pe_split (pv 0) pe_str) (pe_lst (pa_cons pe_str pa_nil))))), ?_⟩
    walk_at "rd"
    refine r_isi (.base (.str _)) kit_str ?_
    refine r_bl (r_iT ?_)
    walk_at "rd"
    refine ⟨⟨_, rfl⟩, ?_⟩
    walk_at "rd"
    have := G.len
    refine ⟨_, _, rfl, rfl, by decide +kernel, le_line (by omega), fun p hp => ?_⟩
    rw [show Txt.split (line ws) (Str.ofString " ") = ws from split_line G]
    exact k p hp
theorem sc_Lines_init : FnScope ["self", "lines"] ["self", "lines"] (defScope s_Lines_init) := ⟨rfl, rfl, rfl, by decide +kernel, rfl, by decide +kernel, by decide +kernel⟩
theorem ok_Lines_init (T : Txt K mg) : Ok P w K mg base 1 (He.ma K (He.ga K "Lines") "__init__") ["self", "lines"] (spLinesInit K) := by
  obtain ⟨fd, F⟩ := T.F_Lines_init
  have b : Binds K fd ["self", "lines"] [] := F.bindsN fun _ _ _ _ _ _ us hl => match us, hl with | [_, _], _ => rfl
  refine ok_of F b sc_Lines_init (fun vs H Q E h => ?_) (fun cdv A outer s H vs Q E hr h => ?_)
  · obtain ⟨x, dx, p, WS, rfl, _⟩ := h
    rfl
  · obtain ⟨x, dx, p, WS, rfl, hx, hp | hp, k⟩ := h
    · refine ⟨_, (pss_cons (ps_fld (pv 0) (pe_callTy call_tuple_of (by rfl) T.f_tuple (by decide +kernel) (pa_cons (pv 1) pa_nil)) rfl)
  (pss_one (ps_fld (pv 0) pe_int rfl))), ?_⟩
      walk_at "rd"
      refine ⟨_, _, rfl, .inl ⟨hp, fun q hq => ?_⟩⟩
      have s0 := Same.upd (o := .tup ((WS.map line).map V.str)) hq
      have hq0 : SqT K (upd H q (.tup ((WS.map line).map V.str))) q ((WS.map line).map V.str) := SqT.of upd_same
      have hx0 := s0 _ _ hx
      generalize upd H q (.tup ((WS.map line).map V.str)) = H0 at s0 hq0 hx0 ⊢
      walk_at "rd"
      refine ⟨x, _, dx, [], rfl, hx0, T.c_Lines, T.n_Lines_texts, by decide, ?_⟩
      walk_at "rd"
      refine ⟨x, _, dx, _, rfl, upd_same, T.c_Lines, T.n_Lines_at, by show 1 < 1000; decide, ?_⟩
      walk_at "rd"
      have e1 := (Td.same (x := x) s0).trans ((Td.put (x := x) (H := H0) (o := .ins (He.ga K "Lines") dx [(Str.ofString "_texts", .ref q)])).trans (Td.put (o := .ins (He.ga K "Lines") dx (linesL q 0))))
      have e2 := (Td.put (x := x) (H := H0) (o := .ins (He.ga K "Lines") dx [(Str.ofString "_texts", .ref q)])).trans (Td.put (o := .ins (He.ga K "Lines") dx (linesL q 0)))
      exact k _ e1 ⟨dx, q, upd_same, e2.tup hx0 hq0⟩
    · refine ⟨_, (pss_cons (ps_fld (pv 0) (pe_callTy call_tuple_of (by rfl) T.f_tuple (by decide +kernel) (pa_cons (pv 1) pa_nil)) rfl)
  (pss_one (ps_fld (pv 0) pe_int rfl))), ?_⟩
      walk_at "rd"
      refine ⟨_, _, rfl, .inr ⟨hp, ?_⟩⟩
      walk_at "rd"
      refine ⟨x, _, dx, [], rfl, hx, T.c_Lines, T.n_Lines_texts, by decide, ?_⟩
      walk_at "rd"
      refine ⟨x, _, dx, _, rfl, upd_same, T.c_Lines, T.n_Lines_at, by show 1 < 1000; decide, ?_⟩
      walk_at "rd"
      have e2 := (Td.put (x := x) (H := H) (o := .ins (He.ga K "Lines") dx [(Str.ofString "_texts", .ref p)])).trans (Td.put (o := .ins (He.ga K "Lines") dx (linesL p 0)))
      exact k _ e2 ⟨dx, p, upd_same, e2.tup hx hp⟩
theorem sc_Lines_first_word : FnScope ["self"] ["self"] (defScope s_Lines_first_word) := ⟨rfl, rfl, rfl, by decide +kernel, rfl, by decide +kernel, by decide +kernel⟩
theorem ok_Lines_first_word (T : Txt K mg) : Ok P w K mg base 2 (He.ma K (He.ga K "Lines") "first_word") ["self"] (spFirst K) := by
  obtain ⟨fd, F⟩ := T.F_Lines_first_word
  have b : Binds K fd ["self"] [] := F.bindsN fun _ _ _ _ _ _ us hl => match us, hl with | [_], _ => rfl
  refine ok_of F b sc_Lines_first_word (fun vs H Q E h => ?_) (fun cdv A outer s H vs Q E hr h => ?_)
  · obtain ⟨r, WS, i, rfl, _⟩ := h
    rfl
  · obtain ⟨r, WS, i, rfl, hr0, hi, hn, G, k⟩ := h
    obtain ⟨dx, t, hrr, ht⟩ := hr0.ex
    refine ⟨_, (pss_cons (ps_if (pt_cmpR op_eq (pe_fld (pv 0) rfl) (pe_callB call_len_seq (by rfl) T.f_len (by decide +kernel) (pa_cons (pe_fld (pv 0) rfl) pa_nil)) (by first | exact nomark _ | rfl)) (pss_one (ps_ret pe_str)) pss_nil)
  (pss_one (ps_ret (pe_ix ix_list (pk (ok_words T) hr rfl T.g_words (pa_cons (pe_ix ix_tup (pe_fld (pv 0) rfl) (pe_fld (pv 0) rfl) (fun _ _ => rfl)) pa_nil)) pe_int (fun _ _ => rfl))))), ?_⟩
    walk_at "rd"
    refine ⟨_, _, _, _, _, rfl, hrr, T.c_Lines, T.n_Lines_at, rfl, ?_⟩
    walk_at "rd"
    refine ⟨_, _, _, _, _, rfl, hrr, T.c_Lines, T.n_Lines_texts, rfl, ?_⟩
    walk_at "rd"
    refine ⟨_, _, rfl, .inr ht, ?_⟩
    rw [List.length_map, List.length_map]
    walk_at "rd"
    refine r_eq rfl ?_
    refine r_bl ?_
    refine r_ifd (fun h => ?_) (fun h => ?_)
    · have h : i = WS.length := by
        have : (i : Int) = (WS.length : Int) := by simpa using h
        omega
      walk_at "rd"
      have := k H (Same.refl _)
      rw [fw, h, List.getElem?_eq_none (Nat.le_refl _)] at this
      exact this
    · have h : i < WS.length := by
        have : ¬ i = WS.length := fun e => h (by rw [e])
        omega
      walk_at "rd"
      refine ⟨_, _, _, _, _, rfl, hrr, T.c_Lines, T.n_Lines_texts, rfl, ?_⟩
      walk_at "rd"
      refine ⟨_, _, _, _, _, rfl, hrr, T.c_Lines, T.n_Lines_at, rfl, ?_⟩
      refine r_ixT ht (v := .str (line WS[i])) (atI_nat (by rw [List.getElem?_map, List.getElem?_map, List.getElem?_eq_getElem h]; rfl)) ?_
      walk_at "rd"
      refine ⟨WS[i], rfl, G _ (List.getElem_mem h), fun p hp => ?_⟩
      obtain ⟨w0, wr, hw⟩ : ∃ w0 wr, WS[i] = w0 :: wr := by
        have := (G _ (List.getElem_mem h)).ne
        cases hh : WS[i] with
        | nil => exact absurd hh this
        | cons a b => exact ⟨a, b, rfl⟩
      rw [hw]
      walk_at "rd"
      refine r_ixL (SqL.of upd_same) (v := .str w0) (atI_nat (j := 0) rfl) ?_
      have := k _ (Same.upd (o := .lst ((w0 :: wr).map V.str)) hp)
      rw [fw, List.getElem?_eq_getElem h, hw] at this
      exact this
theorem sc_Lines_finish : FnScope ["self"] ["self"] (defScope s_Lines_finish) := ⟨rfl, rfl, rfl, by decide +kernel, rfl, by decide +kernel, by decide +kernel⟩
theorem ok_Lines_finish (T : Txt K mg) : Ok P w K mg base 1 (He.ma K (He.ga K "Lines") "finish") ["self"] (spLinesEnd K) := by
  obtain ⟨fd, F⟩ := T.F_Lines_finish
  have b : Binds K fd ["self"] [] := F.bindsN fun _ _ _ _ _ _ us hl => match us, hl with | [_], _ => rfl
  refine ok_of F b sc_Lines_finish (fun vs H Q E h => ?_) (fun cdv A outer s H vs Q E hr h => ?_)
  · obtain ⟨r, WS, rfl, _⟩ := h
    rfl
  · obtain ⟨r, WS, rfl, hr0, k⟩ := h
    obtain ⟨dx, t, hrr, ht⟩ := hr0.ex
    refine ⟨_, (pss_one (ps_if (pt_cmpR op_lt (pe_fld (pv 0) rfl) (pe_callB call_len_seq (by rfl) T.f_len (by decide +kernel) (pa_cons (pe_fld (pv 0) rfl) pa_nil)) (by first | exact nomark _ | rfl)) (pss_one ps_never) pss_nil)), ?_⟩
    walk_at "rd"
    refine ⟨_, _, _, _, _, rfl, hrr, T.c_Lines, T.n_Lines_at, rfl, ?_⟩
    walk_at "rd"
    refine ⟨_, _, _, _, _, rfl, hrr, T.c_Lines, T.n_Lines_texts, rfl, ?_⟩
    walk_at "rd"
    refine ⟨_, _, rfl, .inr ht, ?_⟩
    rw [List.length_map, List.length_map]
    walk_at "rd"
    rw [decide_eq_false (by omega : ¬ ((WS.length : Int) < (WS.length : Int)))]
    refine r_iF ?_
    walk_at "rd"
    exact k
/-! ### words -/
end
def spWordsInit (K : Frg) : Sp := fun vs H Q _ => ∃ (x dx p : Addr) (ln : Nat) (ws : List Str), vs = [.ref x, .int ln, .ref p] ∧ H x = some (.ins (He.ga K "Words") dx []) ∧ SqL K H p (ws.map V.str) ∧ ∀ H', Td x H H' → WordsAt K H' x ln ws 1 → Q .non H'
def comes (ws : List Str) (j : Nat) : V := match ws[j]? with
  | some w => .str w
  | none => .non
def spComing (K : Frg) : Sp := fun vs H Q _ => ∃ w ln ws j, vs = [.ref w] ∧ WordsAt K H w ln ws j ∧ Q (comes ws j) H
def spTaken (K : Frg) : Sp := fun vs H Q _ => ∃ w ln ws j, vs = [.ref w, .bl true] ∧ WordsAt K H w ln ws j ∧ ∀ H', Td w H H' → WordsAt K H' w ln ws (j + 1) → Q (comes ws j) H'
def spTakeName (K : Frg) : Sp := fun vs H Q _ => ∃ w ln ws j s, vs = [.ref w] ∧ WordsAt K H w ln ws j ∧ ws[j]? = some s ∧ GoodN s ∧ ∀ H', Td w H H' → WordsAt K H' w ln ws (j + 1) → Q (.str s) H'
def spWordsEnd (K : Frg) : Sp := fun vs H Q _ => ∃ w ln ws, vs = [.ref w] ∧ WordsAt K H w ln ws ws.length ∧ ∀ H', Td w H H' → Q .non H'
section
variable {P : Program} {w : World} {K : Frg} {mg : Str → Option Value} {base : Heap}
theorem sc_Words_init : FnScope ["self", "line", "words"] ["self", "line", "words"] (defScope s_Words_init) := ⟨rfl, rfl, rfl, by decide +kernel, rfl, by decide +kernel, by decide +kernel⟩
theorem ok_Words_init (T : Txt K mg) : Ok P w K mg base 1 (He.ma K (He.ga K "Words") "__init__") ["self", "line", "words"] (spWordsInit K) := by
  obtain ⟨fd, F⟩ := T.F_Words_init
  have b : Binds K fd ["self", "line", "words"] [] := F.bindsN fun _ _ _ _ _ _ us hl => match us, hl with | [_, _, _], _ => rfl
  refine ok_of F b sc_Words_init (fun vs H Q E h => ?_) (fun cdv A outer s H vs Q E hr h => ?_)
  · obtain ⟨x, dx, p, ln, ws, rfl, _⟩ := h
    rfl
  · obtain ⟨x, dx, p, ln, ws, rfl, hx, hp, k⟩ := h
    refine ⟨_, (pss_cons (ps_fld (pv 0) (pv 1) rfl)
  (pss_cons (ps_fld (pv 0) (pv 2) rfl)
  (pss_one (ps_fld (pv 0) pe_int rfl)))), ?_⟩
    walk_at "rd"
    refine ⟨x, _, dx, [], rfl, hx, T.c_Words, T.n_Words_line, by decide, ?_⟩
    walk_at "rd"
    refine ⟨x, _, dx, _, rfl, upd_same, T.c_Words, T.n_Words_words, by show 1 < 1000; decide, ?_⟩
    walk_at "rd"
    refine ⟨x, _, dx, _, rfl, upd_same, T.c_Words, T.n_Words_at, by show 2 < 1000; decide, ?_⟩
    walk_at "rd"
    have e2 := (Td.put (x := x) (H := H) (o := .ins (He.ga K "Words") dx [(Str.ofString "_line", .int ln)])).trans ((Td.put (o := .ins (He.ga K "Words") dx [(Str.ofString "_line", .int ln), (Str.ofString "_words", .ref p)])).trans (Td.put (o := .ins (He.ga K "Words") dx (wordsF ln p 1))))
    exact k _ e2 ⟨dx, p, upd_same, e2.seq hx hp⟩
theorem sc_Words_coming : FnScope ["self"] ["self"] (defScope s_Words_coming) := ⟨rfl, rfl, rfl, by decide +kernel, rfl, by decide +kernel, by decide +kernel⟩
theorem ok_Words_coming (T : Txt K mg) : Ok P w K mg base 1 (He.ma K (He.ga K "Words") "coming") ["self"] (spComing K) := by
  obtain ⟨fd, F⟩ := T.F_Words_coming
  have b : Binds K fd ["self"] [] := F.bindsN fun _ _ _ _ _ _ us hl => match us, hl with | [_], _ => rfl
  refine ok_of F b sc_Words_coming (fun vs H Q E h => ?_) (fun cdv A outer s H vs Q E hr h => ?_)
  · obtain ⟨w', ln, ws, j, rfl, _⟩ := h
    rfl
  · obtain ⟨w', ln, ws, j, rfl, hw0, k⟩ := h
    obtain ⟨dx, l, hw, hl⟩ := hw0.ex
    refine ⟨_, (pss_one (ps_ret (pe_ifExp (pt_cmpR op_lt (pe_fld (pv 0) rfl) (pe_callB call_len_seq (by rfl) T.f_len (by decide +kernel) (pa_cons (pe_fld (pv 0) rfl) pa_nil)) (by first | exact nomark _ | rfl)) (pe_ix ix_list (pe_fld (pv 0) rfl) (pe_fld (pv 0) rfl) (fun _ _ => rfl)) pe_non))), ?_⟩
    walk_at "rd"
    refine ⟨_, _, _, _, _, rfl, hw, T.c_Words, T.n_Words_at, rfl, ?_⟩
    walk_at "rd"
    refine ⟨_, _, _, _, _, rfl, hw, T.c_Words, T.n_Words_words, rfl, ?_⟩
    walk_at "rd"
    refine ⟨_, _, rfl, .inl hl, ?_⟩
    rw [List.length_map]
    walk_at "rd"
    refine r_ifd (fun h => ?_) (fun h => ?_)
    · have hj : j < ws.length := by omega
      walk_at "rd"
      refine ⟨_, _, _, _, _, rfl, hw, T.c_Words, T.n_Words_words, rfl, ?_⟩
      walk_at "rd"
      refine ⟨_, _, _, _, _, rfl, hw, T.c_Words, T.n_Words_at, rfl, ?_⟩
      refine r_ixL hl (v := .str ws[j]) (atI_nat (by rw [List.getElem?_map, List.getElem?_eq_getElem hj]; rfl)) ?_
      rw [comes, List.getElem?_eq_getElem hj] at k
      exact k
    · walk_at "rd"
      rw [comes, List.getElem?_eq_none (by omega)] at k
      exact k
theorem sc_Words_taken : FnScope ["self", "good", "word"] ["self", "good"] (defScope s_Words_taken) := ⟨rfl, rfl, rfl, by decide +kernel, rfl, by decide +kernel, by decide +kernel⟩
theorem ok_Words_taken (T : Txt K mg) : Ok P w K mg base 2 (He.ma K (He.ga K "Words") "_taken") ["self", "good"] (spTaken K) := by
  obtain ⟨fd, F⟩ := T.F_Words_taken
  have b : Binds K fd ["self", "good"] [] := F.bindsN fun _ _ _ _ _ _ us hl => match us, hl with | [_, _], _ => rfl
  refine ok_of F b sc_Words_taken (fun vs H Q E h => ?_) (fun cdv A outer s H vs Q E hr h => ?_)
  · obtain ⟨w', ln, ws, j, rfl, _⟩ := h
    rfl
  · obtain ⟨w', ln, ws, j, rfl, hw0, k⟩ := h
    obtain ⟨dx, l, hw, hl⟩ := hw0.ex
    refine ⟨_, (pss_cons (ps_if (pt_not (pt_val (pv 1))) (pss_one ps_never) pss_nil)
  (pss_cons (ps_set (i := 2) sc_Words_taken.nd rfl (Or.inl rfl) (pkM0 (ok_Words_coming T) hr T.c_Words T.m_Words_coming (pv 0)))
  (pss_cons (ps_fldaug (pv 0) pe_int in_add)
  (pss_one (ps_ret (pv 2)))))), ?_⟩
    walk_at "rd"
    refine r_iF ?_
    walk_at "rd"
    refine ⟨w', dx, _, rfl, hw, rfl, ?_⟩
    walk_at "rd"
    refine ⟨w', ln, ws, j, rfl, hw0, ?_⟩
    walk_at "rd"
    refine ⟨w', _, dx, _, .int j, rfl, hw, T.c_Words, T.n_Words_at, rfl, ?_⟩
    walk_at "rd"
    refine ⟨j, 1, rfl, rfl, dx, _, hw, by show 3 < 1000; decide, ?_⟩
    walk_at "rd"
    have e1 : Td w' H (upd H w' (.ins (He.ga K "Words") dx (wordsF ln l (j + 1)))) := Td.put
    exact k _ e1 ⟨dx, l, upd_same, e1.seq hw hl⟩
theorem sc_Words_take_name : FnScope ["self"] ["self"] (defScope s_Words_take_name) := ⟨rfl, rfl, rfl, by decide +kernel, rfl, by decide +kernel, by decide +kernel⟩
theorem ok_Words_take_name (T : Txt K mg) : Ok P w K mg base 3 (He.ma K (He.ga K "Words") "take_name") ["self"] (spTakeName K) := by
  obtain ⟨fd, F⟩ := T.F_Words_take_name
  have b : Binds K fd ["self"] [] := F.bindsN fun _ _ _ _ _ _ us hl => match us, hl with | [_], _ => rfl
  refine ok_of F b sc_Words_take_name (fun vs H Q E h => ?_) (fun cdv A outer s H vs Q E hr h => ?_)
  · obtain ⟨w', ln, ws, j, s, rfl, _⟩ := h
    rfl
  · obtain ⟨w', ln, ws, j, s, rfl, hw0, hj, hs, k⟩ := h
    obtain ⟨dx, l, hw, hl⟩ := hw0.ex
    refine ⟨_, (pss_one (ps_ret (pkM (ok_Words_taken T) hr T.c_Words T.m_Words_taken (pv 0) (pa_cons (pk (ok_is_name T) hr rfl T.g_is_name (pa_cons (pkM0 (ok_Words_coming T) hr T.c_Words T.m_Words_coming (pv 0)) pa_nil)) pa_nil)))), ?_⟩
    walk_at "rd"
    refine ⟨w', dx, _, rfl, hw, rfl, ?_⟩
    walk_at "rd"
    refine ⟨w', dx, _, rfl, hw, rfl, ?_⟩
    walk_at "rd"
    refine ⟨w', ln, ws, j, rfl, hw0, ?_⟩
    rw [show comes ws j = .str s by rw [comes, hj]]
    walk_at "rd"
    refine r_isName (E := E0) hs fun H1 s1 => ?_
    walk_at "rd"
    refine ⟨w', ln, ws, j, rfl, hw0.same s1, fun H2 e2 hw2 => ?_⟩
    rw [show comes ws j = .str s by rw [comes, hj]]
    exact k H2 ((Td.same s1).trans e2) hw2
theorem sc_Words_finish : FnScope ["self"] ["self"] (defScope s_Words_finish) := ⟨rfl, rfl, rfl, by decide +kernel, rfl, by decide +kernel, by decide +kernel⟩
theorem ok_Words_finish (T : Txt K mg) : Ok P w K mg base 3 (He.ma K (He.ga K "Words") "finish") ["self"] (spWordsEnd K) := by
  obtain ⟨fd, F⟩ := T.F_Words_finish
  have b : Binds K fd ["self"] [] := F.bindsN fun _ _ _ _ _ _ us hl => match us, hl with | [_], _ => rfl
  refine ok_of F b sc_Words_finish (fun vs H Q E h => ?_) (fun cdv A outer s H vs Q E hr h => ?_)
  · obtain ⟨w', ln, ws, rfl, _⟩ := h
    rfl
  · obtain ⟨w', ln, ws, rfl, hw0, k⟩ := h
    obtain ⟨dx, l, hw, hl⟩ := hw0.ex
    refine ⟨_, (pss_one (ps_expr (pkM (ok_Words_taken T) hr T.c_Words T.m_Words_taken (pv 0) (pa_cons (pe_cmpR op_isN (pkM0 (ok_Words_coming T) hr T.c_Words T.m_Words_coming (pv 0)) pe_non (by first | exact nomark _ | rfl)) pa_nil)))), ?_⟩
    walk_at "rd"
    refine ⟨w', dx, _, rfl, hw, rfl, ?_⟩
    walk_at "rd"
    refine ⟨w', dx, _, rfl, hw, rfl, ?_⟩
    walk_at "rd"
    refine ⟨w', ln, ws, ws.length, rfl, hw0, ?_⟩
    rw [show comes ws ws.length = .non by rw [comes, List.getElem?_eq_none (Nat.le_refl _)]]
    walk_at "rd"
    refine ⟨rfl, ?_⟩
    rw [decide_eq_true rfl]
    walk_at "rd"
    refine ⟨w', ln, ws, ws.length, rfl, hw0, fun H2 e2 hw2 => ?_⟩
    walk_at "rd"
    exact k H2 e2
end
end Tx

/-! ## Pr10 -/
set_option maxHeartbeats 4000000
/-! A line begun; numbers and digits read. -/
namespace Tx
open PySem PySem.Spec PyProof.Rows L2 Gd
local macro_rules | `(tactic| walk_at "rd1") => `(tactic| first
  | ((with_reducible show tVar _ _ _ _); refine r_var (by rfl) ?_)
  | with_reducible refine r_c ?_
  | with_reducible refine r_seq ?_
  | with_reducible refine r_asg ?_
  | with_reducible refine r_name ?_
  | with_reducible refine r_op ?_
  | with_reducible refine r_I0 ?_
  | with_reducible refine r_cons ?_
  | with_reducible refine r_nil ?_
  | with_reducible refine r_call ?_
  | with_reducible refine r_ret ?_
  | with_reducible refine r_cb ?_
  | with_reducible refine r_ifS ?_
  | with_reducible refine r_test ?_
  | with_reducible refine r_bl ?_
  | with_reducible refine r_dget ?_
  | with_reducible refine r_dput ?_
  | ((with_reducible show (∃ k, [V.int _] = [V.int k] ∧ _) ∨ _); refine Or.inl ⟨_, rfl, ?_⟩)
  | with_reducible refine r_lcR ?_
  | with_reducible refine r_lcL ?_
  | with_reducible refine r_lcT ?_
  | with_reducible refine r_m1 ?_
  | with_reducible refine r_gSub ?_
  | with_reducible refine r_forR ?_
  | with_reducible refine r_forL ?_
  | with_reducible refine r_forT ?_
  | with_reducible refine r_bm ?_
  | with_reducible refine r_next ?_
  | with_reducible refine r_B ?_
  | with_reducible refine r_not ?_
  | with_reducible refine r_and ?_
  | with_reducible refine r_or ?_
  | with_reducible refine r_andV ?_
  | with_reducible refine r_orV ?_
  | with_reducible refine r_notV ?_
  | with_reducible refine r_ifE ?_
  | with_reducible refine r_drop ?_
  | with_reducible refine r_tup ?_
  | with_reducible refine r_lst ?_
  | with_reducible refine r_un ?_
  | with_reducible refine r_U ?_)
local macro_rules | `(tactic| walk_at "rd") => `(tactic| repeat walk_at "rd1")
local macro_rules | `(tactic| walk_at "rd1") => `(tactic| first
  | with_reducible refine r_lcS ?_
  | with_reducible refine r_sl ?_
  | with_reducible refine r_noPart ?_
  | with_reducible refine r_partE ?_
  | with_reducible refine r_sfld ?_
  | with_reducible refine r_gc ?_
  | with_reducible refine r_gn ?_
  | with_reducible refine r_forE ?_
  | with_reducible refine r_makeK ?_
  | with_reducible refine r_make ?_
  | with_reducible refine r_fld ?_
  | with_reducible refine r_prop ?_
  | with_reducible refine r_meth ?_
  | with_reducible refine r_js ?_
  | with_reducible refine r_jn ?_
  | with_reducible refine r_fmt ?_
  | with_reducible refine r_chain ?_)
local macro_rules | `(tactic| walk_at "rd1") => `(tactic| with_reducible refine r_sfa ?_)
theorem pkR {X : Cx} {n k : Nat} {C f : Addr} {m : Str} {sp : Sp} {o e : Expr} {es : List Expr} {ta : TE} {t : TA} {apos pos : Pos} {pl : Sem Bool} (F : FnR X.prog X.w X.K X.mg X.base CX0 k f sp) (hr : Room n X.A) (c : Cls X.K C) (hm : Meth X.K C m f) (he : PE X o ta) (ha : PA X (e :: es) t) (hk : k ≤ n := by decide)
    (hst : starEach (e :: es) X.env = (false, eval e X.env) :: starEach es X.env := by rfl) (hpl : (backTo pos (starEach es X.env)).any (·.1) = false := by rfl)
    (ht : eval (.Call (.Attribute o m apos) (e :: es) [] pos) X.env = (do
      let ov ← eval o X.env
      standAt apos.atName
      let (f, first) ← holding [ov] (getMethod ov m pl)
      callWith pos f first (backTo pos (starEach (e :: es) X.env)) (backToKw pos (keywordEach [] X.env))) := by rfl) :
    PE X (.Call (.Attribute o m apos) (e :: es) [] pos) (tMethR C m sp E0 ta t) := pe_methR he c hm F (hr.mono hk) pass0 ha hst hpl ht
/-- a line begun -/
def spBegun (K : Frg) : Sp := fun vs H Q _ => ∃ (r p : Addr) (WS : List (List Str)) (i : Nat) (w0 : Str) (wr al : List Str), vs = [.ref r, .ref p] ∧ LinesAt K H r WS i ∧ WS[i]? = some (w0 :: wr) ∧ WS.length ≤ 1000 ∧ (∀ ws ∈ WS, WOk ws) ∧ SqT K H p (al.map V.str) ∧ w0 ∈ al ∧
  ∀ w H', Td r H H' → H w = none → w ≠ r → LinesAt K H' r WS (i + 1) → WordsAt K H' w i (w0 :: wr) 1 → Q (.ref w) H'
def spBegin (K : Frg) : Sp := fun vs H Q E => ∃ v rest, vs = v :: rest ∧ rest.length ≤ 1 ∧ ∀ p, H p = none → spBegun K [v, V.ref p] (upd H p (.tup rest)) Q E
theorem r_begin {K : Frg} {r : Addr} {WS : List (List Str)} {i : Nat} {w0 : Str} {wr : List Str} {H : Hp} {Q : VK} {E : XK} (hr : LinesAt K H r WS i) (hi : WS[i]? = some (w0 :: wr)) (hn : WS.length ≤ 1000) (G : ∀ ws ∈ WS, WOk ws)
    (h : ∀ w H', Td r H H' → H w = none → w ≠ r → LinesAt K H' r WS (i + 1) → WordsAt K H' w i (w0 :: wr) 1 → Q (.ref w) H') : spBegin K [.ref r, .str w0] H Q E := by
  refine ⟨.ref r, [.str w0], rfl, by show 1 ≤ 1; decide, fun p hp => ?_⟩
  have s := Same.upd (o := .tup [V.str w0]) hp
  refine ⟨r, p, WS, i, w0, wr, [w0], rfl, hr.same s, hi, hn, G, SqT.of upd_same, List.mem_singleton.mpr rfl, fun w H' e nw ne h1 h2 => h w H' ((Td.same s).trans e) (s.free nw) ne h1 h2⟩
section
variable {P : Program} {w : World} {K : Frg} {mg : Str → Option Value} {base : Heap}
theorem sc_Lines_begin : FnScope ["self", "allowed", "words"] ["self", "allowed"] (defScope s_Lines_begin) := ⟨rfl, rfl, rfl, by decide +kernel, rfl, by decide +kernel, by decide +kernel⟩
theorem ok_Lines_begin (T : Txt K mg) : FnR P w K mg base CX0 4 (He.ma K (He.ga K "Lines") "begin") (spBegin K) := by
  obtain ⟨fd, F⟩ := T.F_Lines_begin
  obtain ⟨oc, od, dV, kV, doc, pm, an, cdv, ct, osl, rfl, lk, hcd, hD, hK⟩ := F.ex
  obtain ⟨_, rfl⟩ : ∃ _ : True, dV = .none := by
    rcases hD with ⟨_, h⟩ | ⟨e, _⟩
    · exact ⟨trivial, h⟩
    · exact absurd rfl e
  refine fn_ofV (pa := "self") (pv := "allowed") (nmax := 1) lk hcd sc_Lines_begin (by decide) (fun u rest hl => match rest, hl with | [], _ => rfl | [_], _ => rfl | _ :: _ :: r, h => absurd h (by simp only [List.length_cons]; omega)) (fun _ _ _ _ _ _ _ _ _ _ _ _ z => z.elim) (fun A outer s H vs Q E hr h => ?_)
  · obtain ⟨r, p, WS, i, w0, wr, al, rfl, hr0, hi, hn, G, hp, hin, k⟩ := h
    obtain ⟨dx, t, hrr, ht⟩ := hr0.ex
    have hlt : i < WS.length := (List.getElem?_eq_some_iff.mp hi).1
    suffices h : ∃ t, PSs (cxOf CX0 P w K mg base ["self", "allowed", "words"] d_Lines_begin.qual (defScope s_Lines_begin) (He.ma K (He.ga K "Lines") "begin") cdv A outer s H E).nox (defBody s_Lines_begin) t ∧ t { nx := fun _ H' => Q .non H', rt := Q } (L2.start ["self", "allowed", "words"] [.ref r, .ref p]) H by
      obtain ⟨t, a, b⟩ := h
      exact ⟨t, a.nox, b⟩
    refine ⟨_, (pss_cons (ps_if (pt_cmpR op_notIn_seq (pkM0 (ok_Lines_first_word T) hr T.c_Lines T.m_Lines_first_word (pv 0)) (pv 1) (by first | exact nomark _ | rfl)) (pss_one ps_never) pss_nil)
  (pss_cons (ps_set (i := 2) sc_Lines_begin.nd rfl (Or.inl rfl) (pmk T.k_Words (ok_Words_init T) hr rfl T.g_Words (pa_cons (pe_fld (pv 0) rfl) (pa_cons (pk (ok_words T) hr rfl T.g_words (pa_cons (pe_ix ix_tup (pe_fld (pv 0) rfl) (pe_fld (pv 0) rfl) (fun _ _ => rfl)) pa_nil)) pa_nil))))
  (pss_cons (ps_fldaug (pv 0) pe_int in_add)
  (pss_one (ps_ret (pv 2)))))), ?_⟩
    walk_at "rd"
    refine ⟨r, dx, _, rfl, hrr, rfl, ?_⟩
    walk_at "rd"
    refine ⟨r, WS, i, rfl, hr0, by omega, hn, G, fun H1 s1 => ?_⟩
    walk_at "rd"
    refine r_notIn (.inr (Sd.tup (Sd.of s1) hp)) ?_
    rw [show fw WS i = w0 by rw [fw, hi], decide_eq_true hin]
    refine r_bl (r_iF ?_)
    walk_at "rd"
    refine ⟨_, _, _, _, _, rfl, s1 _ _ hrr, T.c_Lines, T.n_Lines_at, rfl, ?_⟩
    walk_at "rd"
    refine ⟨_, _, _, _, _, rfl, s1 _ _ hrr, T.c_Lines, T.n_Lines_texts, rfl, ?_⟩
    walk_at "rd"
    refine ⟨_, _, _, _, _, rfl, s1 _ _ hrr, T.c_Lines, T.n_Lines_at, rfl, ?_⟩
    refine r_ixT (Sd.tup (Sd.of s1) ht) (v := .str (line (w0 :: wr))) (atI_nat (by rw [List.getElem?_map, List.getElem?_map, hi]; rfl)) ?_
    walk_at "rd"
    refine ⟨w0 :: wr, rfl, G _ (List.mem_of_getElem? hi), fun l hl => ?_⟩
    have s2 := s1.trans (Same.upd (o := .lst ((w0 :: wr).map V.str)) hl)
    have hl2 : SqL K (upd H1 l (.lst ((w0 :: wr).map V.str))) l ((w0 :: wr).map V.str) := SqL.of upd_same
    generalize upd H1 l (.lst ((w0 :: wr).map V.str)) = H2 at s2 hl2 ⊢
    walk_at "rd"
    intro x dx2 nx nd ne
    have s3 : Same H2 (upd (upd H2 dx2 (.own x)) x (.ins (He.ga K "Words") dx2 [])) := Td.made nx nd (fun a o _ h => h)
    refine ⟨x, dx2, l, i, w0 :: wr, rfl, upd_same, Same.seq s3 hl2, fun H3 e3 hw3 => ⟨rfl, ?_⟩⟩
    have s4 := s2.trans (Td.made nx nd e3)
    have nxH := s2.free nx
    walk_at "rd"
    refine ⟨r, _, dx, _, .int i, rfl, s4 _ _ hrr, T.c_Lines, T.n_Lines_at, rfl, ?_⟩
    walk_at "rd"
    refine ⟨i, 1, rfl, rfl, dx, _, s4 _ _ hrr, by show 2 < 1000; decide, ?_⟩
    walk_at "rd"
    have e5 : Td r H3 (upd H3 r (.ins (He.ga K "Lines") dx (linesL t (i + 1)))) := Td.put
    have nxr : x ≠ r := fun z => by rw [z, hrr] at nxH; cases nxH
    exact k x _ ((Td.same s4).trans e5) nxH nxr ⟨dx, t, upd_same, e5.tup (s4 _ _ hrr) (Sd.tup (Sd.of s4) ht)⟩ (hw3.td (s4 _ _ hrr) nxr e5)
end
end Tx

/-! ## Pr11 -/
set_option maxHeartbeats 4000000
/-! Numbers and digits read. -/
namespace Tx
open PySem PySem.Spec PyProof.Rows L2 Gd
local macro_rules | `(tactic| walk_at "rd1") => `(tactic| first
  | ((with_reducible show tVar _ _ _ _); refine r_var (by rfl) ?_)
  | with_reducible refine r_c ?_
  | with_reducible refine r_seq ?_
  | with_reducible refine r_asg ?_
  | with_reducible refine r_name ?_
  | with_reducible refine r_op ?_
  | with_reducible refine r_I0 ?_
  | with_reducible refine r_cons ?_
  | with_reducible refine r_nil ?_
  | with_reducible refine r_call ?_
  | with_reducible refine r_ret ?_
  | with_reducible refine r_cb ?_
  | with_reducible refine r_ifS ?_
  | with_reducible refine r_test ?_
  | with_reducible refine r_bl ?_
  | with_reducible refine r_dget ?_
  | with_reducible refine r_dput ?_
  | ((with_reducible show (∃ k, [V.int _] = [V.int k] ∧ _) ∨ _); refine Or.inl ⟨_, rfl, ?_⟩)
  | with_reducible refine r_lcR ?_
  | with_reducible refine r_lcL ?_
  | with_reducible refine r_lcT ?_
  | with_reducible refine r_m1 ?_
  | with_reducible refine r_gSub ?_
  | with_reducible refine r_forR ?_
  | with_reducible refine r_forL ?_
  | with_reducible refine r_forT ?_
  | with_reducible refine r_bm ?_
  | with_reducible refine r_next ?_
  | with_reducible refine r_B ?_
  | with_reducible refine r_not ?_
  | with_reducible refine r_and ?_
  | with_reducible refine r_or ?_
  | with_reducible refine r_andV ?_
  | with_reducible refine r_orV ?_
  | with_reducible refine r_notV ?_
  | with_reducible refine r_ifE ?_
  | with_reducible refine r_drop ?_
  | with_reducible refine r_tup ?_
  | with_reducible refine r_lst ?_
  | with_reducible refine r_un ?_
  | with_reducible refine r_U ?_)
local macro_rules | `(tactic| walk_at "rd") => `(tactic| repeat walk_at "rd1")
local macro_rules | `(tactic| walk_at "rd1") => `(tactic| first
  | with_reducible refine r_lcS ?_
  | with_reducible refine r_sl ?_
  | with_reducible refine r_noPart ?_
  | with_reducible refine r_partE ?_
  | with_reducible refine r_sfld ?_
  | with_reducible refine r_gc ?_
  | with_reducible refine r_gn ?_
  | with_reducible refine r_forE ?_
  | with_reducible refine r_makeK ?_
  | with_reducible refine r_make ?_
  | with_reducible refine r_fld ?_
  | with_reducible refine r_prop ?_
  | with_reducible refine r_meth ?_
  | with_reducible refine r_js ?_
  | with_reducible refine r_jn ?_
  | with_reducible refine r_fmt ?_
  | with_reducible refine r_chain ?_)
local macro_rules | `(tactic| walk_at "rd1") => `(tactic| with_reducible refine r_sfa ?_)
theorem num_digits : ∀ n : Nat, n < 601 → ∀ c ∈ (num (n : Int)).cps.toList, c ∈ (Str.ofString "0123456789").cps.toList := by decide +kernel
theorem num_lo : ∀ n : Nat, n < 601 → 1 ≤ (num (n : Int)).length := by decide +kernel
theorem num_first : ∀ n : Nat, n < 601 → num (n : Int) = Str.ofString "0" ∨ ((num (n : Int)).cps.toList[0]? ≠ some 48) := by decide +kernel
theorem num_text : ∀ n : Nat, n < 601 → PySem.intText? (num (n : Int)) = some (n : Int) := by decide +kernel
theorem num_small : ∀ n : Nat, n < 4 → (num (n : Int)).length = 1 := by decide +kernel
theorem num_600 : (num 600).length = 3 := by decide +kernel
theorem num_2 : (num 2).length = 1 := by decide +kernel
theorem num_3 : (num 3).length = 1 := by decide +kernel
def Hi (hi : Int) : Prop := hi = 2 ∨ hi = 3 ∨ hi = 600
theorem num_le {n hi : Int} (h : Hi hi) (h0 : 0 ≤ n) (h1 : n ≤ hi) : (num n).length ≤ (num hi).length := by
  obtain ⟨n, rfl⟩ : ∃ m : Nat, n = (m : Int) := ⟨n.toNat, by omega⟩
  rcases h with rfl | rfl | rfl
  · rw [num_small n (by omega), num_2]; exact Nat.le_refl _
  · rw [num_small n (by omega), num_3]; exact Nat.le_refl _
  · rw [num_600]; exact num_len (by omega) h1
theorem dig_cps (ts : List Int) : (dig ts).cps.toList = ts.map fun t => 48 + t.toNat := rfl
theorem dig_in {ts : List Int} (h : In 3 ts) : ∀ c ∈ (dig ts).cps.toList, c ∈ (Str.ofString "012").cps.toList := by
  intro c hc
  rw [dig_cps] at hc
  obtain ⟨t, ht, rfl⟩ := List.mem_map.mp hc
  obtain ⟨a, b⟩ := h t ht
  have : t = 0 ∨ t = 1 ∨ t = 2 := by omega
  rcases this with rfl | rfl | rfl <;> decide +kernel
theorem dig_int {t : Int} (a : 0 ≤ t) (b : t < 3) : PySem.intText? ⟨#[48 + t.toNat]⟩ = some t := by
  have : t = 0 ∨ t = 1 ∨ t = 2 := by omega
  rcases this with rfl | rfl | rfl <;> decide +kernel
def spIsInt : Sp := fun vs H Q _ => ∃ n lo hi : Int, vs = [.str (num n), .int lo, .int hi] ∧ 0 ≤ n ∧ lo ≤ n ∧ n ≤ hi ∧ Hi hi ∧ ∀ H', Same H H' → Q (.bl true) H'
def spTakeNum (K : Frg) : Sp := fun vs H Q _ => ∃ w ln ws j, ∃ n lo hi : Int, vs = [.ref w, .int lo, .int hi] ∧ WordsAt K H w ln ws j ∧ ws[j]? = some (num n) ∧ 0 ≤ n ∧ lo ≤ n ∧ n ≤ hi ∧ Hi hi ∧ ∀ H', Td w H H' → WordsAt K H' w ln ws (j + 1) → Q (.int n) H'
def spTakeDig (K : Frg) : Sp := fun vs H Q _ => ∃ w ln ws j ts, vs = [.ref w] ∧ WordsAt K H w ln ws j ∧ ws[j]? = some (dig ts) ∧ In 3 ts ∧ 1 ≤ ts.length ∧ ts.length ≤ 27 ∧
  ∀ p H', Td w H H' → WordsAt K H' w ln ws (j + 1) → SqT K H' p (ts.map V.int) → Q (.ref p) H'
section
variable {P : Program} {w : World} {K : Frg} {mg : Str → Option Value} {base : Heap}
theorem sc_is_integer : FnScope ["word", "low", "high", "digit"] ["word", "low", "high"] (defScope s_is_integer) := ⟨rfl, rfl, rfl, by decide +kernel, rfl, by decide +kernel, by decide +kernel⟩
theorem ok_is_integer (T : Txt K mg) : Ok P w K mg base 1 (He.ga K "_is_integer") ["word", "low", "high"] spIsInt := by
  obtain ⟨fd, F⟩ := T.F_is_integer
  have b : Binds K fd ["word", "low", "high"] [] := F.bindsN fun _ _ _ _ _ _ us hl => match us, hl with | [_, _, _], _ => rfl
  refine ok_of F b sc_is_integer (fun vs H Q E h => ?_) (fun cdv A outer s H vs Q E hr h => ?_)
  · obtain ⟨n, lo, hi, rfl, _⟩ := h
    rfl
  · obtain ⟨n, lo, hi, rfl, n0, n1, n2, hh, k⟩ := h
    have h600 : n ≤ 600 := by rcases hh with rfl | rfl | rfl <;> omega
    have hi0 : 0 ≤ hi ∧ hi ≤ 600 := by rcases hh with rfl | rfl | rfl <;> decide
    have hle := num_le hh n0 n2
    obtain ⟨n, rfl⟩ : ∃ m : Nat, n = (m : Int) := ⟨n.toNat, by omega⟩
    have f1 := num_lo n (by omega)
    have f2 := num_len n0 h600
    have f3 := num_len hi0.1 hi0.2
    have f4 := num_digits n (by omega)
    have f5 := num_first n (by omega)
    have f6 := num_text n (by omega)
    generalize num (n : Int) = s at *
    refine ⟨_, (pss_cons (ps_if (PW.pt (pw_or (pt_cmpR op_isN (pv 0) pe_non (by first | exact nomark _ | rfl)) (pw_or (pt_not (pt_chain op_le op_le pe_int (pe_callB call_len_str (by rfl) T.f_len (by decide +kernel) (pa_cons (pv 0) pa_nil)) (pe_callB call_len_str (by rfl) T.f_len (by decide +kernel) (pa_cons (pe_callTy call_str_int (by rfl) T.f_str (by decide +kernel) (pa_cons (pv 2) pa_nil)) pa_nil)))) (pw_or1 (pt_not (pt_val (pe_callB (cr_all rfl) (by rfl) T.f_all (by decide +kernel) (pa_cons (pe_lc (own := [("digit", 3)]) rfl sc_is_integer.nd (pi_str (pv 0)) (blkOk_by (own := [("digit", 3)]) (N := ["word", "low", "high", "digit"]) (sc := defScope s_is_integer) (by decide +kernel)) (fun _ _ _ _ _ => (pg_name (i := 3) sc_is_integer.nd rfl (Or.inl rfl))) (fun _ _ _ _ _ => pts_nil) (fun _ _ _ _ _ => (pe_cmpR op_in_sign (pv 3) pe_str (by first | exact nomark _ | rfl)))) pa_nil)))))))) (pss_one (ps_ret pe_bl)) pss_nil)
  (pss_one (ps_ret (pe_and (pe_or (pe_cmpR op_eq (pv 0) pe_str (by first | exact nomark _ | rfl)) (pe_one (pe_cmpR op_ne (pe_ix ix_str (pv 0) pe_int (fun _ _ => rfl)) pe_str (by first | exact nomark _ | rfl)))) (pe_one (pe_chain op_le op_le (pv 1) (pe_callTy call_int_str (by rfl) T.f_int (by decide +kernel) (pa_cons (pv 0) pa_nil)) (pv 2))))))), ?_⟩
    walk_at "rd"
    refine ⟨rfl, ?_⟩
    refine r_bl (r_iF ?_)
    walk_at "rd"
    refine ⟨_, rfl, le_line (by omega), ?_⟩
    walk_at "rd"
    refine r_ifd (fun _ => ?_) (fun h => absurd (by omega : (1 : Int) ≤ (s.length : Int)) h)
    walk_at "rd"
    refine ⟨hi, rfl, num_log hi0.1 hi0.2, ?_⟩
    walk_at "rd"
    refine ⟨_, rfl, le_line (by show (num hi).length ≤ 1000; omega), ?_⟩
    walk_at "rd"
    rw [decide_eq_true (show (s.length : Int) ≤ ((Str.ofString (toString hi)).length : Int) from by have : s.length ≤ (Str.ofString (toString hi)).length := hle; omega)]
    refine r_iF ?_
    walk_at "rd"
    refine lcS (P := fun i v _ => v = .bl true) way_same (Same.refl _) (by omega) (fun _ _ _ _ _ p => p) (fun i c H1 hi e1 Qe q => ?_) fun D H1 ys hD e1 hy hl hp => ?_
    · refine r_name ⟨rfl, ?_⟩
      walk_at "rd"
      refine ⟨c, _, rfl, rfl, ?_⟩
      rw [decide_eq_true (f4 c (List.mem_of_getElem? hi))]
      exact q _ _ (Same.refl _) rfl
    walk_at "rd"
    refine r_all (K := K) (bs := List.replicate ys.length true) (by rw [← trues hp]; exact SqL.of hy) ?_
    rw [all_true]
    refine r_bl (r_iF ?_)
    walk_at "rd"
    refine r_eq rfl ?_
    by_cases hz : s = Str.ofString "0"
    · rw [decide_eq_true (show V.str s = V.str (Str.ofString "0") by rw [hz])]
      refine r_bl (r_iT ?_)
      refine r_bl (r_iT ?_)
      walk_at "rd"
      refine ⟨s, n, rfl, f6, by omega, ?_⟩
      walk_at "rd"
      refine r_ifd (fun _ => ?_) (fun h => absurd n1 h)
      walk_at "rd"
      rw [decide_eq_true n2]
      exact k _ e1
    · have f7 := f5.resolve_left hz
      rw [decide_eq_false (show ¬ (V.str s = V.str (Str.ofString "0")) by intro e; cases e; exact hz rfl)]
      refine r_bl (r_iF ?_)
      walk_at "rd"
      have hc : 0 < s.cps.toList.length := by have : s.length = s.cps.toList.length := TL.len_tl s; omega
      refine r_ixS (le_line (by omega)) (c := s.cps.toList[0]) (atI_nat (j := 0) (List.getElem?_eq_getElem hc)) ?_
      walk_at "rd"
      refine r_ne rfl ?_
      have f8 : s.cps.toList[0] ≠ 48 := fun e => f7 (by rw [List.getElem?_eq_getElem hc, e])
      rw [decide_eq_false (show ¬ (V.str ⟨#[s.cps.toList[0]]⟩ = V.str (Str.ofString "0")) by
        intro e
        have e2 : (⟨#[s.cps.toList[0]]⟩ : Str) = Str.ofString "0" := V.str.inj e
        have e3 : (⟨#[s.cps.toList[0]]⟩ : Str).cps.toList = (Str.ofString "0").cps.toList := by rw [e2]
        rw [show (Str.ofString "0").cps.toList = [48] by decide +kernel] at e3
        exact f8 (List.cons.inj e3).1)]
      refine r_bl (r_iT ?_)
      walk_at "rd"
      refine ⟨s, n, rfl, f6, by omega, ?_⟩
      walk_at "rd"
      refine r_ifd (fun _ => ?_) (fun h => absurd n1 h)
      walk_at "rd"
      rw [decide_eq_true n2]
      exact k _ e1
theorem sc_Words_take_number : FnScope ["self", "low", "high"] ["self", "low", "high"] (defScope s_Words_take_number) := ⟨rfl, rfl, rfl, by decide +kernel, rfl, by decide +kernel, by decide +kernel⟩
theorem ok_Words_take_number (T : Txt K mg) : Ok P w K mg base 3 (He.ma K (He.ga K "Words") "take_number") ["self", "low", "high"] (spTakeNum K) := by
  obtain ⟨fd, F⟩ := T.F_Words_take_number
  have b : Binds K fd ["self", "low", "high"] [] := F.bindsN fun _ _ _ _ _ _ us hl => match us, hl with | [_, _, _], _ => rfl
  refine ok_of F b sc_Words_take_number (fun vs H Q E h => ?_) (fun cdv A outer s H vs Q E hr h => ?_)
  · obtain ⟨w', ln, ws, j, n, lo, hi, rfl, _⟩ := h
    rfl
  · obtain ⟨w', ln, ws, j, n, lo, hi, rfl, hw0, hj, n0, n1, n2, hh, k⟩ := h
    have h600 : n ≤ 600 := by rcases hh with rfl | rfl | rfl <;> omega
    obtain ⟨dx, l, hw, hl⟩ := hw0.ex
    refine ⟨_, (pss_one (ps_ret (pe_callTy call_int_str (by rfl) T.f_int (by decide +kernel) (pa_cons (pkM (ok_Words_taken T) hr T.c_Words T.m_Words_taken (pv 0) (pa_cons (pk (ok_is_integer T) hr rfl T.g_is_integer (pa_cons (pkM0 (ok_Words_coming T) hr T.c_Words T.m_Words_coming (pv 0)) (pa_cons (pv 1) (pa_cons (pv 2) pa_nil)))) pa_nil)) pa_nil)))), ?_⟩
    walk_at "rd"
    refine ⟨w', dx, _, rfl, hw, rfl, ?_⟩
    walk_at "rd"
    refine ⟨w', dx, _, rfl, hw, rfl, ?_⟩
    walk_at "rd"
    refine ⟨w', ln, ws, j, rfl, hw0, ?_⟩
    rw [show comes ws j = .str (num n) by rw [comes, hj]]
    walk_at "rd"
    refine ⟨n, lo, hi, rfl, n0, n1, n2, hh, fun H1 s1 => ?_⟩
    walk_at "rd"
    refine ⟨w', ln, ws, j, rfl, hw0.same s1, fun H2 e2 hw2 => ?_⟩
    rw [show comes ws j = .str (num n) by rw [comes, hj]]
    walk_at "rd"
    have ht : PySem.intText? (num n) = some n := by
      obtain ⟨q, rfl⟩ : ∃ m : Nat, n = (m : Int) := ⟨n.toNat, by omega⟩
      exact num_text q (by omega)
    have := num_len n0 h600
    refine ⟨num n, n, rfl, ht, by omega, ?_⟩
    exact k H2 ((Td.same s1).trans e2) hw2
theorem sc_Words_take_digits : FnScope ["self", "word", "good", "digit"] ["self"] (defScope s_Words_take_digits) := ⟨rfl, rfl, rfl, by decide +kernel, rfl, by decide +kernel, by decide +kernel⟩
theorem ok_Words_take_digits (T : Txt K mg) : Ok P w K mg base 3 (He.ma K (He.ga K "Words") "take_digits") ["self"] (spTakeDig K) := by
  obtain ⟨fd, F⟩ := T.F_Words_take_digits
  have b : Binds K fd ["self"] [] := F.bindsN fun _ _ _ _ _ _ us hl => match us, hl with | [_], _ => rfl
  refine ok_of F b sc_Words_take_digits (fun vs H Q E h => ?_) (fun cdv A outer s H vs Q E hr h => ?_)
  · obtain ⟨w', ln, ws, j, ts, rfl, _⟩ := h
    rfl
  · obtain ⟨w', ln, ws, j, ts, rfl, hw0, hj, hin, l1, l27, k⟩ := h
    obtain ⟨dx, l, hw, hl⟩ := hw0.ex
    refine ⟨_, (pss_cons (ps_set (i := 1) sc_Words_take_digits.nd rfl (Or.inl rfl) (pkM0 (ok_Words_coming T) hr T.c_Words T.m_Words_coming (pv 0)))
  (pss_cons (ps_set (i := 2) sc_Words_take_digits.nd rfl (Or.inl rfl) (pe_and (pe_cmpR op_notN (pv 1) pe_non (by first | exact nomark _ | rfl)) (pe_and (pe_chain op_le op_le pe_int (pe_callB call_len_str (by rfl) T.f_len (by decide +kernel) (pa_cons (pv 1) pa_nil)) (pe_glob (v := .int 27) rfl (T.i_MOST_DIGITS).choose_spec ⟨_, rfl⟩)) (pe_one (pe_callB (cr_all rfl) (by rfl) T.f_all (by decide +kernel) (pa_cons (pe_lc (own := [("digit", 3)]) rfl sc_Words_take_digits.nd (pi_str (pv 1)) (blkOk_by (own := [("digit", 3)]) (N := ["self", "word", "good", "digit"]) (sc := defScope s_Words_take_digits) (by decide +kernel)) (fun _ _ _ _ _ => (pg_name (i := 3) sc_Words_take_digits.nd rfl (Or.inl rfl))) (fun _ _ _ _ _ => pts_nil) (fun _ _ _ _ _ => (pe_cmpR op_in_sign (pv 3) pe_str (by first | exact nomark _ | rfl)))) pa_nil))))))
  (pss_one (ps_ret (pe_callTy call_tuple_of (by rfl) T.f_tuple (by decide +kernel) (pa_cons (pe_lc (own := [("digit", 3)]) rfl sc_Words_take_digits.nd (pi_str (pkM (ok_Words_taken T) hr T.c_Words T.m_Words_taken (pv 0) (pa_cons (pv 2) pa_nil))) (blkOk_by (own := [("digit", 3)]) (N := ["self", "word", "good", "digit"]) (sc := defScope s_Words_take_digits) (by decide +kernel)) (fun _ _ _ _ _ => (pg_name (i := 3) sc_Words_take_digits.nd rfl (Or.inl rfl))) (fun _ _ _ _ _ => pts_nil) (fun _ _ _ _ _ => (pe_callTy call_int_str (by rfl) T.f_int (by decide +kernel) (pa_cons (pv 3) pa_nil)))) pa_nil)))))), ?_⟩
    walk_at "rd"
    refine ⟨w', dx, _, rfl, hw, rfl, ?_⟩
    walk_at "rd"
    refine ⟨w', ln, ws, j, rfl, hw0, ?_⟩
    rw [show comes ws j = .str (dig ts) by rw [comes, hj]]
    walk_at "rd"
    have dl : (dig ts).length = ts.length := dig_len
    refine ⟨rfl, ?_⟩
    refine r_bl (r_iT ?_)
    walk_at "rd"
    refine ⟨_, rfl, le_line (by omega), ?_⟩
    walk_at "rd"
    refine r_ifd (fun _ => ?_) (fun h => absurd (by omega : (1 : Int) ≤ ((dig ts).length : Int)) h)
    walk_at "rd"
    rw [decide_eq_true (by omega : ((dig ts).length : Int) ≤ 27)]
    refine r_iT ?_
    walk_at "rd"
    refine lcS (P := fun i v _ => v = .bl true) way_same (Same.refl _) (by omega) (fun _ _ _ _ _ p => p) (fun i c H1 hi e1 Qe q => ?_) fun D H1 ys hD e1 hy hyl hp => ?_
    · refine r_name ⟨rfl, ?_⟩
      walk_at "rd"
      refine ⟨c, _, rfl, rfl, ?_⟩
      rw [decide_eq_true (dig_in hin c (List.mem_of_getElem? hi))]
      exact q _ _ (Same.refl _) rfl
    walk_at "rd"
    refine r_all (K := K) (bs := List.replicate ys.length true) (by rw [← trues hp]; exact SqL.of hy) ?_
    rw [all_true]
    walk_at "rd"
    refine ⟨w', dx, _, rfl, e1 _ _ hw, rfl, ?_⟩
    walk_at "rd"
    refine ⟨w', ln, ws, j, rfl, hw0.same e1, fun H2 e2 hw2 => ?_⟩
    rw [show comes ws j = .str (dig ts) by rw [comes, hj]]
    walk_at "rd"
    refine lcS (P := fun i v _ => ∃ t, ts[i]? = some t ∧ v = .int t) way_same (Same.refl _) (by omega) (fun _ _ _ _ _ p => p) (fun i c H3 hi e3 Qe q => ?_) fun D2 H3 ys2 hD2 e3 hy2 hyl2 hp2 => ?_
    · refine r_name ⟨rfl, ?_⟩
      walk_at "rd"
      rw [dig_cps, List.getElem?_map] at hi
      obtain ⟨t, ht, rfl⟩ := Option.map_eq_some_iff.mp hi
      obtain ⟨t0, t1⟩ := hin t (List.mem_of_getElem? ht)
      refine ⟨_, t, rfl, dig_int t0 t1, by show 1 ≤ 640; decide, ?_⟩
      exact q _ _ (Same.refl _) ⟨t, ht, rfl⟩
    rw [dig_cps, List.length_map] at hyl2
    have hys := map_read (f := V.int) hyl2 hp2
    subst hys
    walk_at "rd"
    refine ⟨_, _, rfl, .inl ⟨SqL.of hy2, fun p hp3 => ?_⟩⟩
    have s4 := e3.trans (Same.upd (o := .tup (ts.map V.int)) hp3)
    exact k p _ (((Td.same e1).trans e2).trans (Td.same s4)) (hw2.same s4) (SqT.of upd_same)
end
end Tx

/-! ## Pr12 -/
set_option maxHeartbeats 4000000
/-! Ways and kinds read. -/
namespace Tx
open PySem PySem.Spec PyProof.Rows L2 Gd
theorem r_methR {C : Addr} {m : Str} {sp : Sp} {E : XK} {ta : TE} {t : TA} {σ : L2.St} {H : Hp} {Q : VK} (h : ta σ H fun x H1 => ∃ a dx fs, x = .ref a ∧ H1 a = some (.ins C dx fs) ∧ fs.lookup m = none ∧ t σ H1 fun vs H2 => sp (x :: vs) H2 Q E) : tMethR C m sp E ta t σ H Q := h
local macro_rules | `(tactic| walk_at "rd1") => `(tactic| first
  | ((with_reducible show tVar _ _ _ _); refine r_var (by rfl) ?_)
  | with_reducible refine r_c ?_
  | with_reducible refine r_seq ?_
  | with_reducible refine r_asg ?_
  | with_reducible refine r_name ?_
  | with_reducible refine r_op ?_
  | with_reducible refine r_I0 ?_
  | with_reducible refine r_cons ?_
  | with_reducible refine r_nil ?_
  | with_reducible refine r_call ?_
  | with_reducible refine r_ret ?_
  | with_reducible refine r_cb ?_
  | with_reducible refine r_ifS ?_
  | with_reducible refine r_test ?_
  | with_reducible refine r_bl ?_
  | with_reducible refine r_dget ?_
  | with_reducible refine r_dput ?_
  | ((with_reducible show (∃ k, [V.int _] = [V.int k] ∧ _) ∨ _); refine Or.inl ⟨_, rfl, ?_⟩)
  | with_reducible refine r_lcR ?_
  | with_reducible refine r_lcL ?_
  | with_reducible refine r_lcT ?_
  | with_reducible refine r_m1 ?_
  | with_reducible refine r_gSub ?_
  | with_reducible refine r_forR ?_
  | with_reducible refine r_forL ?_
  | with_reducible refine r_forT ?_
  | with_reducible refine r_bm ?_
  | with_reducible refine r_next ?_
  | with_reducible refine r_B ?_
  | with_reducible refine r_not ?_
  | with_reducible refine r_and ?_
  | with_reducible refine r_or ?_
  | with_reducible refine r_andV ?_
  | with_reducible refine r_orV ?_
  | with_reducible refine r_notV ?_
  | with_reducible refine r_ifE ?_
  | with_reducible refine r_drop ?_
  | with_reducible refine r_tup ?_
  | with_reducible refine r_lst ?_
  | with_reducible refine r_un ?_
  | with_reducible refine r_U ?_)
local macro_rules | `(tactic| walk_at "rd") => `(tactic| repeat walk_at "rd1")
local macro_rules | `(tactic| walk_at "rd1") => `(tactic| first
  | with_reducible refine r_lcS ?_
  | with_reducible refine r_sl ?_
  | with_reducible refine r_noPart ?_
  | with_reducible refine r_partE ?_
  | with_reducible refine r_sfld ?_
  | with_reducible refine r_gc ?_
  | with_reducible refine r_gn ?_
  | with_reducible refine r_forE ?_
  | with_reducible refine r_makeK ?_
  | with_reducible refine r_make ?_
  | with_reducible refine r_fld ?_
  | with_reducible refine r_prop ?_
  | with_reducible refine r_meth ?_
  | with_reducible refine r_js ?_
  | with_reducible refine r_jn ?_
  | with_reducible refine r_fmt ?_
  | with_reducible refine r_chain ?_)
local macro_rules | `(tactic| walk_at "rd1") => `(tactic| first
  | with_reducible refine r_sfa ?_
  | with_reducible refine r_methR ?_)
/-- lines that can be read -/
structure Ls (WS : List (List Str)) : Prop where
  n : WS.length ≤ 1000
  ok : ∀ ws ∈ WS, WOk ws
section
variable {K : Frg} {H : Hp} {r w : Addr} {WS : List (List Str)} {ws : List Str} {i j ln : Nat}
theorem LinesAt.ins (h : LinesAt K H r WS i) : ∃ dx t, H r = some (.ins (He.ga K "Lines") dx (linesL t i)) := by
  obtain ⟨dx, t, a, _⟩ := h.ex
  exact ⟨dx, t, a⟩
theorem WordsAt.ins (h : WordsAt K H w ln ws j) : ∃ dx l, H w = some (.ins (He.ga K "Words") dx (wordsF ln l j)) := by
  obtain ⟨dx, l, a, _⟩ := h.ex
  exact ⟨dx, l, a⟩
end
def spTakeWay (K : Frg) : Sp := fun vs H Q _ => ∃ (r : Addr) (WS : List (List Str)) (i : Nat) (wd : WD) (m : Int) (ts : List Int), vs = [.ref r] ∧ LinesAt K H r WS i ∧ Ls WS ∧ WS[i]? = some (wWay wd) ∧ Mm m ∧ GoodW m ts wd ∧ 1 ≤ ts.length ∧ ts.length ≤ 27 ∧
  ∀ v H', Td r H H' → LinesAt K H' r WS (i + 1) → Dp K H' v wd.data → Q v H'
section
variable {P : Program} {w : World} {K : Frg} {mg : Str → Option Value} {base : Heap}
theorem sc_take_way : FnScope ["reader", "word", "words", "name", "table"] ["reader"] (defScope s_take_way) := ⟨rfl, rfl, rfl, by decide +kernel, rfl, by decide +kernel, by decide +kernel⟩
theorem ok_take_way (T : Txt K mg) : Ok P w K mg base 5 (He.ga K "_take_way") ["reader"] (spTakeWay K) := by
  obtain ⟨fd, F⟩ := T.F_take_way
  have b : Binds K fd ["reader"] [] := F.bindsN fun _ _ _ _ _ _ us hl => match us, hl with | [_], _ => rfl
  refine ok_of F b sc_take_way (fun vs H Q E h => ?_) (fun cdv A outer s H vs Q E hr h => ?_)
  · obtain ⟨r, WS, i, wd, m, ts, rfl, _⟩ := h
    rfl
  · obtain ⟨r, WS, i, wd, m, ts, rfl, hR, L, hi, hm, G, l1, l27, k⟩ := h
    have m3 : m ≤ 3 := by rcases hm with rfl | rfl <;> decide
    have hlt : i < WS.length := (List.getElem?_eq_some_iff.mp hi).1
    have glen := G.len
    refine ⟨_, (pss_cons (ps_set (i := 1) sc_take_way.nd rfl (Or.inl rfl) (pkM0 (ok_Lines_first_word T) hr T.c_Lines T.m_Lines_first_word (pv 0)))
  (pss_cons (ps_set (i := 2) sc_take_way.nd rfl (Or.inl rfl) (pkR (ok_Lines_begin T) hr T.c_Lines T.m_Lines_begin (pv 0) (pa_cons (pv 1) pa_nil)))
  (pss_cons (ps_set (i := 3) sc_take_way.nd rfl (Or.inl rfl) (pkM0 (ok_Words_take_name T) hr T.c_Words T.m_Words_take_name (pv 2)))
  (pss_cons (ps_set (i := 4) sc_take_way.nd rfl (Or.inl rfl) (pkM0 (ok_Words_take_digits T) hr T.c_Words T.m_Words_take_digits (pv 2)))
  (pss_cons (ps_expr (pkM0 (ok_Words_finish T) hr T.c_Words T.m_Words_finish (pv 2)))
  (pss_one (ps_ret (pe_tup (pa_cons (pv 1) (pa_cons (pv 3) (pa_cons (pv 4) pa_nil))))))))))), ?_⟩
    obtain ⟨dx, t, hrr⟩ := hR.ins
    walk_at "rd"
    refine ⟨r, dx, _, rfl, hrr, rfl, ?_⟩
    walk_at "rd"
    refine ⟨r, WS, i, rfl, hR, by omega, L.n, L.ok, fun H1 s1 => ?_⟩
    rw [show fw WS i = wd.word by rw [fw, hi]; rfl]
    have hr1 := hR.same s1
    walk_at "rd"
    refine ⟨r, dx, _, rfl, s1 _ _ hrr, rfl, ?_⟩
    walk_at "rd"
    refine r_begin hr1 (wr := [wd.name, dig wd.table]) hi L.n L.ok fun w2 H2 e2 nw2 ne2 hr2 hw2 => ?_
    have nw := s1.free nw2
    have e2 := (Td.same (x := r) s1).trans e2
    obtain ⟨dw, lw, hwi⟩ := hw2.ins
    walk_at "rd"
    refine ⟨w2, dw, _, rfl, hwi, rfl, ?_⟩
    walk_at "rd"
    refine ⟨w2, i, _, 1, wd.name, rfl, hw2, rfl, G.name, fun H3 e3 hw3 => ?_⟩
    have hr3 := hr2.td hwi ne2.symm e3
    have e3 := e2.new nw e3
    obtain ⟨dw3, lw3, hwi3⟩ := hw3.ins
    walk_at "rd"
    refine ⟨w2, dw3, _, rfl, hwi3, rfl, ?_⟩
    walk_at "rd"
    refine ⟨w2, i, _, 2, wd.table, rfl, hw3, rfl, (fun t ht => ⟨(G.in_ t ht).1, by have := (G.in_ t ht).2; omega⟩), by omega, by omega, fun p H4 e4 hw4 hp4 => ?_⟩
    have hr4 := hr3.td hwi3 ne2.symm e4
    have e4 := e3.new nw e4
    obtain ⟨dw4, lw4, hwi4⟩ := hw4.ins
    walk_at "rd"
    refine ⟨w2, dw4, _, rfl, hwi4, rfl, ?_⟩
    walk_at "rd"
    refine ⟨w2, i, _, rfl, hw4, fun H5 e5 => ?_⟩
    have hr5 := hr4.td hwi4 ne2.symm e5
    have hp5 := e5.tup hwi4 hp4
    have e5 := e4.new nw e5
    walk_at "rd"
    refine ⟨by show 3 ≤ sizeLine; decide, fun q hq => ?_⟩
    have s6 := Same.upd (o := .tup [V.str wd.word, V.str wd.name, V.ref p]) hq
    exact k _ _ (e5.trans (Td.same s6)) (hr5.same s6) (.tup (SqT.of upd_same) (.cons (.str _) (.cons (.str _) (.cons (ints_of (Sd.tup (Sd.of s6) hp5)) .nil))))
end
end Tx

/-! ## Pr13 -/
set_option maxHeartbeats 4000000
/-! Kinds read. -/
namespace Tx
open PySem PySem.Spec PyProof.Rows L2 Gd
local macro_rules | `(tactic| walk_at "rd1") => `(tactic| first
  | ((with_reducible show tVar _ _ _ _); refine r_var (by rfl) ?_)
  | with_reducible refine r_c ?_
  | with_reducible refine r_seq ?_
  | with_reducible refine r_asg ?_
  | with_reducible refine r_name ?_
  | with_reducible refine r_op ?_
  | with_reducible refine r_I0 ?_
  | with_reducible refine r_cons ?_
  | with_reducible refine r_nil ?_
  | with_reducible refine r_call ?_
  | with_reducible refine r_ret ?_
  | with_reducible refine r_cb ?_
  | with_reducible refine r_ifS ?_
  | with_reducible refine r_test ?_
  | with_reducible refine r_bl ?_
  | with_reducible refine r_dget ?_
  | with_reducible refine r_dput ?_
  | ((with_reducible show (∃ k, [V.int _] = [V.int k] ∧ _) ∨ _); refine Or.inl ⟨_, rfl, ?_⟩)
  | with_reducible refine r_lcR ?_
  | with_reducible refine r_lcL ?_
  | with_reducible refine r_lcT ?_
  | with_reducible refine r_m1 ?_
  | with_reducible refine r_gSub ?_
  | with_reducible refine r_forR ?_
  | with_reducible refine r_forL ?_
  | with_reducible refine r_forT ?_
  | with_reducible refine r_bm ?_
  | with_reducible refine r_next ?_
  | with_reducible refine r_B ?_
  | with_reducible refine r_not ?_
  | with_reducible refine r_and ?_
  | with_reducible refine r_or ?_
  | with_reducible refine r_andV ?_
  | with_reducible refine r_orV ?_
  | with_reducible refine r_notV ?_
  | with_reducible refine r_ifE ?_
  | with_reducible refine r_drop ?_
  | with_reducible refine r_tup ?_
  | with_reducible refine r_lst ?_
  | with_reducible refine r_un ?_
  | with_reducible refine r_U ?_)
local macro_rules | `(tactic| walk_at "rd") => `(tactic| repeat walk_at "rd1")
local macro_rules | `(tactic| walk_at "rd1") => `(tactic| first
  | with_reducible refine r_lcS ?_
  | with_reducible refine r_sl ?_
  | with_reducible refine r_noPart ?_
  | with_reducible refine r_partE ?_
  | with_reducible refine r_sfld ?_
  | with_reducible refine r_gc ?_
  | with_reducible refine r_gn ?_
  | with_reducible refine r_forE ?_
  | with_reducible refine r_makeK ?_
  | with_reducible refine r_make ?_
  | with_reducible refine r_fld ?_
  | with_reducible refine r_prop ?_
  | with_reducible refine r_meth ?_
  | with_reducible refine r_js ?_
  | with_reducible refine r_jn ?_
  | with_reducible refine r_fmt ?_
  | with_reducible refine r_chain ?_)
local macro_rules | `(tactic| walk_at "rd1") => `(tactic| first
  | with_reducible refine r_sfa ?_
  | with_reducible refine r_methR ?_)
theorem r_whl {c : TT} {tb : TS} {D : Ends} {σ : L2.St} {H : Hp} (h : ∃ W : Nat → L2.St → Hp → Prop, (∃ m, W m σ H) ∧ ∀ m σ H, W m σ H →
  c σ H fun b H1 => if b = true then ∃ N : L2.St → Hp → Prop, (∀ σ' H', N σ' H' → ∃ m', m' < m ∧ W m' σ' H') ∧ tb { D with nx := N, ct := N, bk := D.nx } σ H1 else D.nx σ H1) : tWhile c tb D σ H := h
/-- a kind that was read, its ways in a list -/
structure ReadK (K : Frg) (H : Hp) (a : Addr) (kd : KD) (p : Addr) : Prop where
  ex : ∃ (ta : Addr) (us : List V), SqT K H a [.str kd.name, .int kd.inputs, .int kd.price, startV kd.start, .ref ta, .ref p] ∧ SqT K H ta (kd.table.map V.int) ∧ H p = some (.lst us) ∧ DpAll K H us (kd.ways.map WD.data)
def kk (kd : KD) : Nat := (wKeeps kd.start).length
theorem kw_len (kd : KD) : (kindWords kd).length = 2 + kk kd + kd.ways.length := by
  unfold kindWords kk
  rw [List.length_cons, List.length_append, List.length_cons, List.length_map]
  omega
/-- the lines of a kind stand from place i on -/
structure Seg (WS : List (List Str)) (i : Nat) (kd : KD) : Prop where
  at_ : ∀ (j : Nat) w, (kindWords kd)[j]? = some w → WS[i + j]? = some w
  nxt : fw WS (i + (kindWords kd).length) ≠ Str.ofString "stands" ∧ fw WS (i + (kindWords kd).length) ≠ Str.ofString "flees"
  le : i + (kindWords kd).length ≤ WS.length
section
variable {WS : List (List Str)} {i : Nat} {kd : KD}
theorem Seg.kind (h : Seg WS i kd) : WS[i]? = some (wKind kd) := h.at_ 0 _ rfl
theorem Seg.keeps (h : Seg WS i kd) {s : Int} (hs : kd.start = some s) : WS[i + 1]? = some [Str.ofString "keeps", num s] := h.at_ 1 _ (by unfold kindWords; rw [hs]; rfl)
theorem Seg.table (h : Seg WS i kd) : WS[i + 1 + kk kd]? = some (wTable kd.table) := by
  have := h.at_ (1 + kk kd) (wTable kd.table) (by
    unfold kindWords kk
    rw [Nat.add_comm, List.getElem?_cons_succ, List.getElem?_append_right (Nat.le_refl _), Nat.sub_self]
    rfl)
  rw [← Nat.add_assoc] at this
  exact this
theorem Seg.way (h : Seg WS i kd) {j : Nat} {w : WD} (hj : kd.ways[j]? = some w) : WS[i + 2 + kk kd + j]? = some (wWay w) := by
  have := h.at_ (2 + kk kd + j) (wWay w) (by
    unfold kindWords kk
    rw [show 2 + (wKeeps kd.start).length + j = ((wKeeps kd.start).length + (j + 1)) + 1 by omega, List.getElem?_cons_succ, List.getElem?_append_right (by omega),
      show (wKeeps kd.start).length + (j + 1) - (wKeeps kd.start).length = j + 1 by omega, List.getElem?_cons_succ, List.getElem?_map, hj]
    rfl)
  rw [show i + (2 + kk kd + j) = i + 2 + kk kd + j by omega] at this
  exact this
theorem ne_kt : Str.ofString "table" ≠ Str.ofString "keeps" := by decide +kernel
end
def spTakeKind (K : Frg) : Sp := fun vs H Q _ => ∃ (r : Addr) (WS : List (List Str)) (i : Nat) (kd : KD) (m : Int), vs = [.ref r] ∧ LinesAt K H r WS i ∧ Ls WS ∧ Seg WS i kd ∧ GoodK m kd ∧
  ∀ a p H', Td r H H' → LinesAt K H' r WS (i + (kindWords kd).length) → H p = none → ReadK K H' a kd p → Q (.ref a) H'
section
variable {P : Program} {w : World} {K : Frg} {mg : Str → Option Value} {base : Heap}
theorem sc_take_kind : FnScope ["reader", "words", "name", "inputs", "price", "start", "table", "ways"] ["reader"] (defScope s_take_kind) := ⟨rfl, rfl, rfl, by decide +kernel, rfl, by decide +kernel, by decide +kernel⟩
theorem ok_take_kind (T : Txt K mg) : Ok P w K mg base 6 (He.ga K "_take_kind") ["reader"] (spTakeKind K) := by
  obtain ⟨fd, F⟩ := T.F_take_kind
  have b : Binds K fd ["reader"] [] := F.bindsN fun _ _ _ _ _ _ us hl => match us, hl with | [_], _ => rfl
  refine ok_of F b sc_take_kind (fun vs H Q E h => ?_) (fun cdv A outer s H vs Q E hr h => ?_)
  · obtain ⟨r, WS, i, kd, m, rfl, _⟩ := h
    rfl
  · obtain ⟨r, WS, i, kd, m, rfl, hR, L, S, G, k⟩ := h
    have hm := G.m_
    have m3 : m ≤ 3 := by rcases hm with rfl | rfl <;> decide
    have l1 : 1 ≤ kd.table.length := by have := sz_lo (b := kd.start.isSome) hm G.inputs; have := G.len; omega
    have l27 : kd.table.length ≤ 27 := by have := sz_hi (b := kd.start.isSome) hm G.inputs; have := G.len; omega
    have in3 : ∀ {ts : List Int}, In m ts → In 3 ts := fun h t ht => ⟨(h t ht).1, by have := (h t ht).2; omega⟩
    have hle := S.le
    have hkl := kw_len kd
    have gi := G.inputs
    refine ⟨_, (pss_cons (ps_set (i := 1) sc_take_kind.nd rfl (Or.inl rfl) (pkR (ok_Lines_begin T) hr T.c_Lines T.m_Lines_begin (pv 0) (pa_cons pe_str pa_nil)))
  (pss_cons (ps_set (i := 2) sc_take_kind.nd rfl (Or.inl rfl) (pkM0 (ok_Words_take_name T) hr T.c_Words T.m_Words_take_name (pv 1)))
  (pss_cons (ps_set (i := 3) sc_take_kind.nd rfl (Or.inl rfl) (pkM (ok_Words_take_number T) hr T.c_Words T.m_Words_take_number (pv 1) (pa_cons pe_int (pa_cons pe_int pa_nil))))
  (pss_cons (ps_set (i := 4) sc_take_kind.nd rfl (Or.inl rfl) (pkM (ok_Words_take_number T) hr T.c_Words T.m_Words_take_number (pv 1) (pa_cons pe_int (pa_cons pe_int pa_nil))))
  (pss_cons (ps_expr (pkM0 (ok_Words_finish T) hr T.c_Words T.m_Words_finish (pv 1)))
  (pss_cons (ps_set (i := 5) sc_take_kind.nd rfl (Or.inl rfl) pe_non)
  (Evl.pss_cut (ps_if (pt_cmpR op_eq (pkM0 (ok_Lines_first_word T) hr T.c_Lines T.m_Lines_first_word (pv 0)) pe_str (by first | exact nomark _ | rfl)) (pss_cons (ps_set (i := 1) sc_take_kind.nd rfl (Or.inl rfl) (pkR (ok_Lines_begin T) hr T.c_Lines T.m_Lines_begin (pv 0) (pa_cons pe_str pa_nil)))
  (pss_cons (ps_set (i := 5) sc_take_kind.nd rfl (Or.inl rfl) (pkM (ok_Words_take_number T) hr T.c_Words T.m_Words_take_number (pv 1) (pa_cons pe_int (pa_cons pe_int pa_nil))))
  (pss_one (ps_expr (pkM0 (ok_Words_finish T) hr T.c_Words T.m_Words_finish (pv 1)))))) pss_nil)
  (pss_cons (ps_set (i := 1) sc_take_kind.nd rfl (Or.inl rfl) (pkR (ok_Lines_begin T) hr T.c_Lines T.m_Lines_begin (pv 0) (pa_cons pe_str pa_nil)))
  (pss_cons (ps_set (i := 6) sc_take_kind.nd rfl (Or.inl rfl) (pkM0 (ok_Words_take_digits T) hr T.c_Words T.m_Words_take_digits (pv 1)))
  (pss_cons (ps_expr (pkM0 (ok_Words_finish T) hr T.c_Words T.m_Words_finish (pv 1)))
  (pss_cons (ps_set (i := 7) sc_take_kind.nd rfl (Or.inl rfl) (pe_lst pa_nil))
  (pss_cons (ps_while PassesOwn.never (pt_cmpR op_in_seq (pkM0 (ok_Lines_first_word T) hr T.c_Lines T.m_Lines_first_word (pv 0)) (pe_tup (pa_cons pe_str (pa_cons pe_str pa_nil))) (by first | exact nomark _ | rfl)) (pss_one (ps_expr (pe_bm PySem.F.plainAttrs_list PySem.F.slot_list_append PySem.F.type_list_append mt_append (pv 7) (pa_cons (pk (ok_take_way T) hr rfl T.g_take_way (pa_cons (pv 0) pa_nil)) pa_nil)))))
  (pss_one (ps_ret (pe_tup (pa_cons (pv 2) (pa_cons (pv 3) (pa_cons (pv 4) (pa_cons (pv 5) (pa_cons (pv 6) (pa_cons (pv 7) pa_nil))))))))))))))))))))), ?_⟩
    obtain ⟨dx, t, hrr⟩ := hR.ins
    walk_at "rd"
    refine ⟨r, dx, _, rfl, hrr, rfl, ?_⟩
    walk_at "rd"
    refine r_begin hR (wr := [kd.name, num kd.inputs, num kd.price]) S.kind L.n L.ok fun w2 H2 e2 nw ne2 hr2 hw2 => ?_
    obtain ⟨dw, lw, hwi⟩ := hw2.ins
    walk_at "rd"
    refine ⟨w2, dw, _, rfl, hwi, rfl, ?_⟩
    walk_at "rd"
    refine ⟨w2, i, _, 1, kd.name, rfl, hw2, rfl, G.name, fun H3 e3 hw3 => ?_⟩
    have hr3 := hr2.td hwi ne2.symm e3
    have e3 := e2.new nw e3
    obtain ⟨dw3, lw3, hwi3⟩ := hw3.ins
    walk_at "rd"
    refine ⟨w2, dw3, _, rfl, hwi3, rfl, ?_⟩
    walk_at "rd"
    refine ⟨w2, i, _, 2, kd.inputs, 0, 2, rfl, hw3, rfl, by omega, by omega, by omega, .inl rfl, fun H4 e4 hw4 => ?_⟩
    have hr4 := hr3.td hwi3 ne2.symm e4
    have e4 := e3.new nw e4
    obtain ⟨dw4, lw4, hwi4⟩ := hw4.ins
    walk_at "rd"
    refine ⟨w2, dw4, _, rfl, hwi4, rfl, ?_⟩
    walk_at "rd"
    refine ⟨w2, i, _, 3, kd.price, 0, 600, rfl, hw4, rfl, G.p0, G.p0, G.p1, .inr (.inr rfl), fun H5 e5 hw5 => ?_⟩
    have hr5 := hr4.td hwi4 ne2.symm e5
    have e5 := e4.new nw e5
    obtain ⟨dw5, lw5, hwi5⟩ := hw5.ins
    walk_at "rd"
    refine ⟨w2, dw5, _, rfl, hwi5, rfl, ?_⟩
    walk_at "rd"
    refine ⟨w2, i, _, rfl, hw5, fun H6 e6 => ?_⟩
    have hr6 := hr5.td hwi5 ne2.symm e6
    have e6 := e5.new nw e6
    walk_at "rd"
    refine ⟨fun σ' H' => ∃ o : Option V, σ' = [some (.ref r), o, some (.str kd.name), some (.int kd.inputs), some (.int kd.price), some (startV kd.start), none, none] ∧ Td r H H' ∧ LinesAt K H' r WS (i + 1 + kk kd), ?_, ?_⟩
    · obtain ⟨dx6, t6, hrr6⟩ := hr6.ins
      walk_at "rd"
      refine ⟨r, dx6, _, rfl, hrr6, rfl, ?_⟩
      walk_at "rd"
      refine ⟨r, WS, i + 1, rfl, hr6, by omega, L.n, L.ok, fun H7 s7 => ?_⟩
      walk_at "rd"
      refine r_eq rfl ?_
      cases hst : kd.start with
      | none =>
        have k0 : kk kd = 0 := by unfold kk; rw [hst]; rfl
        have ht := S.table
        rw [k0] at ht
        rw [show fw WS (i + 1) = Str.ofString "table" by rw [fw, show i + 1 = i + 1 + 0 from rfl, ht]; rfl, decide_eq_false (fun e => ne_kt (V.str.inj e))]
        refine r_bl (r_iF ?_)
        walk_at "rd"
        exact ⟨_, rfl, e6.trans (Td.same s7), by rw [k0]; exact hr6.same s7⟩
      | some x =>
        have k1 : kk kd = 1 := by unfold kk; rw [hst]; rfl
        obtain ⟨x0, x1⟩ := G.start x hst
        have hkp := S.keeps hst
        rw [show fw WS (i + 1) = Str.ofString "keeps" by rw [fw, hkp], decide_eq_true rfl]
        refine r_bl (r_iT ?_)
        have hr7 := hr6.same s7
        have e7 := e6.trans (Td.same s7)
        walk_at "rd"
        refine ⟨r, dx6, _, rfl, s7 _ _ hrr6, rfl, ?_⟩
        walk_at "rd"
        refine r_begin hr7 (wr := [num x]) hkp L.n L.ok fun w3 H8 e8 nw3 ne3 hr8 hw8 => ?_
        have nw3H : H w3 = none := by
          cases q : H w3 with
          | none => rfl
          | some u =>
            rw [e7 w3 u ne3 q] at nw3
            cases nw3
        have e8 := e7.trans e8
        obtain ⟨dw8, lw8, hwi8⟩ := hw8.ins
        walk_at "rd"
        refine ⟨w3, dw8, _, rfl, hwi8, rfl, ?_⟩
        walk_at "rd"
        refine ⟨w3, i + 1, _, 1, x, 0, 2, rfl, hw8, rfl, x0, x0, by omega, .inl rfl, fun H9 e9 hw9 => ?_⟩
        have hr9 := hr8.td hwi8 ne3.symm e9
        have e9 := e8.new nw3H e9
        obtain ⟨dw9, lw9, hwi9⟩ := hw9.ins
        walk_at "rd"
        refine ⟨w3, dw9, _, rfl, hwi9, rfl, ?_⟩
        walk_at "rd"
        refine ⟨w3, i + 1, _, rfl, hw9, fun H10 e10 => ?_⟩
        have hr10 := hr9.td hwi9 ne3.symm e10
        have e10 := e9.new nw3H e10
        walk_at "rd"
        exact ⟨_, rfl, e10, by rw [k1]; exact hr10⟩
    rintro σ' H7 ⟨o, rfl, e7, hr7⟩
    obtain ⟨dx7, t7, hrr7⟩ := hr7.ins
    walk_at "rd"
    refine ⟨r, dx7, _, rfl, hrr7, rfl, ?_⟩
    walk_at "rd"
    refine r_begin hr7 (wr := [dig kd.table]) S.table L.n L.ok fun w3 H8 e8 nw3 ne3 hr8 hw8 => ?_
    have nw3H : H w3 = none := by
      cases q : H w3 with
      | none => rfl
      | some u =>
        rw [e7 w3 u ne3 q] at nw3
        cases nw3
    have e8 := e7.trans e8
    obtain ⟨dw8, lw8, hwi8⟩ := hw8.ins
    walk_at "rd"
    refine ⟨w3, dw8, _, rfl, hwi8, rfl, ?_⟩
    walk_at "rd"
    refine ⟨w3, i + 1 + kk kd, _, 1, kd.table, rfl, hw8, rfl, in3 G.in_, l1, l27, fun ta H9 e9 hw9 hta => ?_⟩
    have hr9 := hr8.td hwi8 ne3.symm e9
    have e9 := e8.new nw3H e9
    obtain ⟨dw9, lw9, hwi9⟩ := hw9.ins
    walk_at "rd"
    refine ⟨w3, dw9, _, rfl, hwi9, rfl, ?_⟩
    walk_at "rd"
    refine ⟨w3, i + 1 + kk kd, _, rfl, hw9, fun H10 e10 => ?_⟩
    have hr10 := hr9.td hwi9 ne3.symm e10
    have hta := e10.tup hwi9 hta
    have e10 := e9.new nw3H e10
    walk_at "rd"
    refine ⟨by decide, fun l nl => ?_⟩
    have s11 := Same.upd (o := .lst []) nl
    have hr11 := hr10.same s11
    have hta := Sd.tup (Sd.of s11) hta
    have hL : upd H10 l (.lst []) l = some (.lst []) := upd_same
    have nlr : l ≠ r := fun z => by
      obtain ⟨a, b, c⟩ := hr10.ins
      rw [z, c] at nl
      cases nl
    have nlH : H l = none := by
      cases q : H l with
      | none => rfl
      | some u =>
        rw [e10 l u nlr q] at nl
        cases nl
    have e11 := e10.trans (Td.same s11)
    generalize upd H10 l (.lst []) = H11 at s11 hr11 hta hL e11 ⊢
    walk_at "rd"
    refine r_whl ?_
    refine ⟨fun n σ' H' => ∃ (j : Nat) (us : List V), n = kd.ways.length - j ∧ j ≤ kd.ways.length ∧ σ' = [some (.ref r), some (.ref w3), some (.str kd.name), some (.int kd.inputs), some (.int kd.price), some (startV kd.start), some (.ref ta), some (.ref l)] ∧
      Td r H H' ∧ LinesAt K H' r WS (i + 2 + kk kd + j) ∧ H' l = some (.lst us) ∧ DpAll K H' us ((kd.ways.take j).map WD.data) ∧ SqT K H' ta (kd.table.map V.int), ⟨_, 0, [], rfl, Nat.zero_le _, rfl, e11, (by rw [show i + 2 + kk kd + 0 = i + 1 + kk kd + 1 by omega]; exact hr11), hL, .nil, hta⟩, ?_⟩
    rintro n σ' H' ⟨j, us, rfl, hj, rfl, e', hr', hl', hus, hta⟩
    obtain ⟨dx', t', hrr'⟩ := hr'.ins
    have hul : us.length = j := by rw [DpAll.len hus, List.length_map, List.length_take]; omega
    have l6 := G.most
    walk_at "rd"
    refine ⟨r, dx', _, rfl, hrr', rfl, ?_⟩
    walk_at "rd"
    refine ⟨r, WS, _, rfl, hr', by omega, L.n, L.ok, fun H12 s12 => ?_⟩
    walk_at "rd"
    refine ⟨by show 2 ≤ sizeLine; decide, fun q hq => ?_⟩
    have s13 := s12.trans (Same.upd (o := .tup [V.str (Str.ofString "stands"), V.str (Str.ofString "flees")]) hq)
    refine r_in (ls := [Str.ofString "stands", Str.ofString "flees"]) (.inr (SqT.of upd_same)) ?_
    generalize upd H12 q (.tup [V.str (Str.ofString "stands"), V.str (Str.ofString "flees")]) = H13 at s13 ⊢
    by_cases hlt : j < kd.ways.length
    · have hw := S.way (List.getElem?_eq_getElem hlt)
      have Gw := G.ways kd.ways[j] (List.getElem_mem hlt)
      rw [show fw WS (i + 2 + kk kd + j) = kd.ways[j].word by rw [fw, hw]; rfl, decide_eq_true (in_sf Gw.word)]
      refine r_bl (r_iT ⟨fun σ' H' => j + 1 ≤ kd.ways.length ∧ ∃ us : List V, σ' = [some (.ref r), some (.ref w3), some (.str kd.name), some (.int kd.inputs), some (.int kd.price), some (startV kd.start), some (.ref ta), some (.ref l)] ∧
        Td r H H' ∧ LinesAt K H' r WS (i + 2 + kk kd + (j + 1)) ∧ H' l = some (.lst us) ∧ DpAll K H' us ((kd.ways.take (j + 1)).map WD.data) ∧ SqT K H' ta (kd.table.map V.int),
        fun σ' H' ⟨h1, us, h2⟩ => ⟨_, by omega, j + 1, us, rfl, h1, h2⟩, ?_⟩)
      walk_at "rd"
      refine r_tyL (s13 _ _ hl') ?_
      walk_at "rd"
      refine ⟨r, WS, _, kd.ways[j], m, kd.table, rfl, hr'.same s13, L, hw, hm, Gw, l1, l27, fun v H14 e14 hr14 hv => ?_⟩
      have hl14 := e14 _ _ nlr (s13 _ _ hl')
      have hx13 := s13 _ _ hrr'
      have up := Sd.lst (o := .lst (us ++ [v])) hl14
      walk_at "rd"
      refine r_append hl14 (by omega) ?_
      walk_at "rd"
      refine ⟨hlt, us ++ [v], rfl, ?_, ?_, upd_same, ?_, ?_⟩
      · intro a o n h
        have na : a ≠ l := fun z => by rw [z, nlH] at h; cases h
        rw [upd_ne na]
        exact e14 a o n (s13 _ _ (e' a o n h))
      · obtain ⟨a, b, c, d⟩ := hr14.ex
        exact ⟨a, b, by rw [upd_ne nlr.symm]; exact c, up.tup d⟩
      · rw [List.take_succ, List.getElem?_eq_getElem hlt, Option.toList_some, List.map_append]
        refine Tx.DpAll.append (DpAll.sd up _ _ (flat_wds _) (DpAll.ts (fun _ _ z => e14.tup hx13 z) _ _ (flat_wds _) (DpAll.sd (Sd.of s13) _ _ (flat_wds _) hus))) (.cons (Dp.sd up _ _ (flat_wd _) hv) .nil)
      · exact up.tup (e14.tup hx13 (Sd.tup (Sd.of s13) hta))
    · have hj2 : j = kd.ways.length := by omega
      subst hj2
      rw [show i + 2 + kk kd + kd.ways.length = i + (kindWords kd).length by omega] at hr' ⊢
      obtain ⟨n1, n2⟩ := S.nxt
      rw [decide_eq_false (fun h => by
        rcases List.mem_cons.mp h with h | h
        · exact n1 h
        · exact n2 (List.mem_singleton.mp h))]
      refine r_bl (r_iF ?_)
      walk_at "rd"
      refine ⟨by show 6 ≤ sizeLine; decide, fun p2 hp2 => ?_⟩
      have s15 := s13.trans (Same.upd (o := .tup [V.str kd.name, V.int kd.inputs, V.int kd.price, startV kd.start, V.ref ta, V.ref l]) hp2)
      rw [List.take_length] at hus
      exact k p2 l _ (e'.trans (Td.same s15)) (hr'.same s15) nlH ⟨ta, us, SqT.of upd_same, Sd.tup (Sd.of s15) hta, s15 _ _ hl', DpAll.sd (Sd.of s15) _ _ (flat_wds _) hus⟩
end
end Tx

/-! ## Pr14 -/
set_option maxHeartbeats 4000000
/-! The lines of a catalogue can be read; a catalogue read. -/
namespace Tx
open PySem PySem.Spec PyProof.Rows L2 Gd
local macro_rules | `(tactic| walk_at "rd1") => `(tactic| first
  | ((with_reducible show tVar _ _ _ _); refine r_var (by rfl) ?_)
  | with_reducible refine r_c ?_
  | with_reducible refine r_seq ?_
  | with_reducible refine r_asg ?_
  | with_reducible refine r_name ?_
  | with_reducible refine r_op ?_
  | with_reducible refine r_I0 ?_
  | with_reducible refine r_cons ?_
  | with_reducible refine r_nil ?_
  | with_reducible refine r_call ?_
  | with_reducible refine r_ret ?_
  | with_reducible refine r_cb ?_
  | with_reducible refine r_ifS ?_
  | with_reducible refine r_test ?_
  | with_reducible refine r_bl ?_
  | with_reducible refine r_dget ?_
  | with_reducible refine r_dput ?_
  | ((with_reducible show (∃ k, [V.int _] = [V.int k] ∧ _) ∨ _); refine Or.inl ⟨_, rfl, ?_⟩)
  | with_reducible refine r_lcR ?_
  | with_reducible refine r_lcL ?_
  | with_reducible refine r_lcT ?_
  | with_reducible refine r_m1 ?_
  | with_reducible refine r_gSub ?_
  | with_reducible refine r_forR ?_
  | with_reducible refine r_forL ?_
  | with_reducible refine r_forT ?_
  | with_reducible refine r_bm ?_
  | with_reducible refine r_next ?_
  | with_reducible refine r_B ?_
  | with_reducible refine r_not ?_
  | with_reducible refine r_and ?_
  | with_reducible refine r_or ?_
  | with_reducible refine r_andV ?_
  | with_reducible refine r_orV ?_
  | with_reducible refine r_notV ?_
  | with_reducible refine r_ifE ?_
  | with_reducible refine r_drop ?_
  | with_reducible refine r_tup ?_
  | with_reducible refine r_lst ?_
  | with_reducible refine r_un ?_
  | with_reducible refine r_U ?_)
local macro_rules | `(tactic| walk_at "rd") => `(tactic| repeat walk_at "rd1")
local macro_rules | `(tactic| walk_at "rd1") => `(tactic| first
  | with_reducible refine r_lcS ?_
  | with_reducible refine r_sl ?_
  | with_reducible refine r_noPart ?_
  | with_reducible refine r_partE ?_
  | with_reducible refine r_sfld ?_
  | with_reducible refine r_gc ?_
  | with_reducible refine r_gn ?_
  | with_reducible refine r_forE ?_
  | with_reducible refine r_makeK ?_
  | with_reducible refine r_make ?_
  | with_reducible refine r_fld ?_
  | with_reducible refine r_prop ?_
  | with_reducible refine r_meth ?_
  | with_reducible refine r_js ?_
  | with_reducible refine r_jn ?_
  | with_reducible refine r_fmt ?_
  | with_reducible refine r_chain ?_)
local macro_rules | `(tactic| walk_at "rd1") => `(tactic| first
  | with_reducible refine r_sfa ?_
  | with_reducible refine r_methR ?_)
section
variable {m : Int} {ks : List KD} {j : Nat}
def off (m : Int) (ks : List KD) (j : Nat) : Nat := (allWords m (ks.take j)).length
theorem aw_split (m : Int) (ks : List KD) (j : Nat) : allWords m ks = allWords m (ks.take j) ++ ((ks.drop j).map kindWords).flatten := by
  unfold allWords
  rw [List.cons_append, ← List.flatten_append, ← List.map_append, List.take_append_drop]
theorem off_succ (h : j < ks.length) : off m ks (j + 1) = off m ks j + (kindWords ks[j]).length := by
  unfold off allWords
  rw [List.take_succ, List.getElem?_eq_getElem h, Option.toList_some, List.map_append, List.flatten_append]
  simp only [List.length_cons, List.length_append, List.map_cons, List.map_nil, List.flatten_cons, List.flatten_nil, List.append_nil]
  omega
theorem off_all : off m ks ks.length = (allWords m ks).length := by rw [off, List.take_length]
theorem off_zero : off m ks 0 = 1 := rfl
theorem off_at (h : j < ks.length) {q : Nat} {w : List Str} (hq : (kindWords ks[j])[q]? = some w) : (allWords m ks)[off m ks j + q]? = some w := by
  rw [aw_split m ks j, off, List.getElem?_append_right (Nat.le_add_right _ _), Nat.add_sub_cancel_left, List.drop_eq_getElem_cons h, List.map_cons, List.flatten_cons,
    List.getElem?_append_left (List.getElem?_eq_some_iff.mp hq).1]
  exact hq
theorem off_le (h : j ≤ ks.length) : off m ks j ≤ (allWords m ks).length := by
  have := congrArg List.length (aw_split m ks j)
  rw [List.length_append] at this
  unfold off
  omega
theorem fw_kind (h : j < ks.length) : fw (allWords m ks) (off m ks j) = Str.ofString "kind" := by
  have := off_at (m := m) h (q := 0) (w := wKind ks[j]) rfl
  rw [fw, show off m ks j = off m ks j + 0 from rfl, this]
  rfl
theorem fw_end : fw (allWords m ks) (off m ks ks.length) = Str.ofString "" := by
  rw [fw, off_all, List.getElem?_eq_none (Nat.le_refl _)]
theorem seg_at (h : j < ks.length) : Seg (allWords m ks) (off m ks j) ks[j] := by
  refine ⟨fun q w hq => off_at h hq, ?_, ?_⟩
  · rw [← off_succ h]
    by_cases h2 : j + 1 < ks.length
    · rw [fw_kind h2]
      exact ⟨by decide +kernel, by decide +kernel⟩
    · have : j + 1 = ks.length := by omega
      rw [this, fw_end]
      exact ⟨by decide +kernel, by decide +kernel⟩
  · rw [← off_succ h]
    exact off_le h
end
theorem num_sp {n : Int} (h0 : 0 ≤ n) (h1 : n ≤ 600) : 32 ∉ (num n).cps.toList := by
  obtain ⟨n, rfl⟩ : ∃ m : Nat, n = (m : Int) := ⟨n.toNat, by omega⟩
  intro h
  have := num_digits n (by omega) 32 h
  revert this
  decide +kernel
theorem low_sp {s : Str} (h : Low s) : 32 ∉ s.cps.toList := fun hm => by have := (h 32 hm).1; omega
theorem dig_sp {ts : List Int} : 32 ∉ (dig ts).cps.toList := fun h => by
  rw [dig_cps] at h
  obtain ⟨t, _, e⟩ := List.mem_map.mp h
  omega
theorem wok2 {a b : Str} (ha : 32 ∉ a.cps.toList) (hb : 32 ∉ b.cps.toList) (la : a.length ≤ 100) (lb : b.length ≤ 100) : WOk [a, b] := by
  refine ⟨by simp, fun w hw => ?_, ?_, by show 2 ≤ 100; decide⟩
  · simp only [List.mem_cons, List.not_mem_nil, or_false] at hw
    rcases hw with rfl | rfl
    · exact ha
    · exact hb
  · rw [line2, len_add, len_add, sp1_len]
    omega
theorem wok3 {a b c : Str} (ha : 32 ∉ a.cps.toList) (hb : 32 ∉ b.cps.toList) (hc : 32 ∉ c.cps.toList) (la : a.length ≤ 100) (lb : b.length ≤ 100) (lc : c.length ≤ 100) : WOk [a, b, c] := by
  refine ⟨by simp, fun w hw => ?_, ?_, by show 3 ≤ 100; decide⟩
  · simp only [List.mem_cons, List.not_mem_nil, or_false] at hw
    rcases hw with rfl | rfl | rfl
    · exact ha
    · exact hb
    · exact hc
  · rw [line3, len_add, len_add, len_add, len_add, sp1_len]
    omega
theorem wok4 {a b c d : Str} (ha : 32 ∉ a.cps.toList) (hb : 32 ∉ b.cps.toList) (hc : 32 ∉ c.cps.toList) (hd : 32 ∉ d.cps.toList) (la : a.length ≤ 100) (lb : b.length ≤ 100) (lc : c.length ≤ 100) (ld : d.length ≤ 100) : WOk [a, b, c, d] := by
  refine ⟨by simp, fun w hw => ?_, ?_, by show 4 ≤ 100; decide⟩
  · simp only [List.mem_cons, List.not_mem_nil, or_false] at hw
    rcases hw with rfl | rfl | rfl | rfl
    · exact ha
    · exact hb
    · exact hc
    · exact hd
  · rw [line4, len_add, len_add, len_add, len_add, len_add, len_add, sp1_len]
    omega
theorem wok_kind {m : Int} {kd : KD} (G : GoodK m kd) : ∀ w ∈ kindWords kd, WOk w := by
  have hm := G.m_
  have m3 : m ≤ 3 := by rcases hm with rfl | rfl <;> decide
  have l27 : kd.table.length ≤ 27 := by have := sz_hi (b := kd.start.isSome) hm G.inputs; have := G.len; omega
  have gi := G.inputs
  have p0 := G.p0
  have p1 := G.p1
  have n8 := G.name.hi
  have li := num_len (i := kd.inputs) (by omega) (by omega)
  have lp := num_len p0 p1
  intro w hw
  unfold kindWords at hw
  rcases List.mem_cons.mp hw with rfl | hw
  · exact wok4 (by decide +kernel) (low_sp G.name.low) (num_sp (by omega) (by omega)) (num_sp p0 p1) (by decide +kernel) (by omega) (by omega) (by omega)
  rcases List.mem_append.mp hw with hw | hw
  · cases hst : kd.start with
    | none => rw [hst] at hw; cases hw
    | some x =>
      rw [hst] at hw
      obtain ⟨x0, x1⟩ := G.start x hst
      have lx := num_len (i := x) x0 (by omega)
      rw [List.mem_singleton.mp hw]
      exact wok2 (by decide +kernel) (num_sp x0 (by omega)) (by decide +kernel) (by omega)
  rcases List.mem_cons.mp hw with rfl | hw
  · exact wok2 (by decide +kernel) dig_sp (by decide +kernel) (by rw [dig_len]; omega)
  · obtain ⟨wd, hwd, rfl⟩ := List.mem_map.mp hw
    have Gw := G.ways wd hwd
    have w8 := Gw.name.hi
    have wl := Gw.len
    have hs : 32 ∉ wd.word.cps.toList ∧ wd.word.length ≤ 100 := by
      rcases Gw.word with e | e <;> rw [e] <;> exact ⟨by decide +kernel, by decide +kernel⟩
    exact wok3 hs.1 (low_sp Gw.name.low) dig_sp hs.2 (by omega) (by rw [dig_len]; omega)
theorem ls_all {m : Int} {ks : List KD} (G : GoodT m ks) (l8 : ks.length ≤ 8) : Ls (allWords m ks) := by
  have hm := G.m_
  have m2 : 2 ≤ m := by rcases hm with rfl | rfl <;> decide
  have m3 : m ≤ 3 := by rcases hm with rfl | rfl <;> decide
  refine ⟨?_, fun w hw => ?_⟩
  · have := lines_len (m := m) G.good
    unfold linesOf at this
    rw [List.length_map] at this
    omega
  · unfold allWords at hw
    rcases List.mem_cons.mp hw with rfl | hw
    · have := num_len (i := m) (by omega) (by omega)
      exact wok2 (by decide +kernel) (num_sp (by omega) (by omega)) (by decide +kernel) (by omega)
    · obtain ⟨l, hl, hw⟩ := List.mem_flatten.mp hw
      obtain ⟨kd, hkd, rfl⟩ := List.mem_map.mp hl
      exact wok_kind (G.good kd hkd) w hw
end Tx

/-! ## Pr15 -/
set_option maxHeartbeats 4000000
/-! A catalogue read. -/
namespace Tx
open PySem PySem.Spec PyProof.Rows L2 Gd
local macro_rules | `(tactic| walk_at "rd1") => `(tactic| first
  | ((with_reducible show tVar _ _ _ _); refine r_var (by rfl) ?_)
  | with_reducible refine r_c ?_
  | with_reducible refine r_seq ?_
  | with_reducible refine r_asg ?_
  | with_reducible refine r_name ?_
  | with_reducible refine r_op ?_
  | with_reducible refine r_I0 ?_
  | with_reducible refine r_cons ?_
  | with_reducible refine r_nil ?_
  | with_reducible refine r_call ?_
  | with_reducible refine r_ret ?_
  | with_reducible refine r_cb ?_
  | with_reducible refine r_ifS ?_
  | with_reducible refine r_test ?_
  | with_reducible refine r_bl ?_
  | with_reducible refine r_dget ?_
  | with_reducible refine r_dput ?_
  | ((with_reducible show (∃ k, [V.int _] = [V.int k] ∧ _) ∨ _); refine Or.inl ⟨_, rfl, ?_⟩)
  | with_reducible refine r_lcR ?_
  | with_reducible refine r_lcL ?_
  | with_reducible refine r_lcT ?_
  | with_reducible refine r_m1 ?_
  | with_reducible refine r_gSub ?_
  | with_reducible refine r_forR ?_
  | with_reducible refine r_forL ?_
  | with_reducible refine r_forT ?_
  | with_reducible refine r_bm ?_
  | with_reducible refine r_next ?_
  | with_reducible refine r_B ?_
  | with_reducible refine r_not ?_
  | with_reducible refine r_and ?_
  | with_reducible refine r_or ?_
  | with_reducible refine r_andV ?_
  | with_reducible refine r_orV ?_
  | with_reducible refine r_notV ?_
  | with_reducible refine r_ifE ?_
  | with_reducible refine r_drop ?_
  | with_reducible refine r_tup ?_
  | with_reducible refine r_lst ?_
  | with_reducible refine r_un ?_
  | with_reducible refine r_U ?_)
local macro_rules | `(tactic| walk_at "rd") => `(tactic| repeat walk_at "rd1")
local macro_rules | `(tactic| walk_at "rd1") => `(tactic| first
  | with_reducible refine r_lcS ?_
  | with_reducible refine r_sl ?_
  | with_reducible refine r_noPart ?_
  | with_reducible refine r_partE ?_
  | with_reducible refine r_sfld ?_
  | with_reducible refine r_gc ?_
  | with_reducible refine r_gn ?_
  | with_reducible refine r_forE ?_
  | with_reducible refine r_makeK ?_
  | with_reducible refine r_make ?_
  | with_reducible refine r_fld ?_
  | with_reducible refine r_prop ?_
  | with_reducible refine r_meth ?_
  | with_reducible refine r_js ?_
  | with_reducible refine r_jn ?_
  | with_reducible refine r_fmt ?_
  | with_reducible refine r_chain ?_)
local macro_rules | `(tactic| walk_at "rd1") => `(tactic| first
  | with_reducible refine r_sfa ?_
  | with_reducible refine r_methR ?_)
theorem ne_kindE : ¬ (V.str (Str.ofString "") = V.str (Str.ofString "kind")) := fun e => absurd (V.str.inj e) (by decide +kernel)
/-- what was read of kinds -/
structure ReadKs (K : Frg) (H : Hp) (l : Addr) (as : List Addr) (ks : List KD) : Prop where
  len : as.length = ks.length
  at_ : ∀ (i : Nat) a k, as[i]? = some a → ks[i]? = some k → ∃ p, p ≠ l ∧ ReadK K H a k p
def spTakeCat (K : Frg) : Sp := fun vs H Q _ => ∃ (r : Addr) (m : Int) (ks : List KD), vs = [.ref r] ∧ LinesAt K H r (allWords m ks) 0 ∧ GoodT m ks ∧ ks.length ≤ 8 ∧
  ∀ a l as H', Td r H H' → LinesAt K H' r (allWords m ks) (allWords m ks).length → SqT K H' a [.int m, .ref l] → H' l = some (.lst (as.map V.ref)) → ReadKs K H' l as ks → Q (.ref a) H'
section
variable {P : Program} {w : World} {K : Frg} {mg : Str → Option Value} {base : Heap}
theorem ReadK.move {H H' : Hp} {a : Addr} {kd : KD} {p l : Addr} (h : ReadK K H a kd p) (ts : ∀ a xs, SqT K H a xs → SqT K H' a xs) (hl : ∀ xs, H p = some (.lst xs) → H' p = some (.lst xs)) : ReadK K H' a kd p := by
  obtain ⟨ta, us, a, b, c, d⟩ := h.ex
  exact ⟨ta, us, ts _ _ a, ts _ _ b, hl _ c, DpAll.ts ts _ _ (flat_wds _) d⟩
theorem sc_take_catalogue : FnScope ["reader", "words", "signs", "kinds"] ["reader"] (defScope s_take_catalogue) := ⟨rfl, rfl, rfl, by decide +kernel, rfl, by decide +kernel, by decide +kernel⟩
theorem ok_take_catalogue (T : Txt K mg) : Ok P w K mg base 7 (He.ga K "take_catalogue") ["reader"] (spTakeCat K) := by
  obtain ⟨fd, F⟩ := T.F_take_catalogue
  have b : Binds K fd ["reader"] [] := F.bindsN fun _ _ _ _ _ _ us hl => match us, hl with | [_], _ => rfl
  refine ok_of F b sc_take_catalogue (fun vs H Q E h => ?_) (fun cdv A outer s H vs Q E hr h => ?_)
  · obtain ⟨r, m, ks, rfl, _⟩ := h
    rfl
  · obtain ⟨r, m, ks, rfl, hR, G, l8, k⟩ := h
    have L := ls_all G l8
    have hm := G.m_
    have m2 : 2 ≤ m := by rcases hm with rfl | rfl <;> decide
    have m3 : m ≤ 3 := by rcases hm with rfl | rfl <;> decide
    refine ⟨_, (pss_cons (ps_set (i := 1) sc_take_catalogue.nd rfl (Or.inl rfl) (pkR (ok_Lines_begin T) hr T.c_Lines T.m_Lines_begin (pv 0) (pa_cons pe_str pa_nil)))
  (pss_cons (ps_set (i := 2) sc_take_catalogue.nd rfl (Or.inl rfl) (pkM (ok_Words_take_number T) hr T.c_Words T.m_Words_take_number (pv 1) (pa_cons pe_int (pa_cons pe_int pa_nil))))
  (pss_cons (ps_expr (pkM0 (ok_Words_finish T) hr T.c_Words T.m_Words_finish (pv 1)))
  (pss_cons (ps_set (i := 3) sc_take_catalogue.nd rfl (Or.inl rfl) (pe_lst pa_nil))
  (pss_cons (ps_while PassesOwn.never (pt_cmpR op_eq (pkM0 (ok_Lines_first_word T) hr T.c_Lines T.m_Lines_first_word (pv 0)) pe_str (by first | exact nomark _ | rfl)) (pss_one (ps_expr (pe_bm PySem.F.plainAttrs_list PySem.F.slot_list_append PySem.F.type_list_append mt_append (pv 3) (pa_cons (pk (ok_take_kind T) hr rfl T.g_take_kind (pa_cons (pv 0) pa_nil)) pa_nil)))))
  (pss_one (ps_ret (pe_tup (pa_cons (pv 2) (pa_cons (pv 3) pa_nil)))))))))), ?_⟩
    obtain ⟨dx, t, hrr⟩ := hR.ins
    walk_at "rd"
    refine ⟨r, dx, _, rfl, hrr, rfl, ?_⟩
    walk_at "rd"
    refine r_begin hR (wr := [num m]) rfl L.n L.ok fun w2 H2 e2 nw ne2 hr2 hw2 => ?_
    obtain ⟨dw, lw, hwi⟩ := hw2.ins
    walk_at "rd"
    refine ⟨w2, dw, _, rfl, hwi, rfl, ?_⟩
    walk_at "rd"
    refine ⟨w2, 0, _, 1, m, 2, 3, rfl, hw2, rfl, by omega, m2, m3, .inr (.inl rfl), fun H3 e3 hw3 => ?_⟩
    have hr3 := hr2.td hwi ne2.symm e3
    have e3 := e2.new nw e3
    obtain ⟨dw3, lw3, hwi3⟩ := hw3.ins
    walk_at "rd"
    refine ⟨w2, dw3, _, rfl, hwi3, rfl, ?_⟩
    walk_at "rd"
    refine ⟨w2, 0, _, rfl, hw3, fun H4 e4 => ?_⟩
    have hr4 := hr3.td hwi3 ne2.symm e4
    have e4 := e3.new nw e4
    walk_at "rd"
    refine ⟨by decide, fun l nl => ?_⟩
    have s5 := Same.upd (o := .lst []) nl
    have hr5 := hr4.same s5
    have hL : upd H4 l (.lst []) l = some (.lst []) := upd_same
    have nlr : l ≠ r := fun z => by
      obtain ⟨a, b, c⟩ := hr4.ins
      rw [z, c] at nl
      cases nl
    have nlH : H l = none := by
      cases q : H l with
      | none => rfl
      | some u =>
        rw [e4 l u nlr q] at nl
        cases nl
    have e5 := e4.trans (Td.same s5)
    generalize upd H4 l (.lst []) = H5 at s5 hr5 hL e5 ⊢
    walk_at "rd"
    refine r_whl ?_
    refine ⟨fun n σ' H' => ∃ (j : Nat) (as : List Addr), n = ks.length - j ∧ j ≤ ks.length ∧ σ' = [some (.ref r), some (.ref w2), some (.int m), some (.ref l)] ∧
      Td r H H' ∧ LinesAt K H' r (allWords m ks) (off m ks j) ∧ H' l = some (.lst (as.map V.ref)) ∧ ReadKs K H' l as (ks.take j), ⟨_, 0, [], rfl, Nat.zero_le _, rfl, e5, hr5, hL, ⟨rfl, fun i a k h => by cases h⟩⟩, ?_⟩
    rintro n σ' H' ⟨j, as, rfl, hj, rfl, e', hr', hl', hks⟩
    obtain ⟨dx', t', hrr'⟩ := hr'.ins
    have hal : as.length = j := by rw [hks.len, List.length_take]; omega
    walk_at "rd"
    refine ⟨r, dx', _, rfl, hrr', rfl, ?_⟩
    walk_at "rd"
    refine ⟨r, _, _, rfl, hr', off_le hj, L.n, L.ok, fun H12 s12 => ?_⟩
    walk_at "rd"
    refine r_eq rfl ?_
    by_cases hlt : j < ks.length
    · rw [fw_kind hlt, decide_eq_true rfl]
      refine r_bl (r_iT ⟨fun σ' H' => j + 1 ≤ ks.length ∧ ∃ as : List Addr, σ' = [some (.ref r), some (.ref w2), some (.int m), some (.ref l)] ∧
        Td r H H' ∧ LinesAt K H' r (allWords m ks) (off m ks (j + 1)) ∧ H' l = some (.lst (as.map V.ref)) ∧ ReadKs K H' l as (ks.take (j + 1)),
        fun σ' H' ⟨h1, as, h2⟩ => ⟨_, by omega, j + 1, as, rfl, h1, h2⟩, ?_⟩)
      walk_at "rd"
      refine r_tyL (s12 _ _ hl') ?_
      walk_at "rd"
      refine ⟨r, _, _, ks[j], m, rfl, hr'.same s12, L, seg_at hlt, G.good _ (List.getElem_mem hlt), fun a p H14 e14 hr14 np hk14 => ?_⟩
      have hl14 := e14 _ _ nlr (s12 _ _ hl')
      have hx12 := s12 _ _ hrr'
      have npl : p ≠ l := fun z => by rw [z, s12 _ _ hl'] at np; cases np
      have up := Sd.lst (o := .lst (as.map V.ref ++ [V.ref a])) hl14
      rw [← off_succ hlt] at hr14
      walk_at "rd"
      refine r_append hl14 (by rw [List.length_map]; omega) ?_
      walk_at "rd"
      refine ⟨hlt, as ++ [a], rfl, ?_, ?_, by rw [upd_same, List.map_append]; rfl, ⟨by rw [List.length_append, hal, List.length_take]; show j + 1 = _; omega, fun i b kd hb hkd => ?_⟩⟩
      · intro a o n h
        have na : a ≠ l := fun z => by rw [z, nlH] at h; cases h
        rw [upd_ne na]
        exact e14 a o n (s12 _ _ (e' a o n h))
      · obtain ⟨a, b, c, d⟩ := hr14.ex
        exact ⟨a, b, by rw [upd_ne nlr.symm]; exact c, up.tup d⟩
      · rw [List.take_succ, List.getElem?_eq_getElem hlt, Option.toList_some] at hkd
        by_cases hi : i < j
        · rw [List.getElem?_append_left (by omega)] at hb
          rw [List.getElem?_append_left (by rw [List.length_take]; omega)] at hkd
          obtain ⟨q, hq, hk⟩ := hks.at_ i b kd hb hkd
          refine ⟨q, hq, hk.move (l := l) (fun a xs z => up.tup (e14.tup hx12 (Sd.tup (Sd.of s12) z))) fun xs z => ?_⟩
          rw [upd_ne hq]
          refine e14 _ _ (fun zz => ?_) (s12 _ _ z)
          rw [zz, hrr'] at z
          cases z
        · have hi2 : i = j := by
            have := (List.getElem?_eq_some_iff.mp hb).1
            rw [List.length_append, hal] at this
            simp at this
            omega
          subst hi2
          rw [List.getElem?_append_right (by omega), hal, Nat.sub_self] at hb
          cases (show some a = some b from hb)
          rw [List.getElem?_append_right (by rw [List.length_take]; omega), show i - (ks.take i).length = 0 by rw [List.length_take]; omega] at hkd
          cases (show some ks[i] = some kd from hkd)
          refine ⟨p, npl, hk14.move (l := l) (fun a xs z => up.tup z) fun xs z => ?_⟩
          rw [upd_ne npl]
          exact z
    · have hj2 : j = ks.length := by omega
      subst hj2
      rw [fw_end, decide_eq_false ne_kindE]
      refine r_bl (r_iF ?_)
      walk_at "rd"
      refine ⟨by show 2 ≤ sizeLine; decide, fun p2 hp2 => ?_⟩
      have s15 := s12.trans (Same.upd (o := .tup [V.int m, V.ref l]) hp2)
      rw [List.take_length] at hks
      rw [off_all] at hr'
      refine k p2 l as _ (e'.trans (Td.same s15)) (hr'.same s15) (SqT.of upd_same) (s15 _ _ hl') ⟨hks.len, fun i a kd h1 h2 => ?_⟩
      obtain ⟨q, hq, hk⟩ := hks.at_ i a kd h1 h2
      exact ⟨q, hq, hk.move (l := l) (fun a xs z => Sd.tup (Sd.of s15) z) fun xs z => s15 _ _ z⟩
end
end Tx

/-! ## Pr16 -/
set_option maxHeartbeats 4000000
/-! A catalogue read. -/
namespace Tx
open PySem PySem.Spec PyProof.Rows L2 Gd
local macro_rules | `(tactic| walk_at "rd1") => `(tactic| first
  | ((with_reducible show tVar _ _ _ _); refine r_var (by rfl) ?_)
  | with_reducible refine r_c ?_
  | with_reducible refine r_seq ?_
  | with_reducible refine r_asg ?_
  | with_reducible refine r_name ?_
  | with_reducible refine r_op ?_
  | with_reducible refine r_I0 ?_
  | with_reducible refine r_cons ?_
  | with_reducible refine r_nil ?_
  | with_reducible refine r_call ?_
  | with_reducible refine r_ret ?_
  | with_reducible refine r_cb ?_
  | with_reducible refine r_ifS ?_
  | with_reducible refine r_test ?_
  | with_reducible refine r_bl ?_
  | with_reducible refine r_dget ?_
  | with_reducible refine r_dput ?_
  | ((with_reducible show (∃ k, [V.int _] = [V.int k] ∧ _) ∨ _); refine Or.inl ⟨_, rfl, ?_⟩)
  | with_reducible refine r_lcR ?_
  | with_reducible refine r_lcL ?_
  | with_reducible refine r_lcT ?_
  | with_reducible refine r_m1 ?_
  | with_reducible refine r_gSub ?_
  | with_reducible refine r_forR ?_
  | with_reducible refine r_forL ?_
  | with_reducible refine r_forT ?_
  | with_reducible refine r_bm ?_
  | with_reducible refine r_next ?_
  | with_reducible refine r_B ?_
  | with_reducible refine r_not ?_
  | with_reducible refine r_and ?_
  | with_reducible refine r_or ?_
  | with_reducible refine r_andV ?_
  | with_reducible refine r_orV ?_
  | with_reducible refine r_notV ?_
  | with_reducible refine r_ifE ?_
  | with_reducible refine r_drop ?_
  | with_reducible refine r_tup ?_
  | with_reducible refine r_lst ?_
  | with_reducible refine r_un ?_
  | with_reducible refine r_U ?_)
local macro_rules | `(tactic| walk_at "rd") => `(tactic| repeat walk_at "rd1")
local macro_rules | `(tactic| walk_at "rd1") => `(tactic| first
  | with_reducible refine r_lcS ?_
  | with_reducible refine r_sl ?_
  | with_reducible refine r_noPart ?_
  | with_reducible refine r_partE ?_
  | with_reducible refine r_sfld ?_
  | with_reducible refine r_gc ?_
  | with_reducible refine r_gn ?_
  | with_reducible refine r_forE ?_
  | with_reducible refine r_makeK ?_
  | with_reducible refine r_make ?_
  | with_reducible refine r_fld ?_
  | with_reducible refine r_prop ?_
  | with_reducible refine r_meth ?_
  | with_reducible refine r_js ?_
  | with_reducible refine r_jn ?_
  | with_reducible refine r_fmt ?_
  | with_reducible refine r_chain ?_)
local macro_rules | `(tactic| walk_at "rd1") => `(tactic| first
  | with_reducible refine r_sfa ?_
  | with_reducible refine r_methR ?_)
def spMade (K : Frg) : Sp := fun vs H Q _ => ∃ (a l : Addr) (as : List Addr) (m : Int) (ks : List KD), vs = [.ref a] ∧ SqT K H a [.int m, .ref l] ∧ H l = some (.lst (as.map V.ref)) ∧ ReadKs K H l as ks ∧ GoodT m ks ∧ ks.length ≤ 8 ∧
  ∀ c H', Same H H' → CatAt K H' c m ks → Q (.ref c) H'
def spRead (K : Frg) : Sp := fun vs H Q _ => ∃ (p : Addr) (m : Int) (ks : List KD), vs = [.ref p] ∧ (SqL K H p ((linesOf m ks).map V.str) ∨ SqT K H p ((linesOf m ks).map V.str)) ∧ GoodT m ks ∧ ks.length ≤ 8 ∧
  ∀ c H', Same H H' → CatAt K H' c m ks → Q (.ref c) H'
section
variable {P : Program} {w : World} {K : Frg} {mg : Str → Option Value} {base : Heap}
theorem sc_made_catalogue : FnScope ["told", "signs", "kinds", "name", "inputs", "price", "start", "table", "ways"] ["told"] (defScope s_made_catalogue) := ⟨rfl, rfl, rfl, by decide +kernel, rfl, by decide +kernel, by decide +kernel⟩
theorem ok_made_catalogue (T : Txt K mg) : Ok P w K mg base 7 (He.ga K "made_catalogue") ["told"] (spMade K) := by
  obtain ⟨fd, F⟩ := T.F_made_catalogue
  have b : Binds K fd ["told"] [] := F.bindsN fun _ _ _ _ _ _ us hl => match us, hl with | [_], _ => rfl
  refine ok_of F b sc_made_catalogue (fun vs H Q E h => ?_) (fun cdv A outer s H vs Q E hr h => ?_)
  · obtain ⟨a, l, as, m, ks, rfl, _⟩ := h
    rfl
  · obtain ⟨a, l, as, m, ks, rfl, ha, hl, hks, G, l8, k⟩ := h
    have hlen := hks.len
    refine ⟨_, (pss_cons (ps_asg (pv 0) (pg_tup (by rfl) (pgs_cons (pg_name (i := 1) sc_made_catalogue.nd rfl (Or.inr rfl)) (pgs_cons (pg_name (i := 2) sc_made_catalogue.nd rfl (Or.inl rfl)) pgs_nil))))
  (pss_one (ps_ret (pmk T.k_Catalogue (ok_Catalogue_init T) hr rfl T.g_Catalogue (pa_cons (pv 1) (pa_cons (pe_lc (own := [("name", 3), ("inputs", 4), ("price", 5), ("start", 6), ("table", 7), ("ways", 8)]) rfl sc_made_catalogue.nd (pi_list (pv 2)) (blkOk_by (own := [("name", 3), ("inputs", 4), ("price", 5), ("start", 6), ("table", 7), ("ways", 8)]) (N := ["told", "signs", "kinds", "name", "inputs", "price", "start", "table", "ways"]) (sc := defScope s_made_catalogue) (by decide +kernel)) (fun _ _ _ _ _ => (pg_tupB (K := K) (n := 6) rfl (by rfl) (pgs_cons (pg_name (i := 3) sc_made_catalogue.nd rfl (Or.inl rfl)) (pgs_cons (pg_name (i := 4) sc_made_catalogue.nd rfl (Or.inl rfl)) (pgs_cons (pg_name (i := 5) sc_made_catalogue.nd rfl (Or.inl rfl)) (pgs_cons (pg_name (i := 6) sc_made_catalogue.nd rfl (Or.inl rfl)) (pgs_cons (pg_name (i := 7) sc_made_catalogue.nd rfl (Or.inl rfl)) (pgs_cons (pg_name (i := 8) sc_made_catalogue.nd rfl (Or.inl rfl)) pgs_nil)))))))) (fun _ _ _ _ _ => pts_nil) (fun _ _ _ _ _ => (pmkK T.k_Kind (ok_Kind_init T) hr rfl T.g_Kind (pa_cons (pv 1) (pa_cons (pv 3) (pa_cons (pv 4) (pa_cons (pv 7) pa_nil)))) (pk_cons (pv 6) (pk_cons (pv 8) (pk_cons (pv 5) pk_nil)))))) pa_nil)))))), ?_⟩
    walk_at "rd"
    refine r_tupG ha rfl ?_
    walk_at "rd"
    refine lcL (P := fun i v H' => ∃ a k, ks[i]? = some k ∧ v = .ref a ∧ KindAt K H' a m k) way_same (Same.refl _) (SqL.of hl) (by rw [List.length_map]; omega) (fun i v A B e ⟨a, k, h1, h2, h3⟩ => ⟨a, k, h1, h2, h3.sd e⟩) (fun i v H1 hi e1 Qe q => ?_) fun D H1 ys hD e1 hy hyl hq => ?_
    · rw [List.getElem?_map] at hi
      obtain ⟨b, hb, rfl⟩ := Option.map_eq_some_iff.mp hi
      have hlt : i < ks.length := by rw [← hlen]; exact (List.getElem?_eq_some_iff.mp hb).1
      obtain ⟨kd, hkd⟩ : ∃ kd, ks[i]? = some kd := ⟨_, List.getElem?_eq_getElem hlt⟩
      obtain ⟨p, _, hrk⟩ := hks.at_ i b kd hb hkd
      obtain ⟨ta, us, h1, h2, h3, h4⟩ := (hrk.move (l := l) (fun _ _ z => Sd.tup (Sd.of e1) z) fun _ z => e1 _ _ z).ex
      refine r_tupG h1 rfl ?_
      generalize hσ : wipe _ _ = σ0
      have hσ : σ0 = [some (.ref a), some (.int m), some (.ref l), none, none, none, none, none, none] := hσ.symm.trans rfl
      subst hσ
      refine r_gc (r_name (r_gc (r_name (r_gc (r_name (r_gc (r_name (r_gc (r_name (r_gc (r_name (r_gn ?_))))))))))))
      show wipe [some (.ref a), some (.int m), some (.ref l), some (.str kd.name), some (.int kd.inputs), some (.int kd.price), some (startV kd.start), some (.ref ta), some (.ref p)] _ = _ ∧ _
      refine ⟨rfl, ?_⟩
      walk_at "rd"
      refine ⟨rfl, rfl, fun x dx nx nd ne => ?_⟩
      have s0 : Same H1 (upd (upd H1 dx (.own x)) x (.ins (He.ga K "Kind") dx [])) := Td.made nx nd (fun a o _ h => h)
      refine ⟨x, dx, ta, p, m, kd, us, rfl, upd_same, Sd.tup (Sd.of s0) h2, .inl (SqL.of (s0 _ _ h3)), DpAll.sd (Sd.of s0) _ _ (flat_wds _) h4, G.good kd (List.mem_of_getElem? hkd), fun H2 e2 hK => ⟨rfl, ?_⟩⟩
      exact q _ _ (Td.made nx nd e2) ⟨x, kd, hkd, rfl, hK⟩
    · obtain ⟨bs, rfl, hbs⟩ := refs_read (P := fun i a => ∃ k, ks[i]? = some k ∧ KindAt K H1 a m k) fun i y hi => by
        obtain ⟨a, k, h1, h2, h3⟩ := hq i y hi
        exact ⟨a, h2, k, h1, h3⟩
      rw [List.length_map, List.length_map] at hyl
      have hk : KindsAt K H1 bs m ks := ⟨by omega, fun i a kd ha hkd => by
        obtain ⟨k2, h1, h2⟩ := hbs i a ha
        rw [hkd] at h1
        cases h1
        exact h2⟩
      walk_at "rd"
      intro x dx nx nd ne
      have s0 : Same H1 (upd (upd H1 dx (.own x)) x (.ins (He.ga K "Catalogue") dx [])) := Td.made nx nd (fun a o _ h => h)
      refine ⟨x, dx, D, m, bs, ks, rfl, upd_same, Same.seq s0 (SqL.of hy), hk.sd (Sd.of s0), G, l8, fun hx => ?_, fun H2 e2 hC => ⟨rfl, k x H2 (e1.trans (Td.made nx nd e2)) hC⟩⟩
      obtain ⟨i, hi, e⟩ := List.getElem_of_mem hx
      have hi2 : i < ks.length := by rw [← hk.len]; exact hi
      obtain ⟨dk, vt, vw, ha, _⟩ := (hk.at_ i x ks[i] (by rw [List.getElem?_eq_getElem hi, e]) (List.getElem?_eq_getElem hi2)).ex
      rw [nx] at ha
      cases ha
theorem sc_read_catalogue : FnScope ["lines", "reader", "told"] ["lines"] (defScope s_read_catalogue) := ⟨rfl, rfl, rfl, by decide +kernel, rfl, by decide +kernel, by decide +kernel⟩
theorem ok_read_catalogue (T : Txt K mg) : Ok P w K mg base 8 (He.ga K "read_catalogue") ["lines"] (spRead K) := by
  obtain ⟨fd, F⟩ := T.F_read_catalogue
  have b : Binds K fd ["lines"] [] := F.bindsN fun _ _ _ _ _ _ us hl => match us, hl with | [_], _ => rfl
  refine ok_of F b sc_read_catalogue (fun vs H Q E h => ?_) (fun cdv A outer s H vs Q E hr h => ?_)
  · obtain ⟨p, m, ks, rfl, _⟩ := h
    rfl
  · obtain ⟨p, m, ks, rfl, hp, G, l8, k⟩ := h
    rcases hp with hp | hp
    · refine ⟨_, (pss_cons (ps_set (i := 1) sc_read_catalogue.nd rfl (Or.inl rfl) (pmk T.k_Lines (ok_Lines_init T) hr rfl T.g_Lines (pa_cons (pv 0) pa_nil)))
  (pss_cons (ps_set (i := 2) sc_read_catalogue.nd rfl (Or.inl rfl) (pk (ok_take_catalogue T) hr rfl T.g_take_catalogue (pa_cons (pv 1) pa_nil)))
  (pss_cons (ps_expr (pkM0 (ok_Lines_finish T) hr T.c_Lines T.m_Lines_finish (pv 1)))
  (pss_one (ps_ret (pk (ok_made_catalogue T) hr rfl T.g_made_catalogue (pa_cons (pv 2) pa_nil))))))), ?_⟩
      walk_at "rd"
      intro x dx nx nd ne
      have s0 : Same H (upd (upd H dx (.own x)) x (.ins (He.ga K "Lines") dx [])) := Td.made nx nd (fun a o _ h => h)
      refine ⟨x, dx, p, allWords m ks, rfl, upd_same, .inl (Same.seq s0 hp), fun H1 e1 hr1 => ⟨rfl, ?_⟩⟩
      have s1 := Td.made nx nd e1
      walk_at "rd"
      refine ⟨x, m, ks, rfl, hr1, G, l8, fun a l as H2 e2 hr2 ha hl hks => ?_⟩
      have s2 : Same H H2 := Td.of_new nx s1 e2
      obtain ⟨dx2, t2, hrr2⟩ := hr2.ins
      walk_at "rd"
      refine ⟨x, dx2, _, rfl, hrr2, rfl, ?_⟩
      walk_at "rd"
      refine ⟨x, _, rfl, hr2, ?_⟩
      walk_at "rd"
      exact ⟨a, l, as, m, ks, rfl, ha, hl, hks, G, l8, fun c H3 s3 hC => k c H3 (s2.trans s3) hC⟩
    · refine ⟨_, (pss_cons (ps_set (i := 1) sc_read_catalogue.nd rfl (Or.inl rfl) (pmk T.k_Lines (ok_Lines_init T) hr rfl T.g_Lines (pa_cons (pv 0) pa_nil)))
  (pss_cons (ps_set (i := 2) sc_read_catalogue.nd rfl (Or.inl rfl) (pk (ok_take_catalogue T) hr rfl T.g_take_catalogue (pa_cons (pv 1) pa_nil)))
  (pss_cons (ps_expr (pkM0 (ok_Lines_finish T) hr T.c_Lines T.m_Lines_finish (pv 1)))
  (pss_one (ps_ret (pk (ok_made_catalogue T) hr rfl T.g_made_catalogue (pa_cons (pv 2) pa_nil))))))), ?_⟩
      walk_at "rd"
      intro x dx nx nd ne
      have s0 : Same H (upd (upd H dx (.own x)) x (.ins (He.ga K "Lines") dx [])) := Td.made nx nd (fun a o _ h => h)
      refine ⟨x, dx, p, allWords m ks, rfl, upd_same, .inr (Sd.tup (Sd.of s0) hp), fun H1 e1 hr1 => ⟨rfl, ?_⟩⟩
      have s1 := Td.made nx nd e1
      walk_at "rd"
      refine ⟨x, m, ks, rfl, hr1, G, l8, fun a l as H2 e2 hr2 ha hl hks => ?_⟩
      have s2 : Same H H2 := Td.of_new nx s1 e2
      obtain ⟨dx2, t2, hrr2⟩ := hr2.ins
      walk_at "rd"
      refine ⟨x, dx2, _, rfl, hrr2, rfl, ?_⟩
      walk_at "rd"
      refine ⟨x, _, rfl, hr2, ?_⟩
      walk_at "rd"
      exact ⟨a, l, as, m, ks, rfl, ha, hl, hks, G, l8, fun c H3 s3 hC => k c H3 (s2.trans s3) hC⟩
end
end Tx

/-! ## Pr17 -/
set_option maxHeartbeats 4000000
/-! The law's own comparisons. -/
namespace Tx
open PySem PySem.Spec PyProof.Rows L2 Gd
local macro_rules | `(tactic| walk_at "rd1") => `(tactic| first
  | ((with_reducible show tVar _ _ _ _); refine r_var (by rfl) ?_)
  | with_reducible refine r_c ?_
  | with_reducible refine r_seq ?_
  | with_reducible refine r_asg ?_
  | with_reducible refine r_name ?_
  | with_reducible refine r_op ?_
  | with_reducible refine r_I0 ?_
  | with_reducible refine r_cons ?_
  | with_reducible refine r_nil ?_
  | with_reducible refine r_call ?_
  | with_reducible refine r_ret ?_
  | with_reducible refine r_cb ?_
  | with_reducible refine r_ifS ?_
  | with_reducible refine r_test ?_
  | with_reducible refine r_bl ?_
  | with_reducible refine r_dget ?_
  | with_reducible refine r_dput ?_
  | ((with_reducible show (∃ k, [V.int _] = [V.int k] ∧ _) ∨ _); refine Or.inl ⟨_, rfl, ?_⟩)
  | with_reducible refine r_lcR ?_
  | with_reducible refine r_lcL ?_
  | with_reducible refine r_lcT ?_
  | with_reducible refine r_m1 ?_
  | with_reducible refine r_gSub ?_
  | with_reducible refine r_forR ?_
  | with_reducible refine r_forL ?_
  | with_reducible refine r_forT ?_
  | with_reducible refine r_bm ?_
  | with_reducible refine r_next ?_
  | with_reducible refine r_B ?_
  | with_reducible refine r_not ?_
  | with_reducible refine r_and ?_
  | with_reducible refine r_or ?_
  | with_reducible refine r_andV ?_
  | with_reducible refine r_orV ?_
  | with_reducible refine r_notV ?_
  | with_reducible refine r_ifE ?_
  | with_reducible refine r_drop ?_
  | with_reducible refine r_tup ?_
  | with_reducible refine r_lst ?_
  | with_reducible refine r_un ?_
  | with_reducible refine r_U ?_)
local macro_rules | `(tactic| walk_at "rd") => `(tactic| repeat walk_at "rd1")
local macro_rules | `(tactic| walk_at "rd1") => `(tactic| first
  | with_reducible refine r_lcS ?_
  | with_reducible refine r_sl ?_
  | with_reducible refine r_noPart ?_
  | with_reducible refine r_partE ?_
  | with_reducible refine r_sfld ?_
  | with_reducible refine r_gc ?_
  | with_reducible refine r_gn ?_
  | with_reducible refine r_forE ?_
  | with_reducible refine r_makeK ?_
  | with_reducible refine r_make ?_
  | with_reducible refine r_fld ?_
  | with_reducible refine r_prop ?_
  | with_reducible refine r_meth ?_
  | with_reducible refine r_js ?_
  | with_reducible refine r_jn ?_
  | with_reducible refine r_fmt ?_
  | with_reducible refine r_chain ?_)
local macro_rules | `(tactic| walk_at "rd1") => `(tactic| first
  | with_reducible refine r_sfa ?_
  | with_reducible refine r_methR ?_)
theorem r_repr {K : Frg} {v : V} {d : PyData} {H : Hp} {Q : VK} (h1 : Dp K H v d) (h2 : d.showable = true) (h3 : d.hasDict = false) (h4 : d.depth ≤ 64) (h5 : d.shown.length ≤ sizeLine) (h : Q (.str d.shown) H) : rRepr K [v] H Q := ⟨v, d, rfl, h1, h2, h3, h4, h5, h⟩
/-- data whose text can be made -/
structure Shw (d : PyData) : Prop where
  sh : d.showable = true
  nd : d.hasDict = false
  dp : d.depth ≤ 64
  ln : d.shown.length ≤ sizeLine
def spSame (K : Frg) : Sp := fun vs H Q _ => ∃ v u d, vs = [v, u] ∧ Dp K H v d ∧ Dp K H u d ∧ Shw d ∧ Q (.bl true) H
theorem r_same {K : Frg} {H : Hp} {Q : VK} {E : XK} {v u : V} {d : PyData} (h1 : Dp K H v d) (h2 : Dp K H u d) (h3 : Shw d) (h : Q (.bl true) H) : spSame K ([v, u] ++ []) H Q E := ⟨v, u, d, rfl, h1, h2, h3, h⟩
def spParts (K : Frg) : Sp := fun vs H Q _ => ∃ x m kd, vs = [.ref x] ∧ KindAt K H x m kd ∧ ∀ v H', Same H H' → Dp K H' v kd.data → Q v H'
section
variable {P : Program} {w : World} {K : Frg} {mg : Str → Option Value} {base : Heap}
theorem sc_law_same : FnScope ["_law_one", "_law_other"] ["_law_one", "_law_other"] (defScope s_law_same) := ⟨rfl, rfl, rfl, by decide +kernel, rfl, by decide +kernel, by decide +kernel⟩
theorem ok_law_same (T : Txt K mg) : OkG P w K mg base 1 (He.ga K "_law_same") ["_law_one", "_law_other"] (spSame K) := by
  obtain ⟨fd, F⟩ := T.F_law_same
  have b : Binds K fd ["_law_one", "_law_other"] [] := F.bindsN fun _ _ _ _ _ _ us hl => match us, hl with | [_, _], _ => rfl
  refine okG_of F b sc_law_same (fun vs H Q E h => ?_) (fun cdv A outer s H vs Q hgd hr h => ?_)
  · obtain ⟨v, u, d, rfl, _⟩ := h
    rfl
  · obtain ⟨v, u, d, rfl, h1, h2, h3, k⟩ := h
    refine ⟨_, (pss_one (ps_ret (pe_cmpR op_eq (pe_callB (call_repr hgd (by have h := hr.un; show (A.deeper _).units + 100 < cLine; omega)) (by rfl) T.f_repr (by decide +kernel) (pa_cons (pv 0) pa_nil)) (pe_callB (call_repr hgd (by have h := hr.un; show (A.deeper _).units + 100 < cLine; omega)) (by rfl) T.f_repr (by decide +kernel) (pa_cons (pv 1) pa_nil)) (by first | exact nomark _ | rfl)))), ?_⟩
    walk_at "rd"
    refine r_repr h1 h3.sh h3.nd h3.dp h3.ln ?_
    walk_at "rd"
    refine r_repr h2 h3.sh h3.nd h3.dp h3.ln ?_
    refine r_eq rfl ?_
    rw [decide_eq_true rfl]
    exact k
theorem sc_law_parts_of : FnScope ["_law_thing"] ["_law_thing"] (defScope s_law_parts_of) := ⟨rfl, rfl, rfl, by decide +kernel, rfl, by decide +kernel, by decide +kernel⟩
theorem ok_law_parts_of (T : Txt K mg) : Ok P w K mg base 1 (He.ga K "_law_parts_of") ["_law_thing"] (spParts K) := by
  obtain ⟨fd, F⟩ := T.F_law_parts_of
  have b : Binds K fd ["_law_thing"] [] := F.bindsN fun _ _ _ _ _ _ us hl => match us, hl with | [_], _ => rfl
  refine ok_of F b sc_law_parts_of (fun vs H Q E h => ?_) (fun cdv A outer s H vs Q E hr h => ?_)
  · obtain ⟨x, m, kd, rfl, _⟩ := h
    rfl
  · obtain ⟨x, m, kd, rfl, hx, k⟩ := h
    obtain ⟨dx, vt, vw, hx, ht, hw⟩ := hx.ex
    refine ⟨_, (pss_one (ps_ret (pe_tup (pa_cons (pe_fld (pv 0) rfl) (pa_cons (pe_fld (pv 0) rfl) (pa_cons (pe_fld (pv 0) rfl) (pa_cons (pe_fld (pv 0) rfl) (pa_cons (pe_fld (pv 0) rfl) (pa_cons (pe_fld (pv 0) rfl) pa_nil))))))))), ?_⟩
    walk_at "rd"
    refine ⟨_, _, _, _, _, rfl, hx, T.c_Kind, T.n_Kind_name, rfl, ?_⟩
    walk_at "rd"
    refine ⟨_, _, _, _, _, rfl, hx, T.c_Kind, T.n_Kind_inputs, rfl, ?_⟩
    walk_at "rd"
    refine ⟨_, _, _, _, _, rfl, hx, T.c_Kind, T.n_Kind_table, rfl, ?_⟩
    walk_at "rd"
    refine ⟨_, _, _, _, _, rfl, hx, T.c_Kind, T.n_Kind_start, rfl, ?_⟩
    walk_at "rd"
    refine ⟨_, _, _, _, _, rfl, hx, T.c_Kind, T.n_Kind_ways, rfl, ?_⟩
    walk_at "rd"
    refine ⟨_, _, _, _, _, rfl, hx, T.c_Kind, T.n_Kind_price, rfl, ?_⟩
    walk_at "rd"
    refine ⟨by show 6 ≤ sizeLine; decide, fun p hp => ?_⟩
    have s := Same.upd (o := .tup [V.str kd.name, V.int kd.inputs, vt, startV kd.start, vw, V.int kd.price]) hp
    refine k _ _ s (.tup (SqT.of upd_same) (.cons (.str _) (.cons (.int _) (.cons (Dp.sd (Sd.of s) _ _ flat_intsD ht) (.cons (dp_start _) (.cons (Dp.sd (Sd.of s) _ _ (flat_ways kd) hw) (.cons (.int _) .nil)))))))
end
end Tx

/-! ## Pr18 -/
set_option maxHeartbeats 4000000
/-! Kinds and catalogues, equal. -/
namespace Tx
open PySem PySem.Spec PyProof.Rows L2 Gd
local macro_rules | `(tactic| walk_at "rd1") => `(tactic| first
  | ((with_reducible show tVar _ _ _ _); refine r_var (by rfl) ?_)
  | with_reducible refine r_c ?_
  | with_reducible refine r_seq ?_
  | with_reducible refine r_asg ?_
  | with_reducible refine r_name ?_
  | with_reducible refine r_op ?_
  | with_reducible refine r_I0 ?_
  | with_reducible refine r_cons ?_
  | with_reducible refine r_nil ?_
  | with_reducible refine r_call ?_
  | with_reducible refine r_ret ?_
  | with_reducible refine r_cb ?_
  | with_reducible refine r_ifS ?_
  | with_reducible refine r_test ?_
  | with_reducible refine r_bl ?_
  | with_reducible refine r_dget ?_
  | with_reducible refine r_dput ?_
  | ((with_reducible show (∃ k, [V.int _] = [V.int k] ∧ _) ∨ _); refine Or.inl ⟨_, rfl, ?_⟩)
  | with_reducible refine r_lcR ?_
  | with_reducible refine r_lcL ?_
  | with_reducible refine r_lcT ?_
  | with_reducible refine r_m1 ?_
  | with_reducible refine r_gSub ?_
  | with_reducible refine r_forR ?_
  | with_reducible refine r_forL ?_
  | with_reducible refine r_forT ?_
  | with_reducible refine r_bm ?_
  | with_reducible refine r_next ?_
  | with_reducible refine r_B ?_
  | with_reducible refine r_not ?_
  | with_reducible refine r_and ?_
  | with_reducible refine r_or ?_
  | with_reducible refine r_andV ?_
  | with_reducible refine r_orV ?_
  | with_reducible refine r_notV ?_
  | with_reducible refine r_ifE ?_
  | with_reducible refine r_drop ?_
  | with_reducible refine r_tup ?_
  | with_reducible refine r_lst ?_
  | with_reducible refine r_un ?_
  | with_reducible refine r_U ?_)
local macro_rules | `(tactic| walk_at "rd") => `(tactic| repeat walk_at "rd1")
local macro_rules | `(tactic| walk_at "rd1") => `(tactic| first
  | with_reducible refine r_lcS ?_
  | with_reducible refine r_sl ?_
  | with_reducible refine r_noPart ?_
  | with_reducible refine r_partE ?_
  | with_reducible refine r_sfld ?_
  | with_reducible refine r_gc ?_
  | with_reducible refine r_gn ?_
  | with_reducible refine r_forE ?_
  | with_reducible refine r_makeK ?_
  | with_reducible refine r_make ?_
  | with_reducible refine r_fld ?_
  | with_reducible refine r_prop ?_
  | with_reducible refine r_meth ?_
  | with_reducible refine r_js ?_
  | with_reducible refine r_jn ?_
  | with_reducible refine r_fmt ?_
  | with_reducible refine r_chain ?_)
local macro_rules | `(tactic| walk_at "rd1") => `(tactic| first
  | with_reducible refine r_sfa ?_
  | with_reducible refine r_methR ?_)
section
variable {X : Cx} {n : Nat} {C f : Addr} {ps : List Str} {R : Addr → Addr → Hp → Prop}
theorem rcG_own (F : Ok X.prog X.w X.K X.mg X.base n f ps (spEq R)) (hm : Meth X.K C "__eq__" f) : RcG X n (DIns C R) := by
  obtain ⟨fd, F, b, kp⟩ := F
  exact rcG_ins (E := E0) F hm.at_ hm.fn b pass0
theorem eqG_own (F : Ok X.prog X.w X.K X.mg X.base n f ps (spEq R)) (hm : Meth X.K C "__eq__" f) : EqG X n (DIns C R) := by
  obtain ⟨fd, F, b, kp⟩ := F
  exact eqG_ins (E := E0) F hm.at_ hm.fn b pass0
end
theorem r_eqG {D : Eqv} {x y : V} {H : Hp} {Q : VK} (d : D x y H) (h : ∀ H', Same H H' → Q (.bl true) H') : rEqG D x y H Q := ⟨d, fun H' e => h H' e⟩
def RKind (K : Frg) (a b : Addr) (H : Hp) : Prop := ∃ m k, GoodK m k ∧ KindAt K H a m k ∧ KindAt K H b m k
def RCatalogue (K : Frg) (a b : Addr) (H : Hp) : Prop := ∃ m ks, GoodT m ks ∧ CatAt K H a m ks ∧ CatAt K H b m ks
theorem mon_RKind {K : Frg} : ∀ a b H H', Ext H H' → RKind K a b H → RKind K a b H' := fun a b H H' e ⟨m, k, g, x, y⟩ => ⟨m, k, g, x.sd (Sd.of e), y.sd (Sd.of e)⟩
theorem mon_RCatalogue {K : Frg} : ∀ a b H H', Ext H H' → RCatalogue K a b H → RCatalogue K a b H' := fun a b H H' e ⟨m, k, g, x, y⟩ => ⟨m, k, g, x.sd (Sd.of e), y.sd (Sd.of e)⟩
theorem low_ok {s : Str} (h : Low s) : PyData.canLay0 (.str s) = true := by
  simp only [PyData.canLay0]
  show (s.cps.all (· < 0x110000)) = true
  rw [Array.all_eq_true']
  intro c hc
  have := (h c (by simpa using hc)).2
  exact decide_eq_true (by omega)
theorem kit_own {K : Frg} {C : Addr} : PySem.W.kitOne K (.ref C) (.ref C) = some true := by
  unfold PySem.W.kitOne
  rw [if_pos (by simp)]
theorem shaped_start (s : Option Int) : SeqAt.shaped (startD s) = true := by cases s <;> rfl
theorem lay_wd {m : Int} {ts : List Int} {w : WD} (G : GoodW m ts w) : PyData.canLay0 w.data = true := by
  have h1 := low_ok G.name.low
  have h2 : PyData.canLay0 (.str w.word) = true := by
    rcases G.word with e | e <;> rw [e] <;> decide +kernel
  have h3 : PyData.canLay0 (intsD w.table) = true := by simp [intsD, PyData.canLay0, lay_ints]
  simp [WD.data, PyData.canLay0, PyData.canLayAll0] at h1 h2 h3 ⊢
  exact ⟨h2, h1, h3⟩
theorem lay_wds {m : Int} {ts : List Int} : ∀ {ws : List WD}, (∀ w ∈ ws, GoodW m ts w) → PyData.canLayAll0 (ws.map WD.data) = true
  | [], _ => by simp [PyData.canLayAll0]
  | w :: r, h => by
    rw [List.map_cons, PyData.canLayAll0, lay_wd (h w (List.mem_cons_self ..)), lay_wds (ws := r) fun x hx => h x (List.mem_cons_of_mem _ hx)]
    rfl
theorem depth_wds : ∀ ws : List WD, PyData.depthAll (ws.map WD.data) ≤ 3
  | [] => by simp [PyData.depthAll]
  | w :: r => by
    have := depth_wds r
    have h2 : PyData.depth w.data ≤ 3 := by simp [WD.data, intsD, PyData.depth, PyData.depthAll, depth_ints]
    simp only [List.map_cons, PyData.depthAll]
    omega
theorem shaped_ways {m : Int} {ts : List Int} {ws : List WD} (h : ∀ w ∈ ws, GoodW m ts w) : SeqAt.shaped (waysD ws) = true := by
  have h1 : PyData.canLay0 (waysD ws) = true := by simp [waysD, PyData.canLay0, lay_wds h]
  have h2 : PyData.depth (waysD ws) ≤ 64 := by
    have := depth_wds ws
    simp only [waysD, PyData.depth]
    omega
  unfold SeqAt.shaped
  rw [h1, decide_eq_true h2]
  rfl
theorem eqv_self {d : PyData} (h : SeqAt.shaped d = true) : PyData.eqv d d = true := SeqAt.eqv_refl d (SeqAt.canLay_of_shaped h)
section
variable {P : Program} {w : World} {K : Frg} {mg : Str → Option Value} {base : Heap}
theorem sc_Kind_eq : FnScope ["self", "other"] ["self", "other"] (defScope s_Kind_eq) := ⟨rfl, rfl, rfl, by decide +kernel, rfl, by decide +kernel, by decide +kernel⟩
theorem ok_Kind_eq (T : Txt K mg) : Ok P w K mg base 1 (He.ma K (He.ga K "Kind") "__eq__") ["self", "other"] (spEq (RKind K)) := by
  obtain ⟨fd, F⟩ := T.F_Kind_eq
  have b : Binds K fd ["self", "other"] [] := F.bindsN fun _ _ _ _ _ _ us hl => match us, hl with | [_, _], _ => rfl
  refine ok_of F b sc_Kind_eq (fun vs H Q E h => ?_) (fun cdv A outer s H vs Q E hr h => ?_)
  · obtain ⟨a, b, rfl, _⟩ := h
    rfl
  · obtain ⟨a, b, rfl, ⟨m, kd, G, ha, hb⟩, k⟩ := h
    obtain ⟨dx, vt, vw, hxa, hta, hwa⟩ := ha.ex
    obtain ⟨dy, ut, uw, hxb, htb, hwb⟩ := hb.ex
    refine ⟨_, (pss_one (ps_ret (pe_and (pe_callB call_isi (by rfl) T.f_isinstance (by decide +kernel) (pa_cons (pv 1) (pa_cons (pe_glob (v := .ref (He.ga K "Kind")) rfl T.g_Kind rfl) pa_nil))) (pe_and (pe_cmpR op_eq (pe_fld (pv 0) rfl) (pe_fld (pv 1) rfl) (by first | exact nomark _ | rfl)) (pe_and (pe_cmpR op_eq (pe_fld (pv 0) rfl) (pe_fld (pv 1) rfl) (by first | exact nomark _ | rfl)) (pe_and (pe_cmpR op_eq (pe_fld (pv 0) rfl) (pe_fld (pv 1) rfl) (by first | exact nomark _ | rfl)) (pe_and (pe_cmpR (op_eqD hr.units) (pe_fld (pv 0) rfl) (pe_fld (pv 1) rfl) (by first | exact nomark _ | rfl)) (pe_and (pe_cmpR op_eq (pe_fld (pv 0) rfl) (pe_fld (pv 1) rfl) (by first | exact nomark _ | rfl)) (pe_and (pe_cmpR (op_eqD hr.units) (pe_fld (pv 0) rfl) (pe_fld (pv 1) rfl) (by first | exact nomark _ | rfl)) (pe_one (pe_cmpR op_eq (pe_fld (pv 0) rfl) (pe_fld (pv 1) rfl) (by first | exact nomark _ | rfl)))))))))))), ?_⟩
    walk_at "rd"
    refine r_isC (T.s_Kind.ty T.c_Kind hxb) kit_own ?_
    refine r_bl (r_iT ?_)
    walk_at "rd"
    refine ⟨_, _, _, _, _, rfl, hxa, T.c_Kind, T.n_Kind_signs, rfl, ?_⟩
    walk_at "rd"
    refine ⟨_, _, _, _, _, rfl, hxb, T.c_Kind, T.n_Kind_signs, rfl, ?_⟩
    refine r_eq rfl ?_
    rw [decide_eq_true rfl]
    refine r_bl (r_iT ?_)
    walk_at "rd"
    refine ⟨_, _, _, _, _, rfl, hxa, T.c_Kind, T.n_Kind_name, rfl, ?_⟩
    walk_at "rd"
    refine ⟨_, _, _, _, _, rfl, hxb, T.c_Kind, T.n_Kind_name, rfl, ?_⟩
    refine r_eq rfl ?_
    rw [decide_eq_true rfl]
    refine r_bl (r_iT ?_)
    walk_at "rd"
    refine ⟨_, _, _, _, _, rfl, hxa, T.c_Kind, T.n_Kind_inputs, rfl, ?_⟩
    walk_at "rd"
    refine ⟨_, _, _, _, _, rfl, hxb, T.c_Kind, T.n_Kind_inputs, rfl, ?_⟩
    refine r_eq rfl ?_
    rw [decide_eq_true rfl]
    refine r_bl (r_iT ?_)
    walk_at "rd"
    refine ⟨_, _, _, _, _, rfl, hxa, T.c_Kind, T.n_Kind_table, rfl, ?_⟩
    walk_at "rd"
    refine ⟨_, _, _, _, _, rfl, hxb, T.c_Kind, T.n_Kind_table, rfl, ?_⟩
    refine r_eqD hta htb shaped_ints shaped_ints ?_
    rw [eqv_self shaped_ints]
    refine r_bl (r_iT ?_)
    walk_at "rd"
    refine ⟨_, _, _, _, _, rfl, hxa, T.c_Kind, T.n_Kind_start, rfl, ?_⟩
    walk_at "rd"
    refine ⟨_, _, _, _, _, rfl, hxb, T.c_Kind, T.n_Kind_start, rfl, ?_⟩
    refine r_eq (by cases kd.start <;> rfl) ?_
    rw [decide_eq_true rfl]
    refine r_bl (r_iT ?_)
    walk_at "rd"
    refine ⟨_, _, _, _, _, rfl, hxa, T.c_Kind, T.n_Kind_ways, rfl, ?_⟩
    walk_at "rd"
    refine ⟨_, _, _, _, _, rfl, hxb, T.c_Kind, T.n_Kind_ways, rfl, ?_⟩
    refine r_eqD hwa hwb (shaped_ways G.ways) (shaped_ways G.ways) ?_
    rw [eqv_self (shaped_ways G.ways)]
    refine r_bl (r_iT ?_)
    walk_at "rd"
    refine ⟨_, _, _, _, _, rfl, hxa, T.c_Kind, T.n_Kind_price, rfl, ?_⟩
    walk_at "rd"
    refine ⟨_, _, _, _, _, rfl, hxb, T.c_Kind, T.n_Kind_price, rfl, ?_⟩
    refine r_eq rfl ?_
    rw [decide_eq_true rfl]
    exact k H (Same.refl _)
theorem sc_Catalogue_eq : FnScope ["self", "other"] ["self", "other"] (defScope s_Catalogue_eq) := ⟨rfl, rfl, rfl, by decide +kernel, rfl, by decide +kernel, by decide +kernel⟩
theorem ok_Catalogue_eq (T : Txt K mg) : Ok P w K mg base 3 (He.ma K (He.ga K "Catalogue") "__eq__") ["self", "other"] (spEq (RCatalogue K)) := by
  obtain ⟨fd, F⟩ := T.F_Catalogue_eq
  have b : Binds K fd ["self", "other"] [] := F.bindsN fun _ _ _ _ _ _ us hl => match us, hl with | [_, _], _ => rfl
  refine ok_of F b sc_Catalogue_eq (fun vs H Q E h => ?_) (fun cdv A outer s H vs Q E hr h => ?_)
  · obtain ⟨a, b, rfl, _⟩ := h
    rfl
  · obtain ⟨a, b, rfl, ⟨m, ks, G, ha, hb⟩, k⟩ := h
    obtain ⟨dx, p, q, as, hxa, hpa, hka⟩ := ha.ex
    obtain ⟨dy, p2, q2, bs, hxb, hpb, hkb⟩ := hb.ex
    refine ⟨_, (pss_one (ps_ret (pe_and (pe_callB call_isi (by rfl) T.f_isinstance (by decide +kernel) (pa_cons (pv 1) (pa_cons (pe_glob (v := .ref (He.ga K "Catalogue")) rfl T.g_Catalogue rfl) pa_nil))) (pe_and (pe_cmpR op_eq (pe_fld (pv 0) rfl) (pe_fld (pv 1) rfl) (by first | exact nomark _ | rfl)) (pe_one (pe_cmpR (op_eqG (rcG_tup (mon_ins mon_RKind) (eqG_own (ok_Kind_eq T) T.m_Kind_eq)) (hr.mono (by decide))) (pe_fld (pv 0) rfl) (pe_fld (pv 1) rfl) (by first | exact nomark _ | rfl))))))), ?_⟩
    walk_at "rd"
    refine r_isC (T.s_Catalogue.ty T.c_Catalogue hxb) kit_own ?_
    refine r_bl (r_iT ?_)
    walk_at "rd"
    refine ⟨_, _, _, _, _, rfl, hxa, T.c_Catalogue, T.n_Catalogue_signs, rfl, ?_⟩
    walk_at "rd"
    refine ⟨_, _, _, _, _, rfl, hxb, T.c_Catalogue, T.n_Catalogue_signs, rfl, ?_⟩
    refine r_eq rfl ?_
    rw [decide_eq_true rfl]
    refine r_bl (r_iT ?_)
    walk_at "rd"
    refine ⟨_, _, _, _, _, rfl, hxa, T.c_Catalogue, T.n_Catalogue_kinds, rfl, ?_⟩
    walk_at "rd"
    refine ⟨_, _, _, _, _, rfl, hxb, T.c_Catalogue, T.n_Catalogue_kinds, rfl, ?_⟩
    have la := hka.len
    have lb := hkb.len
    refine r_eqG ⟨p, p2, _, _, rfl, rfl, hpa, hpb, by rw [List.length_map, List.length_map]; omega, fun i x y h1 h2 => ?_⟩ k
    obtain ⟨a', k1, e1, f1, rfl, g1⟩ := hka.get h1
    obtain ⟨b', k2, e2, f2, rfl, g2⟩ := hkb.get h2
    rw [f1] at f2
    cases f2
    obtain ⟨d1, t1, w1, i1, _⟩ := g1.ex
    obtain ⟨d2, t2, w2, i2, _⟩ := g2.ex
    exact ⟨a', b', d1, d2, _, _, rfl, rfl, i1, i2, m, k1, G.good k1 (List.mem_of_getElem? f1), g1, g2⟩
end
end Tx

/-! ## Pr19 -/
set_option maxHeartbeats 4000000
/-! The text of the data that the law compares is not too long. -/
namespace Tx
open PySem PySem.Spec PyProof.Rows L2 Gd
local macro_rules | `(tactic| walk_at "rd1") => `(tactic| first
  | ((with_reducible show tVar _ _ _ _); refine r_var (by rfl) ?_)
  | with_reducible refine r_c ?_
  | with_reducible refine r_seq ?_
  | with_reducible refine r_asg ?_
  | with_reducible refine r_name ?_
  | with_reducible refine r_op ?_
  | with_reducible refine r_I0 ?_
  | with_reducible refine r_cons ?_
  | with_reducible refine r_nil ?_
  | with_reducible refine r_call ?_
  | with_reducible refine r_ret ?_
  | with_reducible refine r_cb ?_
  | with_reducible refine r_ifS ?_
  | with_reducible refine r_test ?_
  | with_reducible refine r_bl ?_
  | with_reducible refine r_dget ?_
  | with_reducible refine r_dput ?_
  | ((with_reducible show (∃ k, [V.int _] = [V.int k] ∧ _) ∨ _); refine Or.inl ⟨_, rfl, ?_⟩)
  | with_reducible refine r_lcR ?_
  | with_reducible refine r_lcL ?_
  | with_reducible refine r_lcT ?_
  | with_reducible refine r_m1 ?_
  | with_reducible refine r_gSub ?_
  | with_reducible refine r_forR ?_
  | with_reducible refine r_forL ?_
  | with_reducible refine r_forT ?_
  | with_reducible refine r_bm ?_
  | with_reducible refine r_next ?_
  | with_reducible refine r_B ?_
  | with_reducible refine r_not ?_
  | with_reducible refine r_and ?_
  | with_reducible refine r_or ?_
  | with_reducible refine r_andV ?_
  | with_reducible refine r_orV ?_
  | with_reducible refine r_notV ?_
  | with_reducible refine r_ifE ?_
  | with_reducible refine r_drop ?_
  | with_reducible refine r_tup ?_
  | with_reducible refine r_lst ?_
  | with_reducible refine r_un ?_
  | with_reducible refine r_U ?_)
local macro_rules | `(tactic| walk_at "rd") => `(tactic| repeat walk_at "rd1")
local macro_rules | `(tactic| walk_at "rd1") => `(tactic| first
  | with_reducible refine r_lcS ?_
  | with_reducible refine r_sl ?_
  | with_reducible refine r_noPart ?_
  | with_reducible refine r_partE ?_
  | with_reducible refine r_sfld ?_
  | with_reducible refine r_gc ?_
  | with_reducible refine r_gn ?_
  | with_reducible refine r_forE ?_
  | with_reducible refine r_makeK ?_
  | with_reducible refine r_make ?_
  | with_reducible refine r_fld ?_
  | with_reducible refine r_prop ?_
  | with_reducible refine r_meth ?_
  | with_reducible refine r_js ?_
  | with_reducible refine r_jn ?_
  | with_reducible refine r_fmt ?_
  | with_reducible refine r_chain ?_)
local macro_rules | `(tactic| walk_at "rd1") => `(tactic| first
  | with_reducible refine r_sfa ?_
  | with_reducible refine r_methR ?_)
structure Sm (n k : Nat) (d : PyData) : Prop where
  sh : d.showable = true
  nd : d.hasDict = false
  ls : d.leavesShort 13 = true
  wt : d.weight ≤ n
  dp : d.depth ≤ k
structure SmA (n k : Nat) (ds : List PyData) : Prop where
  sh : PyData.showableAll ds = true
  nd : PyData.hasDictAll ds = false
  ls : PyData.leavesShortAll 13 ds = true
  wt : PyData.weightAll ds ≤ n
  dp : PyData.depthAll ds ≤ k
theorem Sm.mono {n k n' k' : Nat} {d : PyData} (h : Sm n k d) (a : n ≤ n') (b : k ≤ k') : Sm n' k' d := ⟨h.sh, h.nd, h.ls, Nat.le_trans h.wt a, Nat.le_trans h.dp b⟩
theorem SmA.mono {n k n' k' : Nat} {d : List PyData} (h : SmA n k d) (a : n ≤ n') (b : k ≤ k') : SmA n' k' d := ⟨h.sh, h.nd, h.ls, Nat.le_trans h.wt a, Nat.le_trans h.dp b⟩
theorem SmA.nil {k : Nat} : SmA 0 k [] := ⟨by simp [PyData.showableAll], by simp [PyData.hasDictAll], by simp [PyData.leavesShortAll], by simp [PyData.weightAll], by simp [PyData.depthAll]⟩
theorem SmA.cons {a b k : Nat} {d : PyData} {ds : List PyData} (h : Sm a k d) (t : SmA b k ds) : SmA (a + 1 + b) k (d :: ds) :=
  ⟨by simp [PyData.showableAll, h.sh, t.sh], by simp [PyData.hasDictAll, h.nd, t.nd], by simp [PyData.leavesShortAll, h.ls, t.ls],
   by have := h.wt; have := t.wt; simp only [PyData.weightAll]; omega, by have := h.dp; have := t.dp; simp only [PyData.depthAll]; omega⟩
theorem SmA.map {α : Type} {f : α → PyData} {a k : Nat} : ∀ {l : List α}, (∀ x ∈ l, Sm a k (f x)) → SmA ((a + 1) * l.length) k (l.map f)
  | [], _ => by rw [List.length_nil, Nat.mul_zero]; exact SmA.nil
  | x :: r, h => by
    have := SmA.cons (h x (List.mem_cons_self ..)) (SmA.map (l := r) fun y hy => h y (List.mem_cons_of_mem _ hy))
    rw [List.length_cons, Nat.mul_succ, Nat.add_comm]
    exact this
theorem Sm.tup {n k : Nat} {ds : List PyData} (h : SmA n k ds) : Sm n (k + 1) (.tuple ds) :=
  ⟨by simp only [PyData.showable, h.sh], by simp only [PyData.hasDict, h.nd], by simp only [PyData.leavesShort, h.ls], by have := h.wt; simp only [PyData.weight]; omega, by have := h.dp; simp only [PyData.depth]; omega⟩
theorem Sm.lst {n k : Nat} {ds : List PyData} (h : SmA n k ds) : Sm n (k + 1) (.list ds) :=
  ⟨by simp only [PyData.showable, h.sh], by simp only [PyData.hasDict, h.nd], by simp only [PyData.leavesShort, h.ls], by have := h.wt; simp only [PyData.weight]; omega, by have := h.dp; simp only [PyData.depth]; omega⟩
theorem log600 : ∀ n : Nat, n < 601 → n.log2 + 1 ≤ 11 := by decide +kernel
theorem Sm.int {i : Int} (h0 : 0 ≤ i) (h1 : i ≤ 600) {k : Nat} : Sm 11 k (.int i) := by
  refine ⟨by simp only [PyData.showable]; exact decide_eq_true (num_log h0 h1), by simp only [PyData.hasDict], ?_, ?_, by simp [PyData.depth]⟩
  · have := num_len h0 h1
    simp only [PyData.leavesShort]
    refine decide_eq_true ?_
    have e : PyData.shown (.int i) = num i := by simp only [PyData.shown]
    rw [e]
    omega
  · have := log600 i.natAbs (by omega)
    simp only [PyData.weight]
    split <;> omega
theorem Sm.str {s : Str} {n k : Nat} (h : ∀ c ∈ s.cps.toList, c < 16 ^ 8) (l : s.length ≤ n) : Sm n k (.str s) := by
  refine ⟨by simp only [PyData.showable], by simp only [PyData.hasDict], ?_, by simp only [PyData.weight]; exact l, by simp [PyData.depth]⟩
  simp only [PyData.leavesShort]
  exact List.all_eq_true.mpr fun c hc => decide_eq_true (h c hc)
theorem Sm.shw {n k : Nat} {d : PyData} (h : Sm n k d) (hn : n ≤ 100000) (hk : k ≤ 64) : Shw d := by
  refine ⟨h.sh, h.nd, Nat.le_trans h.dp hk, ?_⟩
  have := PyData.shown_le 13 (by decide) d h.ls
  have := h.wt
  refine Nat.le_trans (by omega : d.shown.length ≤ 15 * 100000 + 13) (by decide)
theorem low_c {s : Str} (h : Low s) : ∀ c ∈ s.cps.toList, c < 16 ^ 8 := fun c hc => by have := (h c hc).2; omega
theorem sm_ints {ts : List Int} (h : In 3 ts) (l : ts.length ≤ 27) : Sm 324 1 (intsD ts) :=
  (Sm.tup (SmA.map (f := PyData.int) (a := 11) (k := 0) fun t ht => Sm.int (h t ht).1 (by have := (h t ht).2; omega))).mono (by omega) (Nat.le_refl _)
theorem sm_start {m : Int} {kd : KD} (G : GoodK m kd) (m3 : m ≤ 3) : Sm 11 0 (startD kd.start) := by
  cases h : kd.start with
  | none => exact ⟨rfl, rfl, rfl, by simp [startD, PyData.weight], by simp [startD, PyData.depth]⟩
  | some x =>
    obtain ⟨a, b⟩ := G.start x h
    exact Sm.int a (by omega)
theorem sm_kd {m : Int} {kd : KD} (G : GoodK m kd) : Sm 2500 4 kd.data := by
  have hm := G.m_
  have m3 : m ≤ 3 := by rcases hm with rfl | rfl <;> decide
  have l27 : kd.table.length ≤ 27 := by have := sz_hi (b := kd.start.isSome) hm G.inputs; have := G.len; omega
  have in3 : ∀ {ts : List Int}, In m ts → In 3 ts := fun h t ht => ⟨(h t ht).1, by have := (h t ht).2; omega⟩
  have gi := G.inputs
  have l6 := G.most
  have hw : ∀ w ∈ kd.ways, Sm 341 2 w.data := fun w hw => by
    have Gw := G.ways w hw
    have wl := Gw.len
    have h1 : Sm 6 1 (.str w.word) := by
      rcases Gw.word with e | e <;> rw [e] <;> exact Sm.str (by decide +kernel) (by decide +kernel)
    exact (Sm.tup (.cons h1 (.cons ((Sm.str (low_c Gw.name.low) Gw.name.hi : Sm 8 1 _)) (.cons (sm_ints (in3 Gw.in_) (by omega)) .nil)))).mono (by decide) (Nat.le_refl _)
  have h2 : Sm 2052 3 (waysD kd.ways) := (Sm.tup (SmA.map hw)).mono (by omega) (Nat.le_refl _)
  exact (Sm.tup (.cons (Sm.str (n := 8) (low_c G.name.low) G.name.hi) (.cons (Sm.int (by omega) (by omega)) (.cons ((sm_ints (in3 G.in_) l27).mono (Nat.le_refl _) (by decide)) (.cons ((sm_start G m3).mono (Nat.le_refl _) (by decide)) (.cons h2 (.cons (Sm.int G.p0 G.p1) .nil))))))).mono (by decide) (Nat.le_refl _)
theorem shw_kinds {m : Int} {ks : List KD} (G : GoodT m ks) (l8 : ks.length ≤ 8) : Shw (.list (ks.map KD.data)) :=
  (Sm.lst (SmA.map (f := KD.data) fun k hk => sm_kd (G.good k hk))).shw (by omega) (by decide)
theorem shw_int {i : Int} (h0 : 0 ≤ i) (h1 : i ≤ 600) : Shw (.int i) := (Sm.int h0 h1 (k := 0)).shw (by decide) (by decide)
theorem shw_true : Shw (.bool true) := (⟨rfl, rfl, rfl, by simp [PyData.weight], by simp [PyData.depth]⟩ : Sm 0 0 (.bool true)).shw (by decide) (by decide)
end Tx

/-! ## Pr20 -/
set_option maxHeartbeats 4000000
/-! What is read is what was told. -/
namespace Tx
open PySem PySem.Spec PyProof.Rows L2 Gd
local macro_rules | `(tactic| walk_at "rd1") => `(tactic| first
  | ((with_reducible show tVar _ _ _ _); refine r_var (by rfl) ?_)
  | with_reducible refine r_c ?_
  | with_reducible refine r_seq ?_
  | with_reducible refine r_asg ?_
  | with_reducible refine r_name ?_
  | with_reducible refine r_op ?_
  | with_reducible refine r_I0 ?_
  | with_reducible refine r_cons ?_
  | with_reducible refine r_nil ?_
  | with_reducible refine r_call ?_
  | with_reducible refine r_ret ?_
  | with_reducible refine r_cb ?_
  | with_reducible refine r_ifS ?_
  | with_reducible refine r_test ?_
  | with_reducible refine r_bl ?_
  | with_reducible refine r_dget ?_
  | with_reducible refine r_dput ?_
  | ((with_reducible show (∃ k, [V.int _] = [V.int k] ∧ _) ∨ _); refine Or.inl ⟨_, rfl, ?_⟩)
  | with_reducible refine r_lcR ?_
  | with_reducible refine r_lcL ?_
  | with_reducible refine r_lcT ?_
  | with_reducible refine r_m1 ?_
  | with_reducible refine r_gSub ?_
  | with_reducible refine r_forR ?_
  | with_reducible refine r_forL ?_
  | with_reducible refine r_forT ?_
  | with_reducible refine r_bm ?_
  | with_reducible refine r_next ?_
  | with_reducible refine r_B ?_
  | with_reducible refine r_not ?_
  | with_reducible refine r_and ?_
  | with_reducible refine r_or ?_
  | with_reducible refine r_andV ?_
  | with_reducible refine r_orV ?_
  | with_reducible refine r_notV ?_
  | with_reducible refine r_ifE ?_
  | with_reducible refine r_drop ?_
  | with_reducible refine r_tup ?_
  | with_reducible refine r_lst ?_
  | with_reducible refine r_un ?_
  | with_reducible refine r_U ?_)
local macro_rules | `(tactic| walk_at "rd") => `(tactic| repeat walk_at "rd1")
local macro_rules | `(tactic| walk_at "rd1") => `(tactic| first
  | with_reducible refine r_lcS ?_
  | with_reducible refine r_sl ?_
  | with_reducible refine r_noPart ?_
  | with_reducible refine r_partE ?_
  | with_reducible refine r_sfld ?_
  | with_reducible refine r_gc ?_
  | with_reducible refine r_gn ?_
  | with_reducible refine r_forE ?_
  | with_reducible refine r_makeK ?_
  | with_reducible refine r_make ?_
  | with_reducible refine r_fld ?_
  | with_reducible refine r_prop ?_
  | with_reducible refine r_meth ?_
  | with_reducible refine r_js ?_
  | with_reducible refine r_jn ?_
  | with_reducible refine r_fmt ?_
  | with_reducible refine r_chain ?_)
local macro_rules | `(tactic| walk_at "rd1") => `(tactic| first
  | with_reducible refine r_sfa ?_
  | with_reducible refine r_methR ?_)
theorem mem_joinL {S : List Nat} {c : Nat} : ∀ {ps : List (List Nat)}, c ∈ TL.joinL S ps → c ∈ S ∨ ∃ p ∈ ps, c ∈ p
  | [], h => by simp [TL.joinL] at h
  | [p], h => .inr ⟨p, List.mem_singleton.mpr rfl, by simpa [TL.joinL] using h⟩
  | p :: q :: r, h => by
    rw [TL.joinL] at h
    rcases List.mem_append.mp h with h | h
    · exact .inr ⟨p, List.mem_cons_self .., h⟩
    · rcases List.mem_append.mp h with h | h
      · exact .inl h
      · rcases mem_joinL (ps := q :: r) h with h | ⟨z, hz, h⟩
        · exact .inl h
        · exact .inr ⟨z, List.mem_cons_of_mem _ hz, h⟩
/-- signs that are small -/
def Sg (s : Str) : Prop := ∀ c ∈ s.cps.toList, c < 128
theorem sg_line {ws : List Str} (h : ∀ w ∈ ws, Sg w) : Sg (line ws) := fun c hc => by
  rw [tl_line] at hc
  rcases mem_joinL hc with hc | ⟨p, hp, hc⟩
  · rw [show sp1.cps.toList = [32] by decide +kernel] at hc
    rw [List.mem_singleton.mp hc]
    decide
  · obtain ⟨w, hw, rfl⟩ := List.mem_map.mp hp
    exact h w hw c hc
theorem sg_low {s : Str} (h : Low s) : Sg s := fun c hc => by have := (h c hc).2; omega
theorem sg_num {n : Int} (h0 : 0 ≤ n) (h1 : n ≤ 600) : Sg (num n) := by
  obtain ⟨n, rfl⟩ : ∃ m : Nat, n = (m : Int) := ⟨n.toNat, by omega⟩
  intro c hc
  have := num_digits n (by omega) c hc
  have all : ∀ c ∈ (Str.ofString "0123456789").cps.toList, c < 128 := by decide +kernel
  exact all c this
theorem sg_dig {ts : List Int} (h : In 3 ts) : Sg (dig ts) := fun c hc => by
  rw [dig_cps] at hc
  obtain ⟨t, ht, rfl⟩ := List.mem_map.mp hc
  have := (h t ht).2
  omega
theorem sg_all {m : Int} {ks : List KD} (G : GoodT m ks) : ∀ ws ∈ allWords m ks, ∀ w ∈ ws, Sg w := by
  have hm := G.m_
  have m2 : 2 ≤ m := by rcases hm with rfl | rfl <;> decide
  have m3 : m ≤ 3 := by rcases hm with rfl | rfl <;> decide
  have in3 : ∀ {ts : List Int}, In m ts → In 3 ts := fun h t ht => ⟨(h t ht).1, by have := (h t ht).2; omega⟩
  intro ws hws w hw
  unfold allWords at hws
  rcases List.mem_cons.mp hws with rfl | hws
  · simp only [wSigns, List.mem_cons, List.not_mem_nil, or_false] at hw
    rcases hw with rfl | rfl
    · show ∀ c ∈ _, _; decide +kernel
    · exact sg_num (by omega) (by omega)
  obtain ⟨l, hl, hws⟩ := List.mem_flatten.mp hws
  obtain ⟨kd, hkd, rfl⟩ := List.mem_map.mp hl
  have Gk := G.good kd hkd
  have gi := Gk.inputs
  unfold kindWords at hws
  rcases List.mem_cons.mp hws with rfl | hws
  · simp only [wKind, List.mem_cons, List.not_mem_nil, or_false] at hw
    rcases hw with rfl | rfl | rfl | rfl
    · show ∀ c ∈ _, _; decide +kernel
    · exact sg_low Gk.name.low
    · exact sg_num (by omega) (by omega)
    · exact sg_num Gk.p0 Gk.p1
  rcases List.mem_append.mp hws with hws | hws
  · cases hst : kd.start with
    | none => rw [hst] at hws; cases hws
    | some x =>
      rw [hst] at hws
      obtain ⟨x0, x1⟩ := Gk.start x hst
      rw [List.mem_singleton.mp hws] at hw
      simp only [List.mem_cons, List.not_mem_nil, or_false] at hw
      rcases hw with rfl | rfl
      · show ∀ c ∈ _, _; decide +kernel
      · exact sg_num x0 (by omega)
  rcases List.mem_cons.mp hws with rfl | hws
  · simp only [wTable, List.mem_cons, List.not_mem_nil, or_false] at hw
    rcases hw with rfl | rfl
    · show ∀ c ∈ _, _; decide +kernel
    · exact sg_dig (in3 Gk.in_)
  · obtain ⟨wd, hwd, rfl⟩ := List.mem_map.mp hws
    have Gw := Gk.ways wd hwd
    simp only [wWay, List.mem_cons, List.not_mem_nil, or_false] at hw
    rcases hw with rfl | rfl | rfl
    · rcases Gw.word with e | e <;> rw [e] <;> (show ∀ c ∈ _, _; decide +kernel)
    · exact sg_low Gw.name.low
    · exact sg_dig (in3 Gw.in_)
theorem sg_lines {m : Int} {ks : List KD} (G : GoodT m ks) : ∀ s ∈ linesOf m ks, Sg s := fun s hs => by
  obtain ⟨ws, hws, rfl⟩ := List.mem_map.mp hs
  exact sg_line (sg_all G ws hws)
theorem len_lines {m : Int} {ks : List KD} (G : GoodT m ks) (l8 : ks.length ≤ 8) : ∀ s ∈ linesOf m ks, s.length ≤ 900 := fun s hs => by
  obtain ⟨ws, hws, rfl⟩ := List.mem_map.mp hs
  exact ((ls_all G l8).ok ws hws).len
theorem sm_lines {m : Int} {ks : List KD} (G : GoodT m ks) (l8 : ks.length ≤ 8) : SmA 65773 0 ((linesOf m ks).map PyData.str) := by
  have hl := lines_len (m := m) G.good
  exact (SmA.map (f := PyData.str) (a := 900) (k := 0) fun s hs => Sm.str (fun c hc => Nat.lt_of_lt_of_le (sg_lines G s hs c hc) (by decide)) (len_lines G l8 s hs)).mono (by omega) (Nat.le_refl _)
theorem shw_lines {m : Int} {ks : List KD} (G : GoodT m ks) (l8 : ks.length ≤ 8) : Shw (.tuple ((linesOf m ks).map PyData.str)) := (Sm.tup (sm_lines G l8)).shw (by decide) (by decide)
theorem lay_strs : ∀ {ls : List Str}, (∀ s ∈ ls, Sg s) → PyData.canLayAll0 (ls.map PyData.str) = true
  | [], _ => by simp [PyData.canLayAll0]
  | s :: r, h => by
    have h1 : PyData.canLay0 (.str s) = true := by
      simp only [PyData.canLay0]
      show (s.cps.all (· < 0x110000)) = true
      rw [Array.all_eq_true']
      intro c hc
      have := h s (List.mem_cons_self ..) c (by simpa using hc)
      exact decide_eq_true (by omega)
    rw [List.map_cons, PyData.canLayAll0, h1, lay_strs (ls := r) fun x hx => h x (List.mem_cons_of_mem _ hx)]
    rfl
theorem shaped_lines {m : Int} {ks : List KD} (G : GoodT m ks) (l8 : ks.length ≤ 8) : SeqAt.shaped (.list ((linesOf m ks).map PyData.str)) = true := by
  have h2 := (Sm.lst (sm_lines G l8)).dp
  unfold SeqAt.shaped
  rw [show PyData.canLay0 (.list ((linesOf m ks).map PyData.str)) = true by simp only [PyData.canLay0]; exact lay_strs (sg_lines G), decide_eq_true (Nat.le_trans h2 (by decide))]
  rfl
def spReadTold (K : Frg) : Sp := fun vs H Q _ => ∃ (t p : Addr) (m : Int) (ks : List KD), vs = [.ref t, .ref p] ∧ ToldAt K H t m ks ∧ GoodT m ks ∧ ks.length ≤ 8 ∧ (SqL K H p ((linesOf m ks).map V.str) ∨ SqT K H p ((linesOf m ks).map V.str)) ∧ ∀ H', Same H H' → Q (.bl true) H'
section
variable {P : Program} {w : World} {K : Frg} {mg : Str → Option Value} {base : Heap}
theorem sc_law_read_told : FnScope ["_law_told", "_law_lines", "_law_back", "_law_thing"] ["_law_told", "_law_lines"] (defScope s_law_read_told) := ⟨rfl, rfl, rfl, by decide +kernel, rfl, by decide +kernel, by decide +kernel⟩
theorem ok_law_read_told (T : Txt K mg) : OkG P w K mg base 9 (He.ga K "_law_read_told") ["_law_told", "_law_lines"] (spReadTold K) := by
  obtain ⟨fd, F⟩ := T.F_law_read_told
  have b : Binds K fd ["_law_told", "_law_lines"] [] := F.bindsN fun _ _ _ _ _ _ us hl => match us, hl with | [_, _], _ => rfl
  refine okG_of F b sc_law_read_told (fun vs H Q E h => ?_) (fun cdv A outer s H vs Q hgd hr h => ?_)
  · obtain ⟨t, p, m, ks, rfl, _⟩ := h
    rfl
  · obtain ⟨t, p, m, ks, rfl, ht, G, l8, hp, k⟩ := h
    have hm := G.m_
    have m2 : 2 ≤ m := by rcases hm with rfl | rfl <;> decide
    have m3 : m ≤ 3 := by rcases hm with rfl | rfl <;> decide
    obtain ⟨l, vs, g1, g2, hl, hvl, item⟩ := ht.kinds
    refine ⟨_, (pss_cons (ps_set (i := 2) sc_law_read_told.nd rfl (Or.inl rfl) (pk (ok_read_catalogue T) hr rfl T.g_read_catalogue (pa_cons (pv 1) pa_nil)))
  (pss_cons (ps_if (PW.pt (pw_or (pt_not (pt_val (pkG (ok_law_same T) hgd hr rfl T.g_law_same (pa_cons (pe_fld (pv 2) rfl) (pa_cons (pe_dget (hu_of hr) (pv 0) pe_str (fun _ _ => rfl)) pa_nil))))) (pw_or1 (pt_not (pt_val (pkG (ok_law_same T) hgd hr rfl T.g_law_same (pa_cons (pe_cmpR (op_eqG (rcG_own (ok_Catalogue_eq T) T.m_Catalogue_eq) (hr.mono (by decide))) (pv 2) (pk (ok_law_catalogue_of T) hr rfl T.g_law_catalogue_of (pa_cons (pv 0) pa_nil)) (by first | exact nomark _ | rfl)) (pa_cons pe_bl pa_nil)))))))) (pss_one (ps_ret pe_bl)) pss_nil)
  (pss_one (ps_ret (pkG (ok_law_same T) hgd hr rfl T.g_law_same (pa_cons (pe_lc (own := [("_law_thing", 3)]) rfl sc_law_read_told.nd (pi_own (pv 2) T.m_Catalogue_iter (ok_Catalogue_iter T) hr) (blkOk_by (own := [("_law_thing", 3)]) (N := ["_law_told", "_law_lines", "_law_back", "_law_thing"]) (sc := defScope s_law_read_told) (by decide +kernel)) (fun _ _ _ _ _ => (pg_name (i := 3) sc_law_read_told.nd rfl (Or.inl rfl))) (fun _ _ _ _ _ => pts_nil) (fun _ _ _ _ _ => (pk (ok_law_parts_of T) hr rfl T.g_law_parts_of (pa_cons (pv 3) pa_nil)))) (pa_cons (pe_dget (hu_of hr) (pv 0) pe_str (fun _ _ => rfl)) pa_nil))))))), ?_⟩
    walk_at "rd"
    refine ⟨p, m, ks, rfl, hp, G, l8, fun c H1 s1 hC => ?_⟩
    obtain ⟨dx, kp, q, as, hc, hkp, hk⟩ := hC.ex
    walk_at "rd"
    refine ⟨_, _, _, _, _, rfl, hc, T.c_Catalogue, T.n_Catalogue_signs, rfl, ?_⟩
    walk_at "rd"
    refine r_dgot (g1 _ s1) ?_
    walk_at "rd"
    refine r_same (E := E0) (.int m) (.int m) (shw_int (by omega) (by omega)) ?_
    refine r_bl (r_iF ?_)
    walk_at "rd"
    refine r_catOf (E := E0) (ht.same s1) G l8 fun c2 H2 s2 hC2 => ?_
    obtain ⟨dx2, kp2, q2, as2, hc2, _⟩ := hC2.ex
    refine r_eqG ⟨c, c2, _, _, _, _, rfl, rfl, s2 _ _ hc, hc2, m, ks, G, hC.sd (Sd.of s2), hC2⟩ fun H3 s3 => ?_
    walk_at "rd"
    refine r_same (E := E0) (.bl true) (.bl true) shw_true ?_
    refine r_bl (r_iF ?_)
    have s13 := s2.trans s3
    walk_at "rd"
    refine r_lcO rfl (s13 _ _ hc) ⟨dx, q, m, _, s13 _ _ hc, Sd.tup (Sd.of s13) hkp⟩ ?_
    refine lcT (P := fun i v H' => ∃ k, ks[i]? = some k ∧ Dp K H' v k.data) way_same (Same.refl _) (Sd.tup (Sd.of s13) hkp) (by rw [List.length_map, hk.len]; omega) (fun i v A B e ⟨k, h1, h2⟩ => ⟨k, h1, Dp.sd e _ _ (flat_kd k) h2⟩) (fun i v H4 hi e4 Qe q => ?_) fun D H4 ys hD e4 hy hyl hq => ?_
    · refine r_name ⟨rfl, ?_⟩
      obtain ⟨a, kd, ha, hkd, rfl, hK⟩ := (hk.sd (Sd.of (s13.trans e4))).get hi
      walk_at "rd"
      refine ⟨a, m, kd, rfl, hK, fun v H5 s5 hv => ?_⟩
      exact q _ _ s5 ⟨kd, hkd, hv⟩
    · have s4 := (s1.trans s13).trans e4
      walk_at "rd"
      refine r_dgot (g2 _ s4) ?_
      walk_at "rd"
      rw [List.length_map, hk.len] at hyl
      refine r_same (E := E0) (d := .list (ks.map KD.data)) (.lst (SqL.of hy) (DpAll.of_at (by rw [List.length_map]; exact hyl) fun i v d hv hd => ?_)) (.lst (SqL.of (s4 _ _ hl)) (DpAll.of_at (by rw [List.length_map]; exact hvl) fun i v d hv hd => ?_)) (shw_kinds G l8) (k _ s4)
      · obtain ⟨k2, h1, h2⟩ := hq i v hv
        rw [List.getElem?_map, h1] at hd
        cases (show some k2.data = some d from hd)
        exact h2
      · obtain ⟨k2, h1, h2⟩ := item i v _ s4 hv
        rw [List.getElem?_map, h1] at hd
        cases (show some k2.data = some d from hd)
        exact h2
end
end Tx

/-! ## Pr21 -/
set_option maxHeartbeats 4000000
/-! The law. -/
namespace Tx
open PySem PySem.Spec PyProof.Rows L2 Gd
local macro_rules | `(tactic| walk_at "rd1") => `(tactic| first
  | ((with_reducible show tVar _ _ _ _); refine r_var (by rfl) ?_)
  | with_reducible refine r_c ?_
  | with_reducible refine r_seq ?_
  | with_reducible refine r_asg ?_
  | with_reducible refine r_name ?_
  | with_reducible refine r_op ?_
  | with_reducible refine r_I0 ?_
  | with_reducible refine r_cons ?_
  | with_reducible refine r_nil ?_
  | with_reducible refine r_call ?_
  | with_reducible refine r_ret ?_
  | with_reducible refine r_cb ?_
  | with_reducible refine r_ifS ?_
  | with_reducible refine r_test ?_
  | with_reducible refine r_bl ?_
  | with_reducible refine r_dget ?_
  | with_reducible refine r_dput ?_
  | ((with_reducible show (∃ k, [V.int _] = [V.int k] ∧ _) ∨ _); refine Or.inl ⟨_, rfl, ?_⟩)
  | with_reducible refine r_lcR ?_
  | with_reducible refine r_lcL ?_
  | with_reducible refine r_lcT ?_
  | with_reducible refine r_m1 ?_
  | with_reducible refine r_gSub ?_
  | with_reducible refine r_forR ?_
  | with_reducible refine r_forL ?_
  | with_reducible refine r_forT ?_
  | with_reducible refine r_bm ?_
  | with_reducible refine r_next ?_
  | with_reducible refine r_B ?_
  | with_reducible refine r_not ?_
  | with_reducible refine r_and ?_
  | with_reducible refine r_or ?_
  | with_reducible refine r_andV ?_
  | with_reducible refine r_orV ?_
  | with_reducible refine r_notV ?_
  | with_reducible refine r_ifE ?_
  | with_reducible refine r_drop ?_
  | with_reducible refine r_tup ?_
  | with_reducible refine r_lst ?_
  | with_reducible refine r_un ?_
  | with_reducible refine r_U ?_)
local macro_rules | `(tactic| walk_at "rd") => `(tactic| repeat walk_at "rd1")
local macro_rules | `(tactic| walk_at "rd1") => `(tactic| first
  | with_reducible refine r_lcS ?_
  | with_reducible refine r_sl ?_
  | with_reducible refine r_noPart ?_
  | with_reducible refine r_partE ?_
  | with_reducible refine r_sfld ?_
  | with_reducible refine r_gc ?_
  | with_reducible refine r_gn ?_
  | with_reducible refine r_forE ?_
  | with_reducible refine r_makeK ?_
  | with_reducible refine r_make ?_
  | with_reducible refine r_fld ?_
  | with_reducible refine r_prop ?_
  | with_reducible refine r_meth ?_
  | with_reducible refine r_js ?_
  | with_reducible refine r_jn ?_
  | with_reducible refine r_fmt ?_
  | with_reducible refine r_chain ?_)
local macro_rules | `(tactic| walk_at "rd1") => `(tactic| first
  | with_reducible refine r_sfa ?_
  | with_reducible refine r_methR ?_)
/-- one of the two: what is told at t, and its catalogue at c -/
structure Two (K : Frg) (H : Hp) (t c : Addr) (m : Int) (ks : List KD) : Prop where
  told : ToldAt K H t m ks
  cat : CatAt K H c m ks
  good : GoodT m ks
  l8 : ks.length ≤ 8
theorem Two.same {K : Frg} {H H' : Hp} {t c : Addr} {m : Int} {ks : List KD} (h : Two K H t c m ks) (e : Same H H') : Two K H' t c m ks := ⟨h.told.same e, h.cat.sd (Sd.of e), h.good, h.l8⟩
def spLaw (K : Frg) : Sp := fun vs H Q _ => ∃ (a : Addr) (ns : List Int), vs = [.ref a] ∧ SqL K H a (ns.map V.int) ∧ ns.length ≤ 63 ∧ ∀ H', Q (.bl true) H'
section
variable {P : Program} {w : World} {K : Frg} {mg : Str → Option Value} {base : Heap}
theorem fnG_nox {x qual : Str} {params : Arguments} {body : List Stmt} {scope : Scope} {dvs : List V} {kws : List (Str × V)} {f : Addr} {fd : FuncData} {N ps : List Str} {k : Nat} {sp : Sp}
    (F : FunD K x qual params body scope dvs kws f fd) (S : FnScope N ps scope) (many : ∀ vs H Q E, sp vs H Q E → vs.length = ps.length)
    (hbody : ∀ (cdv : Value) (A : Around) (outer : List Env) (s : Shared) (H : Hp) (vs : List V) (Q : VK), A.guards = some [] →
      Room k (A.deeper (envOfC qual scope s.heap.objs.size f cdv)) → sp vs H Q E0 →
      ∃ t, PSs (cxOf CX0 P w K mg base N qual scope f cdv A outer s H E0).nox body t ∧ t { nx := fun _ H' => Q .non H', rt := Q } (L2.start N vs) H) :
    FnG P w K mg base (k + 1) f fd ps sp := fnG_of F S many fun cdv A outer s H vs Q hg hr h => by
  obtain ⟨t, p, q⟩ := hbody cdv A outer s H vs Q hg hr h
  exact ⟨t, p.nox, q⟩
theorem sc_law : FnScope ["_law_script", "_law_bag", "_law_both", "_law_made", "_law_k", "_law_due", "_law_told"] ["_law_script"] (defScope s_law) := ⟨rfl, rfl, rfl, by decide +kernel, rfl, by decide +kernel, by decide +kernel⟩
theorem fn_law (T : Txt K mg) {fd : FuncData} (F : FunD K d_law.name d_law.qual (defArgs s_law) (defBody s_law) (defScope s_law) (d_law.dvs K) (d_law.kws K) (d_law.place K) fd) :
    FnG P w K mg base 10 (He.ga K "law") fd ["_law_script"] (spLaw K) := by
  refine fnG_nox F sc_law (fun vs H Q E h => ?_) (fun cdv A outer s H vs Q hgd hr h => ?_)
  · obtain ⟨a, ns, rfl, _⟩ := h
    rfl
  · obtain ⟨a, ns, rfl, hs, hn, k⟩ := h
    refine ⟨_, (pss_cons (ps_set (i := 1) sc_law.nd rfl (Or.inl rfl) (pk (ok_law_bag_of T) hr rfl T.g_law_bag_of (pa_cons (pv 0) pa_nil)))
  (pss_cons (ps_set (i := 2) sc_law.nd rfl (Or.inl rfl) (pe_lst (pa_cons (pk (ok_law_drawn T) hr rfl T.g_law_drawn (pa_cons (pv 1) pa_nil)) (pa_cons (pk (ok_law_drawn T) hr rfl T.g_law_drawn (pa_cons (pv 1) pa_nil)) pa_nil))))
  (pss_cons (ps_setLc (i := 3) (own := [("_law_told", 6)]) rfl sc_law.nd rfl rfl (sw_true rfl rfl rfl (by decide +kernel)) (pi_list (pv 2)) (blkOk_by (own := [("_law_told", 6)]) (N := ["_law_script", "_law_bag", "_law_both", "_law_made", "_law_k", "_law_due", "_law_told"]) (sc := defScope s_law) (by decide +kernel)) (fun _ _ _ _ _ => (pg_name (i := 6) sc_law.nd rfl (Or.inl rfl))) (fun _ _ _ _ _ => pts_nil) (fun _ _ _ _ _ => (pk (ok_law_catalogue_of T) hr rfl T.g_law_catalogue_of (pa_cons (pv 6) pa_nil))))
  (pss_cons (ps_for PassesOwn.never rfl (pi_list (pe_lst (pa_cons pe_int (pa_cons pe_int (pa_cons pe_int pa_nil))))) (pg_name (i := 4) sc_law.nd rfl (Or.inl rfl)) (pss_cons (ps_set (i := 5) sc_law.nd rfl (Or.inl rfl) (pk (ok_law_lines_of T) hr rfl T.g_law_lines_of (pa_cons (pe_ix ix_list (pv 2) (pv 4) (fun _ _ => rfl)) pa_nil)))
  (pss_cons (ps_if (pt_not (pt_val (pkG (ok_law_same T) hgd hr rfl T.g_law_same (pa_cons (pk (ok_write_catalogue T) hr rfl T.g_write_catalogue (pa_cons (pe_ix ix_list (pv 3) (pv 4) (fun _ _ => rfl)) pa_nil)) (pa_cons (pe_callTy call_tuple_of (by rfl) T.f_tuple (by decide +kernel) (pa_cons (pv 5) pa_nil)) pa_nil))))) (pss_one (ps_ret pe_bl)) pss_nil)
  (pss_cons (ps_if (PW.pt (pw_or (pt_not (pt_val (pkG (ok_law_read_told T) hgd hr rfl T.g_law_read_told (pa_cons (pe_ix ix_list (pv 2) (pv 4) (fun _ _ => rfl)) (pa_cons (pe_callTy call_tuple_of (by rfl) T.f_tuple (by decide +kernel) (pa_cons (pv 5) pa_nil)) pa_nil))))) (pw_or1 (pt_not (pt_val (pkG (ok_law_read_told T) hgd hr rfl T.g_law_read_told (pa_cons (pe_ix ix_list (pv 2) (pv 4) (fun _ _ => rfl)) (pa_cons (pv 5) pa_nil)))))))) (pss_one (ps_ret pe_bl)) pss_nil)
  (pss_cons (ps_if (pt_cmpR (op_neD hr.units) (pv 5) (pk (ok_law_lines_of T) hr rfl T.g_law_lines_of (pa_cons (pe_ix ix_list (pv 2) (pv 4) (fun _ _ => rfl)) pa_nil)) (by first | exact nomark _ | rfl)) (pss_one (ps_ret pe_bl)) pss_nil)
  (pss_one (ps_if (pt_not (pt_val (pkG (ok_law_same T) hgd hr rfl T.g_law_same (pa_cons (pe_cmpR (op_eqG (rcG_own (ok_Catalogue_eq T) T.m_Catalogue_eq) (hr.mono (by decide))) (pe_ix ix_list (pv 3) (pv 4) (fun _ _ => rfl)) (pk (ok_law_catalogue_of T) hr rfl T.g_law_catalogue_of (pa_cons (pe_ix ix_list (pv 2) (pv 4) (fun _ _ => rfl)) pa_nil)) (by first | exact nomark _ | rfl)) (pa_cons pe_bl pa_nil))))) (pss_one (ps_ret pe_bl)) pss_nil)))))))
  (pss_one (ps_ret pe_bl)))))), ?_⟩
    walk_at "rd"
    refine ⟨a, ns, rfl, hs, hn, fun β H1 s1 nb B => ?_⟩
    walk_at "rd"
    refine r_drawn (E := E0) B fun t0 m0 ks0 H2 e2 nt0 ht0 G0 l0 => ?_
    walk_at "rd"
    refine r_drawn (E := E0) e2.bag fun t1 m1 ks1 H3 e3 nt1 ht1 G1 l1 => ?_
    have ht0 : ToldAt K H3 t0 m0 ks0 := ht0.bg e3 (by
      rintro rfl
      obtain ⟨kvs, hb⟩ := bag_dK e2.old
      rw [nt0] at hb
      cases hb)
    walk_at "rd"
    refine ⟨by show 2 ≤ sizeLine; decide, fun b hb => ?_⟩
    have s4 := Same.upd (o := .lst [V.ref t0, V.ref t1]) hb
    have hB : upd H3 b (.lst [V.ref t0, V.ref t1]) b = some (.lst [V.ref t0, V.ref t1]) := upd_same
    have ht0 := ht0.same s4
    have ht1 := ht1.same s4
    generalize upd H3 b (.lst [V.ref t0, V.ref t1]) = H4 at hB ht0 ht1 ⊢
    walk_at "rd"
    refine lcL (P := fun i v H' => ∃ c, v = .ref c ∧ (i = 0 → CatAt K H' c m0 ks0) ∧ (i = 1 → CatAt K H' c m1 ks1)) way_same (Same.refl _) (SqL.of hB) (by show 2 ≤ 100000; decide) (fun i v A B e ⟨c, h1, h2, h3⟩ => ⟨c, h1, fun z => (h2 z).sd e, fun z => (h3 z).sd e⟩) (fun i v H5 hi e5 Qe q => ?_) fun D H5 ys hD e5 hy hyl hq => ?_
    · refine r_name ⟨rfl, ?_⟩
      walk_at "rd"
      match i, hi with
      | 0, hi =>
        cases (show some (V.ref t0) = some v from hi)
        exact r_catOf (E := E0) (ht0.same e5) G0 l0 fun c H6 s6 hC => q _ _ s6 ⟨c, rfl, fun _ => hC, fun z => absurd z (by decide)⟩
      | 1, hi =>
        cases (show some (V.ref t1) = some v from hi)
        exact r_catOf (E := E0) (ht1.same e5) G1 l1 fun c H6 s6 hC => q _ _ s6 ⟨c, rfl, fun z => absurd z (by decide), fun _ => hC⟩
      | i + 2, hi => cases (show (none : Option V) = some v from by simpa using hi)
    have hyl : ys.length = 2 := hyl
    obtain ⟨y0, y1, rfl⟩ : ∃ y0 y1, ys = [y0, y1] := by
      match ys, hyl with
      | [y0, y1], _ => exact ⟨y0, y1, rfl⟩
    obtain ⟨c0, rfl, hc0, _⟩ := hq 0 _ rfl
    obtain ⟨c1, rfl, _, hc1⟩ := hq 1 _ rfl
    have W0 : Two K H5 t0 c0 m0 ks0 := ⟨ht0.same e5, hc0 rfl, G0, l0⟩
    have W1 : Two K H5 t1 c1 m1 ks1 := ⟨ht1.same e5, hc1 rfl, G1, l1⟩
    have hB := e5 _ _ hB
    have two : ∀ j : Int, j = 0 ∨ j = 1 → ∃ t c m ks, atI [V.ref t0, V.ref t1] j = some (.ref t) ∧ atI [V.ref c0, V.ref c1] j = some (.ref c) ∧ Two K H5 t c m ks := by
      rintro j (rfl | rfl)
      · exact ⟨t0, c0, m0, ks0, rfl, rfl, W0⟩
      · exact ⟨t1, c1, m1, ks1, rfl, rfl, W1⟩
    walk_at "rd"
    refine ⟨by show 3 ≤ sizeLine; decide, fun z hz => ?_⟩
    have s6 := Same.upd (o := .lst [V.int 0, V.int 1, V.int 0]) hz
    have hZ : upd H5 z (.lst [V.int 0, V.int 1, V.int 0]) z = some (.lst [V.int 0, V.int 1, V.int 0]) := upd_same
    generalize upd H5 z (.lst [V.int 0, V.int 1, V.int 0]) = H6 at s6 hZ ⊢
    have hB6 := s6 _ _ hB
    have hD6 := s6 _ _ hy
    refine forL (fun j σ' H' => ∃ o4 o5 : Option V, σ' = [some (.ref a), some (.ref β.b), some (.ref b), some (.ref D), o4, o5, none] ∧ Same H6 H') (SqL.of hZ) ⟨none, none, rfl, Same.refl _⟩ (fun j σ' H' _ z => ?_) ?_ ?_
    · obtain ⟨_, _, _, z⟩ := z
      exact SqL.of (z _ _ hZ)
    · rintro j v σ' H7 hv ⟨o4, o5, rfl, s7⟩
      obtain ⟨jj, rfl, hjj⟩ : ∃ jj : Int, v = .int jj ∧ (jj = 0 ∨ jj = 1) := by
        have := List.mem_of_getElem? hv
        simp only [List.mem_cons, List.not_mem_nil, or_false] at this
        rcases this with rfl | rfl | rfl <;> exact ⟨_, rfl, by decide⟩
      obtain ⟨t, c, m, ks, htt, hcc, W⟩ := two jj hjj
      have W := (W.same s6).same s7
      have hBB : ∀ {H'}, Same H7 H' → SqL K H' b [V.ref t0, V.ref t1] := fun e => SqL.of (e _ _ (s7 _ _ hB6))
      have hDD : ∀ {H'}, Same H7 H' → SqL K H' D [V.ref c0, V.ref c1] := fun e => SqL.of (e _ _ (s7 _ _ hD6))
      walk_at "rd"
      refine r_ixL (hBB (Same.refl _)) htt ?_
      walk_at "rd"
      refine r_linesOf (E := E0) W.told W.good W.l8 fun p H8 s8 np hp => ?_
      walk_at "rd"
      refine r_ixL (hDD s8) hcc ?_
      walk_at "rd"
      refine ⟨c, m, ks, rfl, (W.same s8).cat, W.good, W.l8, fun p1 H9 s9 hp1 => ?_⟩
      have s9' := s8.trans s9
      walk_at "rd"
      refine ⟨_, _, rfl, .inl ⟨SqL.of (s9 _ _ hp), fun q hq => ?_⟩⟩
      have s10 := Same.upd (o := .tup ((linesOf m ks).map V.str)) hq
      have hq10 : upd H9 q (.tup ((linesOf m ks).map V.str)) q = some (.tup ((linesOf m ks).map V.str)) := upd_same
      generalize upd H9 q (.tup ((linesOf m ks).map V.str)) = H10 at s10 hq10 ⊢
      have s10' := s9'.trans s10
      have hp10 := s10 _ _ (s9 _ _ hp)
      walk_at "rd"
      refine r_same (E := E0) (d := .tuple ((linesOf m ks).map PyData.str)) (.tup (SqT.of (s10 _ _ hp1)) DpAll.strs) (.tup (SqT.of hq10) DpAll.strs) (shw_lines W.good W.l8) ?_
      refine r_bl (r_iF ?_)
      walk_at "rd"
      refine r_ixL (hBB s10') htt ?_
      walk_at "rd"
      refine ⟨_, _, rfl, .inl ⟨SqL.of hp10, fun q2 hq2 => ?_⟩⟩
      have s11 := Same.upd (o := .tup ((linesOf m ks).map V.str)) hq2
      have hq11 : upd H10 q2 (.tup ((linesOf m ks).map V.str)) q2 = some (.tup ((linesOf m ks).map V.str)) := upd_same
      generalize upd H10 q2 (.tup ((linesOf m ks).map V.str)) = H11 at s11 hq11 ⊢
      have s11' := s10'.trans s11
      walk_at "rd"
      refine ⟨t, q2, m, ks, rfl, (W.same s11').told, W.good, W.l8, .inr (SqT.of hq11), fun H12 s12 => ?_⟩
      have s12' := s11'.trans s12
      have hp12 := s12 _ _ (s11 _ _ hp10)
      refine r_bl (r_iF ?_)
      walk_at "rd"
      refine r_ixL (hBB s12') htt ?_
      walk_at "rd"
      refine ⟨t, p, m, ks, rfl, (W.same s12').told, W.good, W.l8, .inl (SqL.of hp12), fun H13 s13 => ?_⟩
      have s13' := s12'.trans s13
      have hp13 := s13 _ _ hp12
      refine r_bl (r_iF ?_)
      walk_at "rd"
      refine r_ixL (hBB s13') htt ?_
      walk_at "rd"
      refine r_linesOf (E := E0) (W.same s13').told W.good W.l8 fun p2 H14 s14 np2 hp2 => ?_
      have s14' := s13'.trans s14
      refine r_neD (.lst (SqL.of (s14 _ _ hp13)) DpAll.strs) (.lst (SqL.of hp2) DpAll.strs) (shaped_lines W.good W.l8) (shaped_lines W.good W.l8) ?_
      rw [eqv_self (shaped_lines W.good W.l8)]
      refine r_bl (r_iF ?_)
      walk_at "rd"
      refine r_ixL (hDD s14') hcc ?_
      walk_at "rd"
      refine r_ixL (hBB s14') htt ?_
      walk_at "rd"
      refine r_catOf (E := E0) (W.same s14').told W.good W.l8 fun c9 H15 s15 hC9 => ?_
      have s15' := s14'.trans s15
      have hC := (W.same s15').cat
      obtain ⟨_, _, _, _, i1, _⟩ := hC.ex
      obtain ⟨_, _, _, _, i2, _⟩ := hC9.ex
      refine r_eqG ⟨c, c9, _, _, _, _, rfl, rfl, i1, i2, m, ks, W.good, hC, hC9⟩ fun H16 s16 => ?_
      walk_at "rd"
      refine r_same (E := E0) (.bl true) (.bl true) shw_true ?_
      refine r_bl (r_iF ?_)
      walk_at "rd"
      exact ⟨_, _, rfl, s7.trans (s15'.trans s16)⟩
    · rintro σ' H7 ⟨o4, o5, rfl, s7⟩
      walk_at "rd"
      exact k H7
end
end Tx

/-! ## End -/
set_option maxHeartbeats 4000000
namespace Tx
open PySem PySem.Spec PyProof.Rows L2 Gd
theorem facts {P : Program} {w : World} {K : Frg} {h : Heap} {mg : Str → Option Value} {f : Addr} (X : K.In h) (G : h.Ns mainGlobals mg) (hfa : mg ("law" : Str) = some (.ref f)) (c : Tells ts ds K) :
    ∃ fd : FuncData, (∀ (s : Shared) (v : Value), BindsTo s fd ⟨[v], []⟩ [("_law_script", v)]) ∧ ∀ base : Heap, K.In base → base.Ns mainGlobals mg → FnG P w K mg base 10 f fd ["_law_script"] (spLaw K) := by
  have T : Txt K mg := ⟨c, h, X, G⟩
  have e := hfa.symm.trans T.g_law
  cases e
  obtain ⟨fd, F⟩ := T.F_law
  have b := FunD.bindsA (ps := ["_law_script"]) F fun _ _ _ _ _ _ us hl => match us, hl with | [_], _ => rfl
  refine ⟨fd, fun s v => b s [v] rfl, fun base _ _ => ?_⟩
  exact fn_law T F
end Tx
open PySem PySem.W PySem.Calls PyProof.Rows
theorem PySem.Challenge.cw_tinkerhall_k07_catalogue_lines_holds : PySem.Challenge.rw_tinkerhall_k07_catalogue_lines.Holds := by
  w_on; o_law
  refine HandSHeadRun.head_any (r := OpenLaw.row PySem.Challenge.rw_tinkerhall_k07_catalogue_lines) (q := Tx.qv) (H := Tx.hk) (ob := Tx.ob) (M := 9000) (loose := Tx.names) (d := HandSHeadRun.topDef (OpenLaw.row PySem.Challenge.rw_tinkerhall_k07_catalogue_lines).prog 61) (kwd := []) Tx.ob_eq
    (by kernel_rfl) (fun s => by kernel_rfl) Tx.run (by kernel_rfl) (by kernel_rfl) (by kernel_rfl) (by rfl) (by first | assumption | decide +kernel) (by decide +kernel) ⟨rfl, rfl, rfl, rfl, rfl, by decide +kernel⟩ ?hw ?hc
  case hw => w_witness2
  case hc =>
    refine Gd.walk_G (l := PySem.Challenge.rw_tinkerhall_k07_catalogue_lines) (n := 63) (k := 10) (x := "_law_script") rfl (by decide) (by kernel_rfl) ⟨rfl, by decide, by decide⟩ ?F
    intro w mg fa h Y G hmg0
    obtain ⟨K, KX, c⟩ := Y
    have hmg : mg ("law" : PySem.Str) = some (.ref fa) := by
      have e : (HandSHeadRun.topDef (OpenLaw.row PySem.Challenge.rw_tinkerhall_k07_catalogue_lines).prog 61).name = ("law" : PySem.Str) := by kernel_rfl
      rw [← e]
      exact hmg0
    obtain ⟨fd, hb, hF⟩ := Tx.facts (P := (PySem.Challenge.rw_tinkerhall_k07_catalogue_lines).prog) (w := w) KX G hmg c
    exact ⟨K, fd, Tx.spLaw K, KX, hb, fun H a ns hl _ hS => ⟨a, ns, rfl, hS, hl, fun _ => rfl⟩, hF⟩
