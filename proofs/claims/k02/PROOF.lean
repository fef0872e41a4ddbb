import PyProof.Rows.All
import Wide.All
import OpenK.AllK
import Wide.FinOn
import HandS.ForMost
import HandS.Flow
import HandS.EndBits
import HandS.ListItems
import HandS.NoneIn
import HandS.IsInst
import HandS.Walk
import KE.KDictWalk
import KE.KDictDisplayH
import KE.KDictCopyH
import KE.KItemsList
import KE.KDictList
import PySem.Challenge.RW_swaphouse_k02_whole_notices
import PyProof.EnumMake
import PyProof.Draws
import PyProof.TupleIter
import KE.GoesMore
import HandS.Lambda
import HandS.HeadHook1
import HandS.SetKeys
import HandS.CallLocal
import HandS.HeadHook4
import HandS.DictComp
import HandS.More
import HandS.WordsExc
import HandS.Exc
import HandS.ExcInit
import HandS.ExcField
import HandS.DictEq
import HandS.OwnEq
import KE.KEqDict
import HandS.Zip
import HandS.Small
import HandS.MakeKwOnly
import HandS.Defaults
import PyProof.ReprRoads
import PyProof.Rows.SortStr
import PyProof.Rows.StrMeet
import HandS.Codes
import HandS.Style
import HandS.TryMany
import HandS.Conv
import KE.KStateDown
import HandS.EndTab
import HandS.Head0
import HandS.Head1
import HandS.Head2
import HandS.HeadEnd
import HandS.HeadHook2
import HandS.HeadHook3
set_option Elab.async false
set_option linter.all false
set_option maxRecDepth 100000
set_option maxHeartbeats 0
/-! Defs that ask what repr says: the layer's promise of a def, told only where no repr runs around it. -/
namespace Mg
open PySem PySem.Spec PyProof.Rows L2
structure FnG (P : Program) (w : World) (K : PySem.W.Frag) (mg : Str → Option Value) (base : Heap) (k : Nat) (f : Addr) (fd : FuncData) (ps : List Str) (sp : Sp) : Prop where
  long : ∀ vs H Q E, sp vs H Q E → vs.length = ps.length
  goes : ∀ (A : Around) (outer : List Env) (s : Shared) (H : Hp) (args : Args) (us : List Value) (vs : List V) (Q : VK) (E : XK), A.guards = some [] → Room k A →
    Env0 P w K mg base A outer s H → BindsTo s fd args (ps.zip us) → Vals vs us → sp vs H Q E → codeAny (model P w) A (.call (.ref f) args) (CR CX0 outer P w H s Q E) s
section
variable {P : Program} {w : World} {K : PySem.W.Frag} {mg : Str → Option Value} {base : Heap}
theorem FnG.made {x qual : Str} {st : Stmt} {f : Addr} {fd : FuncData} {N ps : List Str} {k : Nat} {sp : Sp} (F : Fun K x qual st f fd) (S : FnScope N ps (defScope st))
    (long : ∀ vs H Q E, sp vs H Q E → vs.length = ps.length)
    (hb : ∀ (cdv : Value) (A : Around) (outer : List Env) (s : Shared) (H : Hp) (vs : List V) (Q : VK) (E : XK), A.guards = some [] → Room k (A.deeper (envOfC qual (defScope st) s.heap.objs.size f cdv)) → sp vs H Q E →
      ∃ t, PSs (cxOf CX0 P w K mg base N qual (defScope st) f cdv A outer s H E).nox (defBody st) t ∧ t { nx := fun _ H' => Q .non H', rt := Q } (start N vs) H) : FnG P w K mg base (k + 1) f fd ps sp := by
  obtain ⟨oc, od, kV, doc, pm, an, cdv, ct, osl, rfl, lk, hcd⟩ := F.ex
  refine ⟨long, fun A outer s H args us vs Q E hgd hr e0 hbi r hsp => ?_⟩
  have hl := long _ _ _ _ hsp
  have up : ∀ b o, base.get? b = some o → s.heap.get? b = some o :=
    fun b o e => (e0.bs b o e).1
  have KX : K.In s.heap := e0.mod.kin.keeps up
  have lim : s.heap.NoLimit := e0.mod.nolimit.keeps up
  have hk : ∀ y ∈ ps.zip us, (defScope st).names.lookup y.1 = some .local ∨ ((defScope st).names.lookup y.1 = some .cell ∧ ((cellsFrom (s.heap.objs.size + 1) (defScope st).names []).lookup y.1).isSome = true) := by
    intro y hy
    obtain ⟨n, v⟩ := y
    rcases S.par n (List.of_mem_zip hy).1 with q | q
    · left
      exact q
    · right
      exact ⟨q, PySem.W.cellsFrom_some _ _ _ (.inl q)⟩
  refine codeAny_call_function hr.depth (KX _ _ lk) rfl S.co S.gen rfl
    (PySem.W.codeRec_of KX hcd) (hbi _ _ _ _ ?_)
  refine wpAny_newFunctionEnv_cells S.kind hk
    fun env he s1 x => ?_
  subst he
  refine ⟨lim.keeps x.toInCall.keep,
    codeAny_func ?_⟩
  obtain ⟨t, ht, hq⟩ := hb cdv A outer s H vs Q E hgd (hr.deeper _) hsp
  have I : Inv (cxOf CX0 P w K mg base N qual (defScope st) f cdv A outer s H E) [] (start N vs) H s1 :=
    inv_start S hr.hd e0 hl r x
  refine wpAny_mono (ht.nox.run [] s1 (start N vs) H _ I hq)
    (fun fl s' hs => ?_) fun e s' hs => hs
  have fin : ∀ {σ' : L2.St} {H' : Hp} {v : V} {u : Value}, Inv (cxOf CX0 P w K mg base N qual (defScope st) f cdv A outer s H E) [] σ' H' s' → RelV v u → Q v H' → CE outer P w H s Q u s' :=
    fun {σ' H' v u} J rv q =>
      ⟨v, H', J.os, J.bare, J.base, J.hok, rv, q⟩
  cases fl with
  | ret u =>
    obtain ⟨v, _, _, J, rv, q⟩ := hs
    exact fin J rv q
  | next =>
    obtain ⟨_, _, J, q⟩ := hs
    exact fin (v := V.non) (u := Value.none) J rfl q
  | brk =>
    obtain ⟨_, _, _, q⟩ := hs
    exact q.elim
  | cont =>
    obtain ⟨_, _, _, q⟩ := hs
    exact q.elim
end
section
variable {X : Cx} {k : Nat} {f : Addr} {fd : FuncData} {ps : List Str} {sp : Sp} {x : Str} {p pos : Pos} {e : Expr} {es : List Expr} {t : TA}
theorem pe_callG (F : FnG X.prog X.w X.K X.mg X.base k f fd ps sp) (hgd : X.A.guards = some []) (hr : Room k X.A) (hg : Gl X x) (hm : X.mg x = some (.ref f))
    (hk : PySem.W.keepIn X.K (.ref f) = true) (hb : Binds X.K fd ps []) (ha : PA X (e :: es) t)
    (hdb : (x == ("__debug__" : Str)) = false := by decide) (he : starEach (e :: es) X.env = (false, eval e X.env) :: starEach es X.env := by rfl)
    (hpl : (backTo pos (starEach es X.env)).any (·.1) = false := by rfl) :
    PE X (.Call (.Name x p) (e :: es) [] pos) (tCall sp [] E0 t) := by
  refine ⟨fun pins s σ H Q I h => ?_⟩
  refine wpAny_Call_Name_kw (ld_glob I hg hm ?_ hdb)
  refine PySem.W.callWith_K (h₀ := X.base) I.ok.mod.kin hk (thn (ha.run pos pins s σ H _ I h)
    fun us s1 ⟨vs, H1, I1, r, q⟩ => ⟨I1.kIn, ?_⟩) he hpl
  have q' : sp (vs ++ []) H1 Q E0 := q
  rw [List.append_nil] at q'
  have hl : us.length = ps.length := by
    rw [← r.length]
    exact F.long _ _ _ _ q'
  have bt := hb s1 us I1.kIn (by rw [List.append_nil]; exact hl)
  rw [List.append_nil] at bt
  refine wpAny_call (codeAny_mono (F.goes X.A X.stack s1 H1 ⟨us, []⟩ us vs Q E0 hgd hr I1.env0 bt r q')
    fun r s' hq => ?_)
  cases r with
  | error e => exact False.elim hq
  | ok fl =>
    cases fl with
    | ret u => exact I1.after hq
    | next => exact False.elim hq
    | brk => exact False.elim hq
    | cont => exact False.elim hq
end
/-- the law's promise at the heap behind the top -/
theorem law_goes {P : Program} {w : World} {K : PySem.W.Frag} {mg mb : Str → Option Value} {k : Nat} {fa a : Addr} {fd : FuncData} {x : Str} {sp : Sp} {s1 : Shared} {vs : List Value} {ns : List Int}
    (KX : K.In s1.heap) (hns : s1.heap.Ns mainGlobals mg) (hb : s1.heap.Ns builtinsNs mb) (hbb : ∀ x : Str, x ≠ "__name__" → mb x = bootBuiltins x)
    (hlim : s1.heap.NoLimit) (hg : s1.gens = #[])
    (ha : s1.heap.get? a = some { cls := .type "list", data := .seq vs.toArray }) (hi : IntsAre vs ns)
    (hl : ns.length ≤ sizeLine) (hr : Room k callerA)
    (F : ∀ base : Heap, K.In base → base.Ns mainGlobals mg → FnG P w K mg base k fa fd [x] sp)
    (hbind : ∀ (s : Shared) (u : Value), BindsTo s fd ⟨[u], []⟩ [(x, u)])
    (hsp : ∀ H : Hp, Only H → SqL K H a (ns.map V.int) → sp [.ref a] H (fun v _ => v = .bl true) fun _ _ _ => False) :
    codeAny (model P w) callerA (.call (.ref fa) ⟨[.ref a], []⟩)
      (fun r s' => r = .ok (.ret (.bool true)) ∧ OldK s1.heap s'.heap ∧ s'.os = s1.os ∧ AllBare s'.gens) s1 := by
  have rv := vals_ints hi
  have lenV := hi.length
  have core : ∀ H : Hp, Only H → SqL K H a (ns.map V.int) → HOk P w H s1.heap →
      (∀ b, H b ≠ none → b = a) → (H a ≠ none → K.lookup a = none) →
      codeAny (model P w) callerA (.call (.ref fa) ⟨[.ref a], []⟩)
        (fun r s' => r = .ok (.ret (.bool true)) ∧ OldK s1.heap s'.heap ∧ s'.os = s1.os ∧ AllBare s'.gens) s1 := by
    intro H hO hS hok hA hK
    have eqa : ∀ {b : Addr} {u : HO}, H b = some u → b = a :=
      fun {b u} q => hA b (by rw [q]; simp)
    have base_of : ∀ {b : Addr} {o : Obj}, s1.heap.get? b = some o → H b = none → (hidT s1.heap H).get? b = some o :=
      fun e n => hidT_get e n
    have noA : ∀ {b : Addr} {o : Obj} {es : Array DictEntry} {ep : Nat},
        s1.heap.get? b = some o → o.data = .dict es ep → H b = none := by
      intro b o es ep e d
      cases q : H b with
      | none => rfl
      | some u =>
        have e' := eqa q
        subst e'
        rw [ha] at e
        cases e
        have d' : Data.seq vs.toArray _ = Data.dict es ep := d
        cases d'
    have nsK : ∀ {b : Addr} {m : Str → Option Value}, s1.heap.Ns b m → (hidT s1.heap H).Ns b m := by
      intro b m z
      obtain ⟨o, es, ep, e, d, r⟩ := z
      exact ⟨o, es, ep, base_of e (noA e d), d, r⟩
    have hKb : K.In (hidT s1.heap H) := by
      intro b o e
      refine base_of (KX b o e) ?_
      cases q : H b with
      | none => rfl
      | some u =>
        have e' := eqa q
        subst e'
        rw [hK (by rw [q]; simp)] at e
        cases e
    obtain ⟨mc, lim1, lim2⟩ := hlim
    have hM : Mod K mg (hidT s1.heap H) :=
      ⟨hKb, nsK hns, ⟨mb, nsK hb, hbb⟩, ⟨mc, nsK lim1, lim2⟩⟩
    have nil : ∀ b : Addr, b ∉ ([] : List Addr) := fun b => by simp
    have e0 : Env0 P w K mg (hidT s1.heap H) callerA [] s1 H :=
      ⟨rfl, hM, fun b o e => of_hidT e, Nat.le_of_eq (hidT_size _ _), trivial,
        fun b z => (nil b z).elim, hok, .of_eq hg⟩
    refine codeAny_mono ((F _ hKb (nsK hns)).goes callerA [] s1 H ⟨[.ref a], []⟩ [.ref a] [.ref a] _ _ rfl hr e0
      (hbind s1 (.ref a)) (.cons rfl .nil) (hsp H hO hS)) fun r s' h => ?_
    cases r with
    | error e => exact False.elim h
    | ok fl =>
      cases fl with
      | next => exact h.elim
      | brk => exact h.elim
      | cont => exact h.elim
      | ret u =>
        obtain ⟨v, H', os, bare, un, hok', r', q⟩ := h
        have q' : v = .bl true := q
        subst q'
        obtain rfl : u = Value.bool true := r'
        refine ⟨rfl, OldK.of_keep fun b o e => ?_, os, bare⟩
        cases q : H b with
        | none => exact un.keep b o e q (nil b) (by simp)
        | some u =>
          rcases hO b with z | ⟨ob, xs, z⟩
          · rw [q] at z
            cases z
          · have z2 := un.frzs b ob _ z
            obtain ⟨e1, _⟩ := hok b _ z
            obtain ⟨e2, _⟩ := hok' b _ z2
            rw [e] at e1
            cases e1
            exact e2
  cases hk : K.lookup a with
  | some o =>
    have e := KX a o hk
    rw [ha] at e
    cases e
    refine core (fun _ => none) (fun _ => .inl rfl)
      (.inr ⟨_, vs.toArray, _, hk, rfl, rfl, rfl, by rw [List.size_toArray, lenV]; exact hl, by simpa using rv⟩)
      (fun b u z => ?_) (fun b z => absurd rfl z) fun z => absurd rfl z
    have z' : (none : Option HO) = some u := z
    cases z'
  | none =>
    refine core (fun b => if b = a then some (.frz { cls := .type "list", data := .seq vs.toArray } (.lst (ns.map V.int))) else none)
      (fun b => ?_) (.inl (.inr ⟨{ cls := .type "list", data := .seq vs.toArray }, if_pos rfl⟩))
      (fun b u z => ?_) (fun b z => ?_) fun _ => hk
    · by_cases hb : b = a
      · right
        exact ⟨_, _, if_pos hb⟩
      · left
        exact if_neg hb
    · by_cases hb : b = a
      · have z' := (if_pos hb).symm.trans z
        cases z'
        subst hb
        exact ⟨ha, by rw [List.length_map]; exact hl, vs, _, rv, ha⟩
      · have z' := (if_neg hb).symm.trans z
        cases z'
    · by_cases hb : b = a
      · exact hb
      · exact absurd (if_neg hb) z
theorem walkG {l : PySem.W.OpenLaw} {n k : Nat} {q : Program} {loose : List Str} {XP : (Str → Option Value) → Heap → Prop} {YP : World → Heap → Prop}
    {d : DefRec} {K : Params → PySem.W.Frag} {sp : World → Sp} {x : Str}
    (hn : l.most = some n) (hn2 : n ≤ sizeLine) (hdf : d.params.defaults = []) (hr : Room k callerA)
    (hY : ∀ (w : World) (h : Heap), YP w h → (K w.params).In h)
    (F : ∀ (w : World) (mg : Str → Option Value) (fa : Addr) (h : Heap), (K w.params).In h → h.Ns mainGlobals mg → mg d.name = some (.ref fa) →
      ∃ fd : FuncData, (∀ (s : Shared) (u : Value), BindsTo s fd ⟨[u], []⟩ [(x, u)]) ∧
        ∀ base : Heap, (K w.params).In base → base.Ns mainGlobals mg → FnG l.prog w (K w.params) mg base k fa fd [x] (sp w))
    (hsp : ∀ (w : World) (H : Hp) (a : Addr) (ns : List Int), ns.length ≤ n → (∀ z ∈ ns, Builtin.Int.intBits z ≤ 1048576) → Only H →
      SqL (K w.params) H a (ns.map V.int) → sp w [.ref a] H (fun v _ => v = .bl true) fun _ _ _ => False) :
    PySem.W.WalkO q loose XP YP l.row.toRowW d [] (fun f vs => PySem.call f vs) := by
  refine Att.attach_callB hn hdf fun w s0 s1 mg mb fa o pm cd doc a vs ns G Y ho hd hcd hmg hobj hints hlen hbits hg => ?_
  obtain ⟨fd, hb, hF⟩ := F w mg fa _ (hY w _ Y) G.T.g hmg
  exact law_goes (hY w _ Y) G.T.g G.T.b G.T.builtins G.T.nolimit hg hobj hints (Nat.le_trans hlen hn2) hr hF hb
    fun H hO hS => hsp w H a ns hlen hbits hO hS
end Mg
/-! dicts of one entry whose key is None or a tuple -/
namespace Mo
open PySem PySem.Spec PyProof.Rows L2
section
variable {prog : Program} {w : World} {A : Around} {E : Value → Shared → Prop} {s : Shared}
theorem tell_quiet {a : Addr} {ks : List Key} {st : List Value} {Q : Bool → Shared → Prop} (hk : (tupleKind (mixKind prog w)).is s.heap ks a) (hs : ∀ v ∈ st, carriedByValue v = true) (h : Q false s) : wpAny (model prog w) A (tableMayTell (.ref a) st) Q E s := by
  unfold tableMayTell
  split
  · exact wpAny_pure h
  · refine wpAny_bind ((tupleKind (mixKind prog w)).quiet hk ?_)
    simp only [Bool.not_true, Bool.false_eq_true, if_false]
    refine wpAny_bind ?_
    refine wpAny_forIn_list _ (fun rest r s' => s' = s ∧ r = (none, ()) ∧ ∀ v ∈ rest, carriedByValue v = true) _ ?_ ?_ _ _ ⟨rfl, rfl, hs⟩
    · rintro x rest r s' ⟨rfl, rfl, hr⟩
      rw [eqIsQuiet_byValue _ (hr x List.mem_cons_self)]
      refine wpAny_bind (wpAny_pure ?_)
      simp only [Bool.not_true, Bool.false_eq_true, if_false]
      exact wpAny_pure ⟨rfl, rfl, fun v hv => hr v (List.mem_cons_of_mem _ hv)⟩
    · rintro r s' ⟨rfl, rfl, _⟩
      exact wpAny_pure h
theorem find_foreign {d a : Addr} {o : Obj} {es : Array DictEntry} {ep : Nat} {ks : List Key} {hh : Int} {Q : Option Nat → Shared → Prop} (hu : A.units < cLine) (hk : (tupleKind (mixKind prog w)).is s.heap ks a) (hL : ∃ its, s.heap.IsTuple a its) (ho : s.heap.get? d = some o) (hd : o.data = .dict es ep)
    (hs : ∀ e ∈ es, ∃ k : Key, keyIs k e.key = true) (h : Q none s) : wpAny (model prog w) A (dictFind d (.ref a) hh) Q E s := by
  obtain ⟨its, hL⟩ := hL
  have byv : ∀ e ∈ es, carriedByValue e.key = true ∧ e.key ≠ .ref a := fun e he => by
    obtain ⟨k, hk⟩ := hs e he
    rcases keyIs_shape hk with ⟨i, t, _, q⟩ | ⟨x, t, _, q⟩ <;> (rw [q]; exact ⟨rfl, fun z => by cases z⟩)
  have inL : ∀ {i : Nat} {e : DictEntry}, es[i]? = some e → e ∈ es := fun {i e} q => Array.mem_of_getElem? q
  have hst : ∀ v ∈ (placesWithHash es.size (fun i => es[i]?.map (·.hash)) hh).filterMap (fun i => es[i]?.map (·.key)), carriedByValue v = true ∧ v ≠ .ref a := by
    intro v hv
    obtain ⟨i, _, hi⟩ := List.mem_filterMap.mp hv
    obtain ⟨e, he, rfl⟩ := Option.map_eq_some_iff.mp hi
    exact byv e (inL he)
  unfold dictFind
  try with_reducible refine wpAny_holding ?_
  refine wpAny_bind (wpAny_dictEntries ho hd ?_)
  dsimp only
  rw [if_neg (show ¬ ((Value.ref a :: (placesWithHash es.size (fun i => es[i]?.map (·.hash)) hh).filterMap (fun i => es[i]?.map (·.key))).all carriedByValue) = true by simp [carriedByValue])]
  have hany : ¬ (es.any fun e => e.key == Value.ref a && e.hash != hh) = true := by
    rw [Array.any_eq_true]
    rintro ⟨i, hi, hc⟩
    have e1 : (es[i].key == Value.ref a) = true := (Bool.and_eq_true_iff.mp hc).1
    exact (byv es[i] (Array.getElem_mem hi)).2 (eq_of_beq e1)
  rw [if_neg hany]
  have hone : ¬ (((placesWithHash es.size (fun i => es[i]?.map (·.hash)) hh).filterMap (fun i => es[i]?.map (·.key))) == [Value.ref a]) = true := fun z => by
    have e := eq_of_beq z
    exact (hst (.ref a) (by rw [e]; exact List.mem_cons_self)).2 rfl
  rw [if_neg hone]
  refine wpAny_bind (tell_quiet hk (fun v hv => (hst v hv).1) ?_)
  rw [if_neg (by simp)]
  refine wpAny_bind ?_
  refine wpAny_forIn_list _ (fun rest b s' => s' = s ∧ b = (none, none)) _ ?_ ?_ _ _ ⟨rfl, rfl⟩
  · rintro x rest b s' ⟨rfl, rfl⟩
    cases hx : es[x]? with
    | none => exact wpAny_pure ⟨rfl, rfl⟩
    | some e =>
      dsimp only
      by_cases hq : (e.hash == hh) = true
      · rw [if_pos hq]
        have hE : SeqAt.EqAt A s' e.key (.ref a) false := by
          obtain ⟨k, hk⟩ := hs e (inL hx)
          rcases keyIs_shape hk with ⟨i, t, _, q⟩ | ⟨y, t, _, q⟩
          · rw [q]
            exact SeqAt.EqAt.int_tuple i t hL hu
          · rw [q]
            exact SeqAt.EqAt.str_tuple y t hL hu
        refine wpAny_bind (wpAny_dictEpoch ho hd (wpAny_bind (hE _ _ _ _ (wpAny_bind (wpAny_dictEpoch ho hd ?_)))))
        show wpAny _ _ (if (ep != ep) = true then _ else _) _ E _
        rw [if_neg (by simp)]
        simp only [Bool.false_eq_true, if_false]
        refine wpAny_bind (wpAny_rule ?_)
        first | rw [if_neg (by simp)] | skip
        first
          | exact wpAny_pure ⟨rfl, rfl⟩
          | exact wpAny_bind (wpAny_pure (wpAny_pure ⟨rfl, rfl⟩))
      · rw [if_neg hq]
        exact wpAny_pure ⟨rfl, rfl⟩
  · rintro b s' ⟨rfl, rfl⟩
    exact wpAny_pure h
theorem in_foreign {d a : Addr} {o : Obj} {es : Array DictEntry} {ep : Nat} {ks : List Key} {Q : Value → Shared → Prop} (hu : A.in1.units < cLine) (hk : (tupleKind (mixKind prog w)).is s.heap ks a) (hL : ∃ its, s.heap.IsTuple a its) (hds : (d == sysModules) = false) (ho : s.heap.get? d = some o) (hx : o.ExactDict) (hd : o.data = .dict es ep)
    (hs : ∀ e ∈ es, ∃ k : Key, keyIs k e.key = true) (h : Q (.bool false) { s with toks := s.toks + (ks.length + 1) }) : wpAny (model prog w) A (compareOp .In (.ref a) (.ref d)) Q E s := by
  have hT : s.TypeIs (.ref d) "dict" := ⟨o, ho, hx.1⟩
  show wpAny _ _ (do return .bool (← contains (.ref d) (.ref a))) Q E s
  refine wpAny_bind ?_
  unfold contains
  try with_reducible refine wpAny_holding ?_
  refine wpAny_bind (wpAny_specialOf hT slot_dict_contains.lookup ?_)
  show wpAny _ _ (if (some (Value.builtin "dict.__contains__") == some Value.none) = true then _ else _) _ E s
  rw [if_neg (by rw [beq_builtin_none]; exact Bool.false_ne_true)]
  refine wpAny_bind (wpAny_callSpecialUnlessNone?_slot (name := Str.ofString "__contains__") hT slot_dict_contains
    (wpAny_call_entry slot_dict_contains hT entry_dict_contains ?_ (args_dict_contains _ _)))
  show wpAny _ _ (dictGet d (.ref a) >>= _) _ _ s
  have get : ∀ {R : Option Value → Shared → Prop} {E' : Value → Shared → Prop}, R none { s with toks := s.toks + (ks.length + 1) } → wpAny (model prog w) A.in1 (dictGet d (.ref a)) R E' s := fun {R E'} q => by
    unfold dictGet
    try with_reducible refine wpAny_holding ?_
    refine wpAny_bind ((tupleKind (mixKind prog w)).pyHash (k := ks) hu hk (wpAny_bind (find_foreign (s := { s with toks := s.toks + (ks.length + 1) }) hu hk hL ho hd hs ?_)))
    exact wpAny_pure q
  refine wpAny_bind (get ?_)
  show wpAny _ _ (Builtin.Dict.pendingKey? d (.ref a) >>= _) _ _ _
  exact wpAny_bind (wpAny_pendingKey_other hds (wpAny_pure ⟨_, rfl, wpAny_truthy_bool (wpAny_pure h)⟩))
end
/-! ### in the layer -/
/-- None, or a tuple of texts, in a dict of ints and texts: no -/
def rInOdd : R2 := fun x y H Q => ∃ (d : Addr) (kvs : List (Key × V)), y = .ref d ∧ H d = some (.dK kvs) ∧ (x = .non ∨ ∃ (t : Addr) (ks : List Key), x = .ref t ∧ H t = some (.tup (ks.map kV))) ∧ Q (.bl false) H
section
variable {X : Cx}
theorem op_inOdd (hu : X.A.in1.units < cLine) : OpR X (compareOp .In) rInOdd := by
  intro pins s σ H x y v u Q I rx ry h
  obtain ⟨d, kvs, rfl, hd, hx, q⟩ := h
  obtain rfl : u = Value.ref d := ry
  rcases hx with rfl | ⟨t, ks, rfl, ht⟩
  · obtain rfl : v = Value.none := rx
    exact d_inNone I (.inl hd) fun s' I' => ⟨.bl false, H, I', rfl, q⟩
  · obtain rfl : v = Value.ref t := rx
    obtain ⟨_, hs0, vs, kv, o, es, ep, ho, hxd, hdt, hall, _⟩ := dk_of I.hok hd
    have hkey := key_of I.hok ht
    obtain ⟨_, its, rv, hp⟩ := (show ObjOk X.prog X.w H s.heap t (.tup (ks.map kV)) from I.hok t _ ht)
    refine in_foreign hu hkey ⟨_, hp⟩ hs0 ho hxd hdt (fun e he => ?_) ⟨.bl false, H, I.tok _, rfl, q⟩
    obtain ⟨k, h1, _⟩ := hall e he
    exact ⟨k, h1⟩
end
end Mo
/-! such a dict in the layer: made, asked for its kind, walked, listed -/
namespace Mo
open PySem PySem.Spec PyProof.Rows L2
/-- what is true of a dict of the one entry k: v; its object is o -/
structure OdP (d : Addr) (o : Obj) (k v : V) (h : Heap) : Prop where
  sys : (d == sysModules) = false
  get : h.get? d = some o
  ex : o.ExactDict
  en : ∃ (e : DictEntry) (ep : Nat), o.data = .dict #[e] ep ∧ RelV k e.key ∧ RelV v e.val
def Od (d : Addr) (o : Obj) (k v : V) : HO := .ext (OdP d o k v)
theorem OdP.keep {d : Addr} {o : Obj} {k v : V} {h h' : Heap} (x : OdP d o k v h) (e : ∀ o, h.get? d = some o → h'.get? d = some o) : OdP d o k v h' := ⟨x.sys, e _ x.get, x.ex, x.en⟩
theorem OdP.ok {P : Program} {w : World} {H : Hp} {d : Addr} {o : Obj} {k v : V} {h : Heap} (x : OdP d o k v h) : ObjOk P w H h d (Od d o k v) := ⟨x, ⟨o, x.get⟩, fun h1 h2 a b => a.keep b⟩
theorem OdP.raw {d : Addr} {o : Obj} {k v : V} {h : Heap} (x : OdP d o k v h) : ∃ (e : DictEntry) (ep : Nat), h.DictRaw d #[e] ep ∧ o.data = .dict #[e] ep ∧ RelV k e.key ∧ RelV v e.val := by
  obtain ⟨e, ep, h1, h2, h3⟩ := x.en
  exact ⟨e, ep, ⟨o, x.get, x.ex, h1⟩, h1, h2, h3⟩
section
variable {X : Cx} {pins : List (Addr × Obj)} {σ : L2.St} {H : Hp} {s : Shared}
theorem od_of (I : Inv X pins σ H s) {d : Addr} {o : Obj} {k v : V} (h : H d = some (Od d o k v)) : OdP d o k v s.heap := by
  have x : ObjOk X.prog X.w H s.heap d (.ext (OdP d o k v)) := I.hok d _ h
  exact x.1
/-! ### isinstance -/
def rIsiO (K : PySem.W.Frag) : List V → Hp → VK → Prop := fun xs H Q => ∃ (d : Addr) (o : Obj) (k v c : V) (u : Value) (b : Bool), xs = [.ref d, c] ∧ ClsV c u ∧ H d = some (Od d o k v) ∧ PySem.W.kitOne K (.type "dict") u = some b ∧ Q (.bl b) H
def rIsiOT (K : PySem.W.Frag) : List V → Hp → VK → Prop := fun xs H Q => ∃ (d : Addr) (o : Obj) (k v : V) (tp : Addr) (cs : List V) (us : List Value) (b : Bool), xs = [.ref d, .ref tp] ∧ H tp = some (.tup cs) ∧ Paired ClsV cs us ∧ H d = some (Od d o k v) ∧ PySem.W.kitAny K (.type "dict") us = some b ∧ Q (.bl b) H
theorem kit_od {d : Addr} {o : Obj} {k v : V} (x : OdP d o k v s.heap) : ∃ P : Heap → Prop, PySem.W.KitX X.K (.ref d) (.type "dict") P ∧ P s.heap ∧ (Value.ref d) ≠ .builtin "__main__.__loader__#opaque" := by
  exact ⟨_, PySem.W.kitx_dict, ⟨o, x.get, x.ex.1⟩, fun z => nomatch z⟩
theorem call_isiO : CallR X (.builtin "isinstance") (rIsiO X.K) := by
  intro pins s σ H xs us Q I r h
  obtain ⟨d, o, k, v, c, u, b, rfl, hc, hd, e, q⟩ := h
  obtain ⟨u1, u2, rfl, r1, r2⟩ := vals2 r
  have e2 := hc.eq r2
  subst e2
  obtain rfl : u1 = Value.ref d := r1
  obtain ⟨P, Z, p, hx⟩ := kit_od (X := X) (od_of I hd)
  exact PySem.W.kia_one Z I.kIn p e hx fun tk => ⟨.bl b, H, I.tok tk, rfl, q⟩
theorem call_isiOT : CallR X (.builtin "isinstance") (rIsiOT X.K) := by
  intro pins s σ H xs us Q I r h
  obtain ⟨d, od, k, v, tp, cs, ws, b, rfl, hT, hc, hd, e, q⟩ := h
  obtain ⟨u1, u2, rfl, r1, r2⟩ := vals2 r
  cases (show u2 = Value.ref tp from r2)
  obtain rfl : u1 = Value.ref d := r1
  obtain ⟨P, Z, p, hx⟩ := kit_od (X := X) (od_of I hd)
  obtain ⟨_, its, rv, o, h1, h2, n, h3⟩ := (show ObjOk X.prog X.w H s.heap tp (.tup cs) from I.hok tp _ hT)
  have e3 := ClsV.all hc rv
  subst e3
  obtain ⟨oc, od, dt, sl⟩ := o
  simp only at h2 h3
  subst h2 h3
  exact PySem.W.kia_tup Z I.kIn p h1 e hx fun tk => ⟨.bl b, H, I.tok tk, rfl, q⟩
end
/-- two rules of one call -/
theorem callR_or {X : Cx} {f : Value} {r1 r2 : List V → Hp → VK → Prop} (h1 : CallR X f r1) (h2 : CallR X f r2) : CallR X f (fun xs H Q => r1 xs H Q ∨ r2 xs H Q) :=
  fun pins s σ H xs us Q I r h => h.elim (h1 pins s σ H xs us Q I r) (h2 pins s σ H xs us Q I r)
/-! ### displays of one pair -/
/-- the heap ahead: an empty dict of one kind or of the other -/
def emp (t : Bool) : HO := if t = true then .dT [] else .dK []
def tDispO (tk tv : TE) (isT : Bool) : TE := fun σ H Q => ∀ p, H p = none → tPairs [(tk, tv)] σ (upd H p (emp isT)) fun ps H2 => H2 p = some (emp isT) ∧ ∃ x y, ps = [(x, y)] ∧
  (isT = false → x = .non) ∧ (isT = true → ∃ (t : Addr) (ks : List Key), x = .ref t ∧ H2 t = some (.tup (ks.map kV))) ∧ ∀ o, Q (.ref p) (upd H2 p (Od p o x y))
section
variable {X : Cx} {pos : Pos} {ke ve : Expr} {tk tv : TE}
theorem od_raw {P : Program} {w : World} {κ : Type} [DecidableEq κ] {knd : PySem.KeyKind P w κ} {d : Addr} {k : κ} {x y : V} {u : Value} {h' : Heap} (hs : (d == sysModules) = false) (rx : ∀ u', knd.is k u' = true → RelV x u') (ry : RelV y u) (dd : h'.DictOf knd d [(k, u)]) : ∃ o, OdP d o x y h' := by
  obtain ⟨es, ep, ⟨o, ho, hx, hd⟩, hz, he⟩ := dd.raw
  have h1 : es.size = 1 := hz
  obtain ⟨e1, e2⟩ := he 0 (by omega) k u rfl
  have e : es = #[es[0]'(by omega)] := Array.ext (by simp [h1]) fun i h2 h3 => by
    have : i = 0 := by omega
    subst this
    rfl
  refine ⟨o, hs, ho, hx, es[0]'(by omega), ep, ?_, rx _ e1, by rw [e2]; exact ry⟩
  rw [← e]
  exact hd
theorem od_rawH {P : Program} {w : World} {κ : Type} [DecidableEq κ] {knd : PySem.HeapKind P w κ} {d : Addr} {k : κ} {t : Addr} {y : V} {u : Value} {h' : Heap} (hs : (d == sysModules) = false) (ry : RelV y u) (dd : h'.DictOfH knd d [(k, t, u)]) : ∃ o, OdP d o (.ref t) y h' := by
  obtain ⟨o, es, ep, ho, hx, hd, he, _⟩ := dd
  have e : es = #[entryOfKey knd (k, t, u)] := Array.toList_inj.mp (by rw [he]; rfl)
  refine ⟨o, hs, ho, hx, entryOfKey knd (k, t, u), ep, ?_, rfl, ry⟩
  rw [← e]
  exact hd
theorem pe_dispN (hk : PE X ke tk) (hv : PE X ve tv) : PE X (.Dict [some ke] [ve] pos) (tDispO tk tv false) := by
  refine ⟨fun pins s σ H Q I q => ?_⟩
  have hn := I.hok.fresh (Nat.le_refl s.heap.objs.size)
  have I1 := I.laid (a := s.heap.objs.size) (o := emp false) (h' := s.heap.push { cls := .type "dict", data := .dict #[] }) (t' := s.toks) (fun _ _ q => Heap.get?_push_of_some _ q) (Nat.le_refl _) (dk_empty s.heap I.big)
  have h := pps_cons hk hv (pps_nil (X := X) (pos := pos))
  refine wpAny_Dict_walk (knd := noneKind X.prog X.w) rfl rfl (by simp) (by simp) (thn (h.run pins _ σ _ _ I1 (q _ hn)) fun ws s2 ⟨ps, H2, I2, rel, e, x, y, ep, e0, _, q2⟩ => ?_)
  obtain rfl := e0 rfl
  subst ep
  cases rel with
  | @cons _ w0 _ _ h1 h2 =>
    cases h2
    obtain ⟨kv, u⟩ := w0
    obtain rfl : kv = Value.none := h1.1
    obtain ⟨z, hd, vs0, r0, o, es, ep, ho, hx, hdt, hko, hp, hnd⟩ := dk_of I2.hok (show H2 s.heap.objs.size = some (.dK []) from e)
    cases r0
    have hes : es.toList = [] := by
      have := hp.length
      exact List.length_eq_zero_iff.mp (by simpa using this)
    have hes2 : es = #[] := Array.toList_inj.mp hes
    subst hes2
    refine ⟨[(none, u)], ⟨rfl, rfl, trivial⟩, ⟨o, #[], ep, ho, hx, hdt, fun e he => by simp at he, by simpa using .nil, by simp⟩, fun h' dd' hs => ?_⟩
    obtain ⟨oN, P0⟩ : ∃ o, OdP s.heap.objs.size o .non y h' := od_raw hd (fun u' hu => nk_none hu) h1.2 dd'
    refine ⟨.ref s.heap.objs.size, _, ?_, rfl, q2 oN⟩
    have he : ∃ q, h'.get? s.heap.objs.size = some q := let ⟨q, _, _, hq, _⟩ := dd'; ⟨q, hq⟩
    exact d_write I2 (by rw [e]; exact True.intro) hs he P0.ok
theorem pe_dispT (hu : X.A.units < cLine) (hk : PE X ke tk) (hv : PE X ve tv) : PE X (.Dict [some ke] [ve] pos) (tDispO tk tv true) := by
  refine ⟨fun pins s σ H Q I q => ?_⟩
  have hn := I.hok.fresh (Nat.le_refl s.heap.objs.size)
  have I1 := I.laid (a := s.heap.objs.size) (o := emp true) (h' := s.heap.push { cls := .type "dict", data := .dict #[] }) (t' := s.toks) (fun _ _ q => Heap.get?_push_of_some _ q) (Nat.le_refl _) (dt_empty s.heap I.big)
  have h := pps_cons hk hv (pps_nil (X := X) (pos := pos))
  have hlen := pairTrees_length [some ke] [ve] X.env pos rfl rfl
  have h0 : pairTrees [some ke] [ve] X.env pos ≠ [] := fun z => by
    rw [z] at hlen
    cases hlen
  have h15 : (pairTrees [some ke] [ve] X.env pos).length ≤ 15 := by
    rw [hlen]
    show 1 ≤ 15
    decide
  rw [arm_eval_Dict, zip_pairTrees [some ke] [ve] X.env pos rfl rfl, dictDisplay_pairs _ h0 (by omega)]
  refine wpAny_bind (wpAny_standAt (wpAny_bind (wpAny_subDictH (knd := tupleKind (mixKind X.prog X.w)) (Q := fun d s' => wpAny (model X.prog X.w) X.A (pure (Value.ref d)) (EP X pins σ Q) X.xe s') hu h15 (thn (h.run pins _ σ _ _ I1 (q _ hn)) fun ws s2 ⟨ps, H2, I2, rel, e, x, y, ep, _, e1, q2⟩ => ?_))))
  obtain ⟨t, ks, rfl, ht⟩ := e1 rfl
  subst ep
  cases rel with
  | @cons _ w0 _ _ h1 h2 =>
    cases h2
    obtain ⟨kv, u⟩ := w0
    obtain rfl : kv = Value.ref t := h1.1
    obtain ⟨z, hd, xs, r0, dd⟩ := dt_of I2.hok (show H2 s.heap.objs.size = some (.dT []) from e)
    cases r0
    refine ⟨[(ks, t, u)], ⟨rfl, rfl, key_of I2.hok ht, trivial⟩, dd, fun h' tk' dd' hs => wpAny_pure ?_⟩
    obtain ⟨oN, P0⟩ : ∃ o, OdP s.heap.objs.size o (.ref t) y h' := od_rawH hd h1.2 dd'
    refine ⟨.ref s.heap.objs.size, _, ?_, rfl, q2 oN⟩
    have he : ∃ q, h'.get? s.heap.objs.size = some q := let ⟨q, _, _, hq, _⟩ := dd'; ⟨q, hq⟩
    exact d_write I2 (by rw [e]; exact True.intro) hs he P0.ok
end
/-! ### for k, v in d.items() -/
def ItO (d : Addr) (o : Obj) (k v : V) : It := ⟨fun i H => i = 0 ∧ H d = some (Od d o k v), fun i H x H' => ∃ T, x = .ref T ∧ H T = none ∧ H' = upd H T (.tup [k, v]), fun i H => i = 1 ∧ H d = some (Od d o k v)⟩
theorem turn_itemsO {P : Program} {w : World} {K : PySem.W.Frag} {elts : List Expr} {kk : Nat} {tpos : Pos} {d it : Addr} {o : Obj} {k v : V} {e : DictEntry} {ep : Nat} (hod : o.data = .dict #[e] ep) :
    Turn P w K (.Tuple elts kk tpos) (ItO d o k v) [it] it (fun i h => ∃ a b, IsItemIter h it d i 1 ep a b) where
  mem := by simp
  obj := fun i h st b hb => by
    have e : b = it := by simpa using hb
    subst e
    obtain ⟨_, _, e⟩ := st
    exact ⟨_, e, fun v z => nomatch z⟩
  keep := fun i h h' st kp => let ⟨a, b, e⟩ := st; ⟨a, b, kp it (by simp) _ e⟩
  item := by
    intro X hP hw hK hc i pins s σ H E I hf st hg
    subst hP hw hK
    obtain ⟨rfl, hd⟩ := hg
    obtain ⟨ok, ov, he⟩ := st
    obtain ⟨e2, ep2, raw, hod2, rk, rv⟩ := (od_of I hd).raw
    rw [hod] at hod2
    cases hod2
    have hlt : it < s.heap.objs.size := Heap.lt_size he
    refine wpAny_pyNext_items_item_raw he raw (by simp) fun h' ho hT hz hk => ?_
    refine ⟨_, rfl, wpAny_letOwnedTupleGo_items (s := { s with heap := h' }) ho fun h'' he' sb => ?_⟩
    have hT2 : h''.get? s.heap.objs.size = some { cls := .type "tuple", data := .seq #[e.key, e.val] } := (sb.2 _ (Nat.ne_of_gt hlt)).trans hT
    have new : ObjOk X.prog X.w (upd H s.heap.objs.size (.tup [k, v])) h'' s.heap.objs.size (.tup [k, v]) :=
      ⟨by show 2 ≤ sizeLine; decide, [e.key, e.val], .cons rk (.cons rv .nil), ⟨_, hT2, rfl, _, rfl⟩⟩
    have I1 : Inv X pins σ (upd H s.heap.objs.size (.tup [k, v])) { s with heap := h'' } :=
      I.turnedNew (t' := s.toks) (ch := [it]) (fun b ob hb e => (sb.2 b (by simpa using hb)).trans (hk b ob (by simpa using hb) e)) hf (Nat.le_refl _) new
    refine ⟨.ref s.heap.objs.size, _, I1, rfl, ⟨_, rfl, I.hok.fresh (Nat.le_refl _), rfl⟩, ⟨e.key, e.val, he'⟩, fun b hb => ?_⟩
    have e : b = it := by simpa using hb
    rw [e, upd_ne (Nat.ne_of_lt hlt)]
    exact (hf it (by simp)).1
  done := by
    intro X hP hw hK hc i pins s σ H E I hf st hg
    subst hP hw hK
    obtain ⟨rfl, hd⟩ := hg
    obtain ⟨f0, f1, f2, f3, f4, f5⟩ := hf it (by simp)
    obtain ⟨ok, ov, he⟩ := st
    obtain ⟨e2, ep2, raw, hod2, rk, rv⟩ := (od_of I hd).raw
    rw [hod] at hod2
    cases hod2
    exact wpAny_pyNext_items_end_raw (I.ok.hd hc) he raw (by simp) fun h' eb => ⟨rfl, I.turned (t' := s.toks) (fun b ob hb e => eb b ob hb e) f0 f1 f3 f4 f5⟩
  self := fun A i s Q E st h => let ⟨_, _, e⟩ := st; PySem.W.kcp_self e h
def iItemsO (td : TE) : TI := fun σ H R => td σ H fun x H1 => ∃ d o k v, x = .ref d ∧ H1 d = some (Od d o k v) ∧ R (ItO d o k v) H1
theorem pi_itemsO {X : Cx} {e : Expr} {td : TE} {apos cpos : Pos} {elts : List Expr} {kk : Nat} {tpos : Pos} (he : PE X e td) (hbase : attributeBase e "items" X.env (eval e X.env) = eval e X.env := by rfl) (hline : (apos.endLine == cpos.line) = true := by rfl) :
    PI X (.Tuple elts kk tpos) (.Call (.Attribute e "items" apos) [] [] cpos) (iItemsO td) := by
  refine ⟨fun pins s σ H R I h => ?_⟩
  refine wpAny_Call_method (T := "dict") (id := "dict.items") hbase rfl hline F.plainAttrs_dict F.slot_dict_items F.type_dict_items (thn (he.run pins s σ H _ I h) fun u s1 ⟨x, H1, I1, rx, d, o, k, v, ex, hd, q⟩ => ?_)
  subst ex
  obtain rfl : u = Value.ref d := rx
  have op := od_of I1 hd
  obtain ⟨en, ep, raw, hod, rk, rv⟩ := op.raw
  refine ⟨raw.typeIs, fun b z => by cases z; exact ⟨o, op.get, op.ex.2.1⟩, ?_⟩
  have I2 : Inv X pins σ H1 { s1 with heap := s1.heap.push { cls := .type "dict_items", data := .fields #[.ref d] } } := I1.kept (t' := s1.toks) fun b ob q => Heap.get?_push_of_some _ q
  have fin : wpAny (model X.prog X.w) X.A (pyIter (.ref s1.heap.objs.size)) (PIE X pins σ (.Tuple elts kk tpos) R) X.xe { s1 with heap := s1.heap.push { cls := .type "dict_items", data := .fields #[.ref d] } } := by
    refine wpAny_pyIter_items_raw (d := d) ⟨_, Heap.get?_push_size _ rfl, rfl, rfl⟩ (raw.push _) (pi_one (tk := s1.toks) I2 _ (turn_itemsO hod) ⟨.none, .none, ?_⟩ q)
    exact Heap.get?_push_size _ rfl
  show wpAny _ _ (callWith cpos (.builtin "dict.items") [.ref d] [] []) _ X.xe s1
  exact method_meetsIn F.slot_dict_items F.entry_dict_items rfl (PySem.evalArgs_none ⟨rfl, raw.typeIs, F.args_dict_items_1 _, _, meets_dict_items_raw d op.sys, ⟨_, _, raw⟩, fin⟩)
theorem walk_itemsO {d : Addr} {o : Obj} {k v : V} : Walk (ItO d o k v) 1 (fun H => H d = some (Od d o k v)) (fun i H x H' => ∃ T, x = .ref T ∧ H T = none ∧ H' = upd H T (.tup [k, v])) :=
  ⟨fun i _ hi q => ⟨by omega, q⟩, fun _ q => ⟨rfl, q⟩, fun _ _ _ _ _ _ y => y⟩
end Mo
/-! list(d.items()) of such a dict, list(d.values()) of a dict -/
namespace Mo
open PySem PySem.Spec PyProof.Rows L2
section
variable {prog : Program} {w : World} {A : Around} {E : Value → Shared → Prop} {s : Shared} {r d : Addr} {e : DictEntry} {ep : Nat}
theorem one_loop {S I : Addr} {R : Result → Shared → Prop} (hh : A.handled = none) (hSI : S < I) (hSd : d ≠ S) (hId : d ≠ I) (res : Value) {h : Heap} {tk c : Nat} (hit : IsItemIter h I d 0 1 ep .none .none) (raw : h.DictRaw d #[e] ep) (hS : h.get? S = some { cls := .type "list", data := .seq #[] c })
    (hR : ∀ h' tk' c' T, (∀ b o, b ≠ S → b ≠ I → h.get? b = some o → h'.get? b = some o) → h.objs.size ≤ T → h'.get? S = some { cls := .type "list", data := .seq #[.ref T] c' } → h'.get? T = some { cls := .type "tuple", data := .seq #[e.key, e.val] } → R (.ok (.ret res)) { s with heap := h', toks := tk' }) :
    codeAny (model prog w) A (.builtin "list.extend.loop" ⟨[.ref S, .ref I, res], []⟩) R { s with heap := h, toks := tk } := by
  have hne : S ≠ I := Nat.ne_of_lt hSI
  have hIl : I < h.objs.size := Heap.lt_size hit
  refine codeAny_builtin PySem.F.entry_extend_loop ?_
  rw [Around.under_plainId PySem.F.plain_extend_loop _]
  show wpAny _ A.in1 (pyNext (.ref I) >>= _) _ _ _
  refine wpAny_bind (wpAny_pyNext_items_item_raw (s := { s with heap := h, toks := tk }) (A := A.in1) hit raw (by simp) fun h1 hit1 hT hz hk => ?_)
  dsimp only at hT hz hk ⊢
  have hS1 := hk S _ hne hS
  have hSl : S < h.objs.size := Heap.lt_size hS
  have up : ∀ b o, b ≠ S → h1.get? b = some o → (h1.update S (Obj.mapSeq (·.push (Value.ref h.objs.size)))).get? b = some o := fun b o hb e => (Heap.get?_update_other _ _ (Ne.symm hb)).trans e
  show wpAny _ A.in1 (updateSeq S (·.push (Value.ref h.objs.size)) >>= _) _ _ _
  refine wpAny_bind ?_
  refine wpAny_updateSeq hS1 rfl (wpAny_pure ⟨plainId_quiet PySem.F.plain_extend_loop _, ?_⟩) (by simp) (by simp [sizeLine_eq])
  have hit2 : PySem.W.KdxIt (h1.update S (Obj.mapSeq (·.push (Value.ref h.objs.size)))) I d 1 1 ep e.key e.val h.objs.size false := up I _ hne.symm hit1
  refine codeAny_builtin PySem.F.entry_extend_loop ?_
  rw [Around.under_plainId PySem.F.plain_extend_loop _]
  show wpAny _ A.in1 (pyNext (.ref I) >>= _) _ _ _
  refine wpAny_bind (wpAny_pyNext_items_end_out_raw (es := #[e]) (s := { s with heap := (h1.update S (Obj.mapSeq (·.push (Value.ref h.objs.size)))), toks := tk }) (A := A.in1) hh hit2 (raw.at fun o q => up d o hSd (hk d o hId q)) (by simp) fun h2 he => ?_)
  refine wpAny_pure (hR h2 tk _ h.objs.size (fun b o b1 b2 q => he b o b2 (up b o b1 (hk b o b2 q))) (Nat.le_refl _) (he S _ hne (Heap.get?_update_self _ hS1 rfl)) (he _ _ (Nat.ne_of_gt hIl) (up _ _ (Nat.ne_of_gt hSl) hT)))
theorem one_extend {R : Result → Shared → Prop} (hh : A.handled = none) (hv : s.heap.IsItemsView r d) (raw : s.heap.DictRaw d #[e] ep) (S : Addr) (hSr : S ≠ r) (hSd : d ≠ S) (res : Value) (c₀ : Nat) (hS : s.heap.get? S = some { cls := .type "list", data := .seq #[] c₀ })
    (hR : ∀ h' tk' c' T, (∀ b o, b ≠ S → s.heap.get? b = some o → h'.get? b = some o) → s.heap.objs.size ≤ T → h'.get? S = some { cls := .type "list", data := .seq #[.ref T] c' } → h'.get? T = some { cls := .type "tuple", data := .seq #[e.key, e.val] } → R (.ok (.ret res)) { s with heap := h', toks := tk' }) :
    wpAny (model prog w) A.in1 (Builtin.List.listExtendWith (.ref S) (.ref r) res)
      (fun fin s' => match fin with | .done f => R (.ok f) s' | .again c' => c'.quiet = true ∧ codeAny (model prog w) A c' R s') (fun e s' => R (.error e) s') s := by
  have hSI : S < s.heap.objs.size := Heap.lt_size hS
  have hdI : d < s.heap.objs.size := raw.lt_size
  have key : ∀ (h : Heap) (c₁ tk : Nat), (∀ b o, b ≠ S → (s.heap.push { cls := .type "dict_itemiterator", data := .fields #[.none, .bool false, .ref d, .int 0 0, .int (#[e] : Array DictEntry).size 0, .int ep 0, .none, .none] }).get? b = some o → h.get? b = some o) →
      h.get? S = some { cls := .type "list", data := .seq #[] c₁ } → s.heap.objs.size ≤ h.objs.size → codeAny (model prog w) A (.builtin "list.extend.loop" ⟨[.ref S, .ref s.heap.objs.size, res], []⟩) R { s with heap := h, toks := tk } := by
    intro h c₁ tk hk hS₁ hle
    have hI := hk s.heap.objs.size _ (Nat.ne_of_gt hSI) (Heap.get?_push_size _ rfl)
    refine one_loop (e := e) (ep := ep) hh hSI hSd (Nat.ne_of_lt hdI) res hI (raw.at fun o q => hk d o hSd (Heap.get?_push_of_some _ q)) hS₁ fun h' tk' c' T k1 k2 k3 k4 => hR h' tk' c' T (fun b o hb q => k1 b o hb (Nat.ne_of_lt (Heap.lt_size q)) (hk b o hb (Heap.get?_push_of_some _ q))) (Nat.le_trans hle k2) k3 k4
  unfold Builtin.List.listExtendWith
  refine wpAny_bind (wpAny_typeOf (T := "dict_items") hv.typeIs ?_)
  have h1 : Builtin.List.listSameRef (.ref S) (.ref r) = false := by simp [Builtin.List.listSameRef, hSr]
  have h2 : (Value.type "dict_items" == Value.type "list") = false := by decide
  have h3 : (Value.type "dict_items" == Value.type "tuple") = false := by decide
  simp only [h1, h2, h3, Bool.or_false, Bool.false_eq_true, if_false]
  refine wpAny_bind (wpAny_pyIter_items_raw hv raw ?_)
  have hS₁ := Heap.get?_push_of_some { cls := .type "dict_itemiterator", data := .fields #[.none, .bool false, .ref d, .int 0 0, .int (#[e] : Array DictEntry).size 0, .int ep 0, .none, .none] } hS
  refine wpAny_bind (wpAny_holding (PySem.W.kdx_hint (let ⟨o, ho, hc, _⟩ := hv; ⟨o, Heap.get?_push_of_some _ ho, hc⟩) ?_))
  refine wpAny_ite_split (fun _ => ?_) (fun _ => wpAny_pure ⟨plainId_quiet PySem.F.plain_extend_loop _, key _ c₀ _ (fun b o _ e => e) hS₁ (by rw [Heap.size_push]; omega)⟩)
  refine wpAny_bind (wpAny_rule ?_)
  refine wpAny_bind ?_
  show wpAny _ _ (updateSeq S (·.push .none) >>= fun _ => updateSeq S (·.pop)) _ _ _
  refine wpAny_bind (wpAny_updateSeq hS₁ rfl ?_)
  have hS₂ := Heap.get?_update_self (Obj.mapSeq (·.push Value.none)) hS₁ rfl
  refine wpAny_updateSeq (hz := by seq_fits) hS₂ rfl ?_
  have hS₃ := Heap.get?_update_self (Obj.mapSeq (·.pop)) hS₂ rfl
  refine wpAny_pure ⟨plainId_quiet PySem.F.plain_extend_loop _, key _ _ _ (fun b o hb e => ?_) hS₃ (by rw [Heap.size_update, Heap.size_update, Heap.size_push]; omega)⟩
  exact (Heap.get?_update_other _ _ (Ne.symm hb)).trans ((Heap.get?_update_other _ _ (Ne.symm hb)).trans e)
theorem one_call {Q : Value → Shared → Prop} (hh : A.handled = none) (hv : s.heap.IsItemsView r d) (raw : s.heap.DictRaw d #[e] ep)
    (hQ : ∀ h' tk c T, (∀ b o, s.heap.get? b = some o → h'.get? b = some o) → s.heap.objs.size < T → h'.get? s.heap.objs.size = some { cls := .type "list", data := .seq #[.ref T] c } → h'.get? T = some { cls := .type "tuple", data := .seq #[e.key, e.val] } → Q (.ref s.heap.objs.size) { s with heap := h', toks := tk }) :
    wpAny (model prog w) A (call (.type "list") [.ref r]) Q E s := by
  refine callType_codes (Q₁ := fun obj s₁ => obj = .ref s.heap.objs.size ∧ s₁ = { s with heap := s.heap.push { cls := .type "list", data := .seq #[] } }) PySem.F.called_list (PySem.F.typeCall_list_1 _) PySem.F.entry_list_init
    (code_list_new _ ⟨rfl, rfl⟩) fun obj s₁ h₁ => ?_
  obtain ⟨rfl, rfl⟩ := h₁
  have hS : (s.heap.push { cls := .type "list", data := .seq #[] }).get? s.heap.objs.size = some { cls := .type "list", data := .seq #[] } := Heap.get?_push_size _ rfl
  have hr : r < s.heap.objs.size := let ⟨_, ho, _⟩ := hv; Heap.lt_size ho
  have hd : d < s.heap.objs.size := raw.lt_size
  refine ⟨⟨_, hS, rfl⟩, PySem.F.args_list_init_2 _ _, ?_⟩
  show wpAny _ A.in1.in1 (do let old ← Builtin.List.listItems (.ref s.heap.objs.size); Builtin.List.listUpdate (.ref s.heap.objs.size) (fun _ => #[]); letGo old.toList.reverse; Builtin.List.listExtendWith (.ref s.heap.objs.size) (.ref r) .none) _ _ _
  refine wpAny_bind ?_
  unfold Builtin.List.listItems
  refine wpAny_bind (wpAny_seqItems hS rfl (wpAny_pure ?_))
  show wpAny _ _ (updateSeq s.heap.objs.size (fun _ => #[]) >>= fun _ => letGo (#[] : Array Value).toList.reverse >>= fun _ => Builtin.List.listExtendWith (.ref s.heap.objs.size) (.ref r) .none) _ _ _
  refine wpAny_bind (wpAny_updateSeq hS rfl ?_)
  have hS₂ := Heap.get?_update_self (Obj.mapSeq (fun _ => (#[] : Array Value))) hS rfl
  have oth : ∀ b o, b ≠ s.heap.objs.size → (s.heap.push { cls := .type "list", data := .seq #[] }).get? b = some o → ((s.heap.push { cls := .type "list", data := .seq #[] }).update s.heap.objs.size (Obj.mapSeq (fun _ => (#[] : Array Value)))).get? b = some o :=
    fun b o hb e => (Heap.get?_update_other _ _ (Ne.symm hb)).trans e
  have old : ∀ b o, s.heap.get? b = some o → b ≠ s.heap.objs.size := fun b o q => Nat.ne_of_lt (Heap.lt_size q)
  refine wpAny_bind (wpAny_letGo ?_)
  refine one_extend (A := A.in1) (e := e) (ep := ep) hh (let ⟨o, ho, x⟩ := hv; ⟨o, oth r o (Nat.ne_of_lt hr) (Heap.get?_push_of_some _ ho), x⟩) (raw.at fun o q => oth d o (Nat.ne_of_lt hd) (Heap.get?_push_of_some _ q)) s.heap.objs.size (Nat.ne_of_gt hr) (Nat.ne_of_lt hd) .none _ hS₂ (fun h' tk c T k1 k2 k3 k4 => ?_)
  refine ⟨rfl, hQ h' tk c T (fun b o q => k1 b o (old b o q) (oth b o (old b o q) (Heap.get?_push_of_some _ q))) ?_ k3 k4⟩
  have : s.heap.objs.size + 1 ≤ T := by
    refine Nat.le_trans ?_ k2
    show s.heap.objs.size + 1 ≤ ((s.heap.push { cls := .type "list", data := .seq #[] }).update s.heap.objs.size (Obj.mapSeq (fun _ => (#[] : Array Value)))).objs.size
    rw [Heap.size_update, Heap.size_push]
    exact Nat.le_refl _
  exact this
end
def rItemsO : V → Hp → VK → Prop := fun x H Q => ∃ (d : Addr) (o : Obj) (k v : V), x = .ref d ∧ H d = some (Od d o k v) ∧
  ∀ (p T : Addr), H p = none → H T = none → p ≠ T → Q (.ref p) (upd (upd H p (.lst [.ref T])) T (.tup [k, v]))
def tListItemsO (te : TE) : TE := fun σ H Q => te σ H fun x H1 => rItemsO x H1 Q
section
variable {X : Cx} {e : Expr} {te : TE} {p apos cpos pos : Pos}
theorem two_laid {pins : List (Addr × Obj)} {σ : L2.St} {H : Hp} {s : Shared} {h' : Heap} {tk : Nat} {S T : Addr} {o1 o2 : HO} (I : Inv X pins σ H s) (hk : ∀ b o, s.heap.get? b = some o → h'.get? b = some o) (hS : s.heap.objs.size ≤ S) (hT : s.heap.objs.size ≤ T) (ne : S ≠ T)
    (new1 : ObjOk X.prog X.w (upd (upd H S o1) T o2) h' S o1) (new2 : ObjOk X.prog X.w (upd (upd H S o1) T o2) h' T o2) : Inv X pins σ (upd (upd H S o1) T o2) { s with heap := h', toks := tk } := by
  have nS : H S = none := I.hok.fresh hS
  have nT : H T = none := I.hok.fresh hT
  have off : ∀ b, b ≠ S → b ≠ T → upd (upd H S o1) T o2 b = H b := fun b h1 h2 => by rw [upd_ne h2, upd_ne h1]
  have low : ∀ b o, s.heap.get? b = some o → b ≠ S ∧ b ≠ T := fun b o q => ⟨Nat.ne_of_lt (Nat.lt_of_lt_of_le (Heap.lt_size q) hS), Nat.ne_of_lt (Nat.lt_of_lt_of_le (Heap.lt_size q) hT)⟩
  have kp : ∀ b u, H b = some u → upd (upd H S o1) T o2 b = some u := fun b u q => by
    rw [off b (ne_of_none q nS) (ne_of_none q nT)]
    exact q
  refine I.call' (ch := []) rfl ⟨fun b o q _ _ _ => hk b o q, fun b o q _ _ _ => ⟨o.slots, hk b o q⟩, fun b o q n _ => ?_, fun b o q _ => ⟨o, hk b o q⟩, fun b xs q => kp b _ q, fun b o u q => kp b _ q, fun b ps q => ⟨#[], by rw [kp b _ q]; simp⟩⟩ (fun b u q => ?_) I.bare fun b z => by simp at z
  · obtain ⟨z1, z2⟩ := low b o q
    rw [off b z1 z2]
    exact n
  · by_cases hb : b = T
    · subst hb
      rw [upd_same] at q
      cases q
      exact new2
    · by_cases hb2 : b = S
      · subst hb2
        rw [upd_ne ne, upd_same] at q
        cases q
        exact new1
      · rw [off b hb2 hb] at q
        exact (I.hok b u q).stay (fun d v _ y => hk d v y) (fun d y => kp d _ y) fun d xs y => kp d _ y
/-- list(e.items()), one entry -/
theorem pe_listItemsO (hc : X.calm = true) (he : PE X e te) (hg : Gl X "list") (hm : X.mg "list" = none) (hv : bootBuiltins "list" = some (.type "list")) (hbase : attributeBase e "items" X.env (eval e X.env) = eval e X.env := by rfl) (hline : (apos.endLine == cpos.line) = true := by rfl)
    (hs : starEach [.Call (.Attribute e "items" apos) [] [] cpos] X.env = (false, eval (.Call (.Attribute e "items" apos) [] [] cpos) X.env) :: starEach [] X.env := by rfl) :
    PE X (.Call (.Name "list" p) [.Call (.Attribute e "items" apos) [] [] cpos] [] pos) (tListItemsO te) := by
  refine ⟨fun pins s σ H Q I hq => ?_⟩
  refine wpAny_Call_Name_kw (ld_blt I hg hm hv ?_)
  refine PyProof.Rows.callWith_type1 ?_ hs rfl
  rw [hs]
  show wpAny _ _ (spliced ((false, eval (.Call (.Attribute e "items" apos) [] [] cpos) X.env) :: backTo pos (starEach [] X.env))) _ _ s
  refine Calls.spliced_cons ?_
  refine wpAny_Call_method (T := "dict") (id := "dict.items") hbase rfl hline F.plainAttrs_dict F.slot_dict_items F.type_dict_items (thn (he.run pins s σ H _ I hq) fun u s1 ⟨x, H1, I1, rx, d, o, k, v, ex, hd, q⟩ => ?_)
  subst ex
  obtain rfl : u = Value.ref d := rx
  have op := od_of I1 hd
  obtain ⟨en, ep, raw, hod, rk, rv⟩ := op.raw
  have I2 : Inv X pins σ H1 { s1 with heap := s1.heap.push { cls := .type "dict_items", data := .fields #[.ref d] } } := I1.kept (t' := s1.toks) fun b ob q => Heap.get?_push_of_some _ q
  refine ⟨raw.typeIs, fun b z => by cases z; exact ⟨o, op.get, op.ex.2.1⟩, ?_⟩
  show wpAny _ _ (callWith cpos (.builtin "dict.items") [.ref d] [] []) _ X.xe s1
  refine method_meetsIn F.slot_dict_items F.entry_dict_items rfl (PySem.evalArgs_none ⟨rfl, raw.typeIs, F.args_dict_items_1 _, _, meets_dict_items_raw d op.sys, ⟨_, _, raw⟩, ?_⟩)
  refine Calls.spliced_nil ?_
  refine one_call (d := d) (e := en) (ep := ep) (I1.ok.hd hc) ⟨_, Heap.get?_push_size _ rfl, rfl, rfl⟩ (raw.push _) fun h' tk c T k1 k2 k3 k4 => ?_
  have ne : (s1.heap.push { cls := .type "dict_items", data := .fields #[.ref d] }).objs.size ≠ T := Nat.ne_of_lt k2
  have nS := I2.hok.fresh (Nat.le_refl (s1.heap.push { cls := .type "dict_items", data := .fields #[.ref d] }).objs.size)
  have nT : H1 T = none := I2.hok.fresh (Nat.le_of_lt k2)
  refine ⟨.ref _, _, two_laid (tk := tk) I2 k1 (Nat.le_refl _) (Nat.le_of_lt k2) ne ?_ ?_, rfl, q _ T nS nT ne⟩
  · exact ⟨by show 1 ≤ sizeLine; decide, [.ref T], c, .cons rfl .nil, k3⟩
  · exact ⟨by show 2 ≤ sizeLine; decide, [en.key, en.val], .cons rk (.cons rv .nil), ⟨_, k4, rfl, _, rfl⟩⟩
end
end Mo
namespace Md
open PySem PySem.Spec PyProof.Rows L2
/-! ### the text by places -/
def top (i : Nat) : Stmt := PySem.Challenge.pw_swaphouse_k02_whole_notices.main.body.getD i (.Pass ⟨0, 0, 0, 0⟩)
abbrev sDraw : Stmt := top 42
/-! ### the stream: at a what is left, the digits, how many draws, the sum; at b the numbers left -/
structure Strm (H : Hp) (a b : Addr) (ns : List Int) (p q r : Int) : Prop where
  ne : a ≠ b
  ha : H a = some (.lst [.ref b, .int p, .int q, .int r])
  hb : H b = some (.lst (ns.map V.int))
  p0 : 0 ≤ p
  q0 : 0 ≤ q
  r0 : 0 ≤ r
  r1 : r < 2147483647
/-- all that was tracked but at a, b is as it was -/
def KeepBut (a b : Addr) (H H' : Hp) : Prop := ∀ c o, c ≠ a → c ≠ b → H c = some o → H' c = some o
theorem KeepBut.refl {a b : Addr} {H : Hp} : KeepBut a b H H := fun _ _ _ _ h => h
theorem KeepBut.trans {a b : Addr} {H H1 H2 : Hp} (x : KeepBut a b H H1) (y : KeepBut a b H1 H2) : KeepBut a b H H2 := fun c o h1 h2 h => y c o h1 h2 (x c o h1 h2 h)
theorem KeepBut.new {a b l : Addr} {o : HO} {H : Hp} (h : H l = none) : KeepBut a b H (upd H l o) := fun c u _ _ e => by
  rw [upd_ne (ne_of_none e h)]
  exact e
theorem KeepBut.atA {a b : Addr} {o : HO} {H : Hp} : KeepBut a b H (upd H a o) := fun c u h _ e => by
  rw [upd_ne h]
  exact e
theorem KeepBut.atB {a b : Addr} {o : HO} {H : Hp} : KeepBut a b H (upd H b o) := fun c u _ h e => by
  rw [upd_ne h]
  exact e
/-- how many items the list at b has -/
def lenAt (H : Hp) (b : Addr) : Nat := match H b with
  | some (.lst xs) => xs.length
  | _ => 0
theorem lenAt_of {H : Hp} {b : Addr} {xs : List V} (h : H b = some (.lst xs)) : lenAt H b = xs.length := by
  unfold lenAt
  rw [h]
def spDraw : Sp := fun vs H Q _ => ∃ (a b : Addr) (ns : List Int) (p q r m : Int), vs = [.ref a, .int m] ∧ Strm H a b ns p q r ∧ 0 < m ∧ m < 1073741824 ∧ q < 1000000000000 ∧
  ∀ (H' : Hp) (ns' : List Int) (p' r' d : Int), 0 ≤ d → d < m → Strm H' a b ns' p' (q + 1) r' → KeepBut a b H H' → Q (.int d) H'
/-! ### lists of ints as data -/
theorem dp_ints {K : PySem.W.Frag} {H : Hp} : ∀ ns : List Int, DpAll K H (ns.map V.int) (ns.map PyData.int)
  | [] => .nil
  | n :: r => .cons (.int n) (dp_ints r)
theorem canLay_ints : ∀ ns : List Int, PyData.canLayAll0 (ns.map PyData.int) = true
  | [] => by simp [PyData.canLayAll0]
  | n :: r => by simp [PyData.canLayAll0, PyData.canLay0, canLay_ints r]
theorem depth_ints : ∀ ns : List Int, PyData.depthAll (ns.map PyData.int) ≤ 1
  | [] => by simp [PyData.depthAll]
  | n :: r => by
    have := depth_ints r
    simp [PyData.depthAll, PyData.depth]
    omega
theorem shaped_ints (ns : List Int) : SeqAt.shaped (.list (ns.map PyData.int)) = true := by
  have h1 := canLay_ints ns
  have h2 := depth_ints ns
  simp [SeqAt.shaped, PyData.canLay0, PyData.depth, h1]
  omega
theorem eqv_nil (ns : List Int) : PyData.eqv (.list (ns.map PyData.int)) (.list []) = decide (ns = []) := by
  cases ns with
  | nil => simp [PyData.eqv, PyData.eqvAll]
  | cons n r => simp [PyData.eqv, PyData.eqvAll]
theorem at0 {α : Type} {x y z w : α} : atI [x, y, z, w] 0 = some x := rfl
theorem at1 {α : Type} {x y z w : α} : atI [x, y, z, w] 1 = some y := rfl
theorem at2 {α : Type} {x y z w : α} : atI [x, y, z, w] 2 = some z := rfl
theorem at3 {α : Type} {x y z w : α} : atI [x, y, z, w] 3 = some w := rfl
section
variable {H : Hp} {a b l : Addr} {ns : List Int} {p q r : Int}
theorem Strm.new {o : HO} (S : Strm H a b ns p q r) (h : H l = none) : Strm (upd H l o) a b ns p q r :=
  ⟨S.ne, by rw [upd_ne (ne_of_none S.ha h)]; exact S.ha, by rw [upd_ne (ne_of_none S.hb h)]; exact S.hb, S.p0, S.q0, S.r0, S.r1⟩
theorem Strm.other {o : HO} {c : Addr} (S : Strm H a b ns p q r) (h1 : c ≠ a) (h2 : c ≠ b) : Strm (upd H c o) a b ns p q r :=
  ⟨S.ne, by rw [upd_ne h1.symm]; exact S.ha, by rw [upd_ne h2.symm]; exact S.hb, S.p0, S.q0, S.r0, S.r1⟩
theorem Strm.cast {q' : Int} (S : Strm H a b ns p q r) (e : q = q') : Strm H a b ns p q' r := e ▸ S
theorem KeepBut.un {H0 : Hp} {o : HO} (k : KeepBut a b H0 H) (h : H0 l = none) : KeepBut a b H0 (upd H l o) := fun c u h1 h2 e => by
  rw [upd_ne (ne_of_none e h)]
  exact k c u h1 h2 e
theorem Strm.setA {p' q' r' : Int} (S : Strm H a b ns p q r) (h1 : 0 ≤ p') (h2 : 0 ≤ q') (h3 : 0 ≤ r') (h4 : r' < 2147483647) : Strm (upd H a (.lst [.ref b, .int p', .int q', .int r'])) a b ns p' q' r' :=
  ⟨S.ne, upd_same, by rw [upd_ne S.ne.symm]; exact S.hb, h1, h2, h3, h4⟩
theorem Strm.setB {ns' : List Int} (S : Strm H a b ns p q r) : Strm (upd H b (.lst (ns'.map V.int))) a b ns' p q r :=
  ⟨S.ne, by rw [upd_ne S.ne]; exact S.ha, upd_same, S.p0, S.q0, S.r0, S.r1⟩
end
theorem seq0 {n : Nat} (h : 0 < n) : seqIndex? 0 n = some 0 := by
  refine (ixN_seq ?_).1
  unfold ixN
  rw [if_pos (by decide), if_pos (by omega)]
  rfl
theorem while_by2 {c : TT} {tb : TS} {D : Ends} {σ : L2.St} {H : Hp} (Pv : L2.St → Hp → Prop) (μ : L2.St → Hp → Nat) (Ex : L2.St → Hp → Prop) (h0 : Pv σ H)
    (hs : ∀ σ H, Pv σ H → c σ H fun b H1 => if b = true then tb { D with nx := fun σ' H' => Pv σ' H' ∧ μ σ' H' < μ σ H, ct := fun σ' H' => Pv σ' H' ∧ μ σ' H' < μ σ H, bk := D.nx } σ H1 else Ex σ H1)
    (mono : ∀ σ H Q Q', (∀ b H1, Q b H1 → Q' b H1) → c σ H Q → c σ H Q') (fin : ∀ σ H, Ex σ H → D.nx σ H) : tWhile c tb D σ H :=
  while_by Pv μ h0 (fun σ H p => mono σ H _ _ (fun b H1 q => by
    cases b with
    | true => exact q
    | false => exact fin _ _ q) (hs σ H p)) mono
end Md
namespace Md
open PySem PySem.Spec PyProof.Rows L2
section
variable {P : Program} {w : World} {K : PySem.W.Frag} {mg : Str → Option Value} {base : Heap}
theorem scDraw : FnScope ["_law_stream", "_law_many", "_law_cell", "_law_digit", "_law_mixed_here"] ["_law_stream", "_law_many"] (defScope sDraw) := ⟨rfl, rfl, rfl, by decide +kernel, rfl, by decide +kernel, by decide +kernel⟩
theorem ok_draw {f : Addr} {fd : FuncData} (F : Fun K "_law_draw" "_law_draw" sDraw f fd) (gI : mg "int" = none) : FnOk P w K mg base CX0 1 f fd ["_law_stream", "_law_many"] spDraw := by
  refine F.ok scDraw (fun vs H Q E h => ?_) (fun cdv A outer s H vs Q E hr h => ?_)
  · obtain ⟨a, b, ns, p, q, r, m, rfl, _⟩ := h
    rfl
  · obtain ⟨a, b, ns, p, q, r, m, rfl, S, m0, m1, hq, k⟩ := h
    have hu := hu_of hr
    have hu64 : A.units + 3 + 64 < cLine := by
      have := hr.un
      exact Nat.lt_of_le_of_lt (by show A.units + 3 + 64 ≤ A.units + 3 + 16 * 0 + 200; omega) this
    refine ⟨_, pss_cons (ps_asg (pe_op op_add (pe_ix ix_list (pv 0) pe_int (fun _ _ => rfl)) pe_int) (pg_sub (pv 0) pe_int set_list))
      (pss_cons (ps_while PassesOwn.never (PW.pt (pw_and (pt_cmpR op_eq (pe_ix ix_list (pv 0) pe_int (fun _ _ => rfl)) pe_int (nomark _)) (pw_and1 (pt_cmpR (op_neD hu64) (pe_ix ix_list (pv 0) pe_int (fun _ _ => rfl)) (pe_lst pa_nil) (nomark _)))))
        (pss_cons (ps_set (i := 2) scDraw.nd rfl (Or.inl rfl) (pe_bm PySem.F.plainAttrs_list PySem.F.slot_list_pop PySem.F.type_list_pop mt_popAt (pe_ix ix_list (pv 0) pe_int (fun _ _ => rfl)) (pa_cons pe_int pa_nil)))
        (pss_cons (ps_asg (pe_op op_mod (pe_callTy call_int1 rfl gI boot_int (pa_cons (pe_op op_add (pe_op op_add (pe_op op_mul (pe_ix ix_list (pv 0) pe_int (fun _ _ => rfl)) pe_int) (pv 2)) pe_int) pa_nil)) pe_int) (pg_sub (pv 0) pe_int set_list))
        (pss_one (ps_asg (pe_ifExp (pt_cmpR op_ge (pv 2) (pe_op op_pow pe_int pe_int) (nomark _)) (pv 2) pe_int) (pg_sub (pv 0) pe_int set_list))))))
      (pss_cons (ps_if (pt_cmpR op_gt (pe_ix ix_list (pv 0) pe_int (fun _ _ => rfl)) pe_int (nomark _))
        (pss_cons (ps_set (i := 3) scDraw.nd rfl (Or.inl rfl) (pe_op op_mod (pe_callTy call_int1 rfl gI boot_int (pa_cons (pe_ix ix_list (pv 0) pe_int (fun _ _ => rfl)) pa_nil)) (pv 1)))
        (pss_cons (ps_asg (pe_op op_fdiv (pe_ix ix_list (pv 0) pe_int (fun _ _ => rfl)) (pv 1)) (pg_sub (pv 0) pe_int set_list))
        (pss_one (ps_ret (pv 3))))) pss_nil)
      (pss_cons (ps_set (i := 4) scDraw.nd rfl (Or.inl rfl) (pe_op op_mod (pe_callTy call_int1 rfl gI boot_int (pa_cons (pe_op op_pow (pe_op op_add (pe_op op_add (pe_ix ix_list (pv 0) pe_int (fun _ _ => rfl)) (pe_op op_mul pe_int (pe_ix ix_list (pv 0) pe_int (fun _ _ => rfl)))) pe_int) pe_int) pa_nil)) pe_int))
      (pss_one (ps_ret (pe_op op_mod (pe_op op_mod (pe_callTy call_int1 rfl gI boot_int (pa_cons (pe_op op_pow (pe_op op_add (pe_op op_add (pe_op op_mul (pv 4) pe_int) (pe_op op_mul pe_int (pe_ix ix_list (pv 0) pe_int (fun _ _ => rfl)))) pe_int) pe_int) pa_nil)) pe_int) (pv 1))))))), ?_⟩
    refine ⟨_, rfl, a, _, _, _, rfl, rfl, SqL.of S.ha, at2, _, _, rfl, rfl, _, rfl, a, _, _, _, rfl, rfl, S.ha, rfl, ?_⟩
    have q0 := S.q0
    have S1 := S.setA (p' := p) (q' := q + 1) (r' := r) S.p0 (by omega) S.r0 S.r1
    refine while_by2 (fun σ H' => ∃ (ns : List Int) (p r : Int) (c : Option V), σ = [some (.ref a), some (.int m), c, none, none] ∧ Strm H' a b ns p (q + 1) r ∧ KeepBut a b H H')
      (fun _ H' => lenAt H' b) (fun σ H' => ∃ (ns : List Int) (p r : Int) (c : Option V), σ = [some (.ref a), some (.int m), c, none, none] ∧ Strm H' a b ns p (q + 1) r ∧ KeepBut a b H H') ⟨ns, p, r, none, rfl, S1, .atA⟩ ?_ ?_ ?_
    · rintro σ H1 ⟨ns, p, r, c, rfl, S, kp⟩
      refine ⟨_, rfl, a, _, _, _, rfl, rfl, SqL.of S.ha, at1, rfl, _, rfl, ?_⟩
      refine ite2 (fun hp => ?_) (fun hp => iteF ⟨ns, p, r, c, rfl, S, kp⟩)
      refine ⟨_, rfl, a, _, _, _, rfl, rfl, SqL.of S.ha, at0, Nat.zero_le _, fun l hl => ?_⟩
      have S2 := S.new (o := .lst []) hl
      have kp2 : KeepBut a b H (upd H1 l (.lst [])) := kp.trans (.new hl)
      refine ⟨_, _, .lst (SqL.of S2.hb) (dp_ints ns), .lst (SqL.of upd_same) .nil, shaped_ints ns, shaped_ints [], _, rfl, ?_⟩
      rw [eqv_nil]
      cases ns with
      | nil => exact iteF ⟨[], p, r, c, rfl, S2, kp2⟩
      | cons n ns =>
        refine iteT ?_
        refine ⟨_, rfl, a, _, _, _, rfl, rfl, SqL.of S2.ha, at0, .inl ⟨rfl, _, SqL.of S2.hb⟩, b, _, 0, 0, _, rfl, rfl, S2.hb, by decide, by decide, seq0 (by simp), rfl, ?_⟩
        have S3 := S2.setB (ns' := ns)
        have kp3 : KeepBut a b H (upd (upd H1 l (.lst [])) b (.lst (ns.map V.int))) := kp2.trans .atB
        refine ⟨_, rfl, a, _, _, _, rfl, rfl, SqL.of S3.ha, at3, _, _, rfl, rfl, .inr ⟨by decide, by decide⟩, _, rfl, _, _, rfl, rfl, _, _, rfl, rfl, .inl ⟨_, rfl, _, _, rfl, rfl, (by decide : (0 : Int) < 2147483647), _, rfl, a, _, _, _, rfl, rfl, S3.ha, rfl, ?_⟩⟩
        have z0 := Int.emod_nonneg (r * 8191 + n + 3) (by decide : (2147483647 : Int) ≠ 0)
        have z1 := Int.emod_lt_of_pos (r * 8191 + n + 3) (by decide : (0 : Int) < 2147483647)
        have S4 := S3.setA (p' := p) (q' := q + 1) (r' := (r * 8191 + n + 3) % 2147483647) S3.p0 S3.q0 z0 z1
        have kp4 := kp3.trans (KeepBut.atA (o := .lst [.ref b, .int p, .int (q + 1), .int ((r * 8191 + n + 3) % 2147483647)]))
        have fall : ∀ p', lenAt (upd (upd (upd (upd H1 l (.lst [])) b (.lst (ns.map V.int))) a (.lst [.ref b, .int p, .int (q + 1), .int ((r * 8191 + n + 3) % 2147483647)])) a (.lst [.ref b, .int p', .int (q + 1), .int ((r * 8191 + n + 3) % 2147483647)])) b < lenAt H1 b := fun p' => by
          have e : (upd (upd (upd (upd H1 l (.lst [])) b (.lst (ns.map V.int))) a (.lst [.ref b, .int p, .int (q + 1), .int ((r * 8191 + n + 3) % 2147483647)])) a (.lst [.ref b, .int p', .int (q + 1), .int ((r * 8191 + n + 3) % 2147483647)])) b = some (.lst (ns.map V.int)) := by
            rw [upd_ne S.ne.symm]
            exact S4.hb
          rw [lenAt_of e, lenAt_of S.hb]
          simp
        refine ⟨_, rfl, _, _, rfl, rfl, ⟨by decide, by decide, by decide⟩, _, _, rfl, rfl, _, rfl, ?_⟩
        refine ite2 (fun hc => ?_) (fun hc => ?_)
        · have hc' : (10 : Int) ^ (18 : Int).toNat ≤ n := of_decide_eq_true hc
          have n0 : 0 ≤ n := Int.le_trans (by decide) hc'
          refine ⟨_, rfl, _, rfl, a, _, _, _, rfl, rfl, S4.ha, rfl, ?_⟩
          exact ⟨⟨ns, n, _, _, rfl, S4.setA n0 S4.q0 z0 z1, kp4.trans .atA⟩, fall n⟩
        · refine ⟨_, rfl, a, _, _, _, rfl, rfl, S4.ha, rfl, ?_⟩
          exact ⟨⟨ns, 0, _, _, rfl, S4.setA (by decide) S4.q0 z0 z1, kp4.trans .atA⟩, fall 0⟩
    · rintro σ H Q Q' hq ⟨v, e1, p, xs, i, z, e2, e3, e4, e5, e6, k, e7, h⟩
      refine ⟨v, e1, p, xs, i, z, e2, e3, e4, e5, e6, k, e7, ?_⟩
      cases k with
      | false => exact hq _ _ h
      | true =>
        obtain ⟨v, e1, p, xs, i, z, e2, e3, e4, e5, e6, h⟩ := h
        refine ⟨v, e1, p, xs, i, z, e2, e3, e4, e5, e6, fun l hl => ?_⟩
        obtain ⟨d, e, d1, d2, s1, s2, k, ek, h⟩ := h l hl
        exact ⟨d, e, d1, d2, s1, s2, k, ek, hq _ _ h⟩
    · rintro σ H1 ⟨ns, p, r, c, rfl, S, kp⟩
      refine ⟨_, rfl, a, _, _, _, rfl, rfl, SqL.of S.ha, at1, _, _, rfl, rfl, _, rfl, ?_⟩
      refine ite2 (fun hp => ?_) (fun hp => ?_)
      · have hp' : 0 < p := of_decide_eq_true hp
        refine ⟨_, rfl, a, _, _, _, rfl, rfl, SqL.of S.ha, at1, .inl ⟨_, rfl, _, rfl, _, _, rfl, rfl, m0, ?_⟩⟩
        refine ⟨_, rfl, a, _, _, _, rfl, rfl, SqL.of S.ha, at1, _, rfl, _, _, rfl, rfl, ⟨m0, m1⟩, _, rfl, a, _, _, _, rfl, rfl, S.ha, rfl, ?_⟩
        refine ⟨_, rfl, k _ ns (p / m) r (p % m) (Int.emod_nonneg _ (by omega)) (Int.emod_lt_of_pos _ m0) (S.setA (Int.ediv_nonneg S.p0 (by omega)) S.q0 S.r0 S.r1) (kp.trans .atA)⟩
      · have r0 := S.r0
        have r1 := S.r1
        have q0 := S.q0
        have z1 : (r + 7919 * (q + 1) + 104729).natAbs < 2 ^ 64 := by omega
        refine ⟨_, rfl, a, _, _, _, rfl, rfl, SqL.of S.ha, at3, _, rfl, a, _, _, _, rfl, rfl, SqL.of S.ha, at2, _, _, rfl, rfl, .inl ⟨by decide, by decide⟩, _, _, rfl, rfl, _, _, rfl, rfl, _, _, rfl, rfl, ⟨by decide, by decide, z1⟩, .inl ⟨_, rfl, _, _, rfl, rfl, (by decide : (0 : Int) < 2147483629), ?_⟩⟩
        have z2 : ∀ x : Int, 0 ≤ x → x < 2147483629 → (x * 48271 + 30011 * (q + 1) + 29).natAbs < 2 ^ 64 := by
          intro x x0 x1
          omega
        refine ⟨_, rfl, _, _, rfl, rfl, .inr ⟨by decide, by decide⟩, _, rfl, a, _, _, _, rfl, rfl, SqL.of S.ha, at2, _, _, rfl, rfl, .inl ⟨by decide, by decide⟩, _, _, rfl, rfl, _, _, rfl, rfl, _, _, rfl, rfl, ⟨by decide, by decide, z2 _ (Int.emod_nonneg _ (by decide)) (Int.emod_lt_of_pos _ (by decide))⟩, .inl ⟨_, rfl, _, _, rfl, rfl, (by decide : (0 : Int) < 1000000007), _, rfl, _, _, rfl, rfl, m0, ?_⟩⟩
        exact k _ ns p r _ (Int.emod_nonneg _ (by omega)) (Int.emod_lt_of_pos _ m0) S kp
end
end Md
namespace Md
open PySem PySem.Spec PyProof.Rows L2
abbrev sMixed : Stmt := top 44
theorem perm_pick {α : Type} : ∀ {l : List α} {k : Nat} {y : α}, l[k]? = some y → (y :: l.eraseIdx k).Perm l
  | [], _, _, h => by simp at h
  | x :: l, 0, y, h => by
    have e : x = y := by simpa using h
    subst e
    exact List.Perm.refl _
  | x :: l, k + 1, y, h => by
    have ih := perm_pick (l := l) (k := k) (y := y) (by simpa using h)
    show (y :: x :: l.eraseIdx k).Perm (x :: l)
    exact (List.Perm.swap x y _).trans (ih.cons x)
theorem ixN_at {n : Nat} {d : Int} (h0 : 0 ≤ d) (h1 : d < n) : seqIndex? d n = some d.toNat := by
  refine (ixN_seq ?_).1
  unfold ixN
  rw [if_pos h0, if_pos h1]
abbrev rLenS (K : PySem.W.Frag) : List V → Hp → VK → Prop := fun xs H Q => ∃ p ys, xs = [.ref p] ∧ (SqL K H p ys ∨ SqT K H p ys) ∧ Q (.int ys.length) H
def tePop (K : PySem.W.Frag) : TE := tBM K "list" rPopAt (tVar 2) (tCons (tCall spDraw [] E0 (tCons (tVar 0) (tCons (tCB (rLenS K) (tCons (tVar 2) tNil)) tNil))) tNil)
def spMixed (K : PySem.W.Frag) : Sp := fun vs H Q _ => ∃ (a b c : Addr) (ns : List Int) (p q r : Int) (xs : List V), vs = [.ref a, .ref c] ∧ Strm H a b ns p q r ∧ (SqL K H c xs ∨ SqT K H c xs) ∧ xs.length ≤ 1000 ∧ q + xs.length ≤ 1000000000000 ∧
  ∀ (H' : Hp) (ns' : List Int) (p' r' : Int) (l : Addr) (ys : List V), Strm H' a b ns' p' (q + xs.length) r' → KeepBut a b H H' → H l = none → H' l = some (.lst ys) → ys.Perm xs → Q (.ref l) H'
section
variable {P : Program} {w : World} {K : PySem.W.Frag} {mg : Str → Option Value} {base : Heap}
theorem scMixed : FnScope ["_law_stream", "_law_some", "_law_left", "_law_k"] ["_law_stream", "_law_some"] (defScope sMixed) := ⟨rfl, rfl, rfl, by decide +kernel, rfl, by decide +kernel, by decide +kernel⟩
theorem ok_mixed {f fD : Addr} {fd fdD : FuncData} (F : Fun K "_law_mixed" "_law_mixed" sMixed f fd) (FD : Fun K "_law_draw" "_law_draw" sDraw fD fdD) (bD : Binds K fdD ["_law_stream", "_law_many"] []) (gD : mg "_law_draw" = some (.ref fD)) (gI : mg "int" = none) (gL : mg "list" = none) (gN : mg "len" = none) (gR : mg "range" = none) : FnOk P w K mg base CX0 2 f fd ["_law_stream", "_law_some"] (spMixed K) := by
  have GD : FnOk P w K mg base CX0 1 fD fdD ["_law_stream", "_law_many"] spDraw := ok_draw FD gI
  refine F.ok scMixed (fun vs H Q E h => ?_) (fun cdv A outer s H vs Q E hr h => ?_)
  · obtain ⟨a, b, c, ns, p, q, r, xs, rfl, _⟩ := h
    rfl
  · obtain ⟨a, b, c, ns, p, q, r, xs, rfl, S, hc, hn, hq, k⟩ := h
    refine ⟨_, pss_cons (ps_set (i := 2) scMixed.nd rfl (Or.inr rfl) (pe_callTy call_list_of rfl gL boot_list (pa_cons (pv 1) pa_nil)))
      (pss_one (ps_ret (pe_lc (own := [("_law_k", 3)]) (g := gName 3) (tt := tYes) (te := tePop K) rfl scMixed.nd (pi_range1 rfl gR (pa_cons (pe_callB call_len_seq (by rfl) gN PySem.boot_len (pa_cons (pv 2) pa_nil)) pa_nil)) (blkOk_by (N := ["_law_stream", "_law_some", "_law_left", "_law_k"]) (sc := defScope sMixed) (by decide +kernel))
        (fun _ _ _ _ _ => pg_name (i := 3) scMixed.nd rfl (Or.inl rfl)) (fun _ _ _ _ _ => pts_nil)
        (fun _ _ _ _ _ => by exact pe_bm PySem.F.plainAttrs_list PySem.F.slot_list_pop PySem.F.type_list_pop mt_popAt (pv 2) (pa_cons (pe_call GD (hr.mono (by decide)) rfl gD FD.kp bD .nil pass0 (pa_cons (pv 0) (pa_cons (pe_callB call_len_seq (by rfl) gN PySem.boot_len (pa_cons (pv 2) pa_nil)) pa_nil))) pa_nil))))), ?_⟩
    refine ⟨_, rfl, c, xs, rfl, hc, fun L hL => ?_⟩
    have S1 := S.new (o := .lst xs) hL
    have La : L ≠ a := (ne_of_none S.ha hL).symm
    have Lb : L ≠ b := (ne_of_none S.hb hL).symm
    refine ⟨_, rfl, L, xs, rfl, .inl (SqL.of upd_same), _, rfl, by omega, by omega, fun D hD => ?_⟩
    have DL : D ≠ L := (ne_of_none upd_same hD).symm
    have Da : D ≠ a := (ne_of_none S1.ha hD).symm
    have Db : D ≠ b := (ne_of_none S1.hb hD).symm
    have hDH : H D = none := by
      rw [upd_ne DL] at hD
      exact hD
    refine lc_range (n := xs.length) (fun i H' => ∃ (ns : List Int) (p r : Int) (left acc : List V), Strm H' a b ns p (q + i) r ∧ KeepBut a b H H' ∧ H' L = some (.lst left) ∧ H' D = some (.lst acc) ∧ (acc ++ left).Perm xs ∧ acc.length = i) ?_ ?_ ?_
    · exact ⟨ns, p, r, xs, [], by simpa using (S1.new (o := .lst []) hD), (KeepBut.new hL).trans (.new hD), by rw [upd_ne DL.symm]; exact upd_same, upd_same, List.Perm.refl _, rfl⟩
    · rintro i H1 hi ⟨ns, p, r, left, acc, S2, kp, hL1, hD1, pm, ha⟩
      have hl : acc.length + left.length = xs.length := by
        have := pm.length_eq
        rw [List.length_append] at this
        exact this
      refine ⟨rfl, (?_ : tePop K _ H1 _)⟩
      refine ⟨_, rfl, .inl ⟨rfl, _, SqL.of hL1⟩, _, rfl, _, rfl, L, left, rfl, .inl (SqL.of hL1), a, b, ns, p, q + i, r, _, rfl, S2, by omega, by omega, by omega, fun H2 ns2 p2 r2 d d0 d1 S3 kp2 => ?_⟩
      have hL2 := kp2 L _ La Lb hL1
      have hD2 := kp2 D _ Da Db hD1
      have hlt : d.toNat < left.length := by omega
      have hy : left[d.toNat]? = some left[d.toNat] := List.getElem?_eq_getElem hlt
      refine ⟨L, left, d, d.toNat, _, rfl, rfl, hL2, by omega, by omega, ixN_at d0 (by omega), hy, acc, by rw [upd_ne DL]; exact hD2, small1000 (by omega), ?_⟩
      refine ⟨ns2, p2, r2, left.eraseIdx d.toNat, acc ++ [left[d.toNat]], ?_, ?_, by rw [upd_ne DL.symm]; exact upd_same, upd_same, ?_, ?_⟩
      · exact ((S3.other La Lb).other Da Db).cast (by push_cast; omega)
      · exact ((kp.trans kp2).un hL).un hDH
      · rw [List.append_assoc]
        exact ((perm_pick hy).append_left acc).trans pm
      · rw [List.length_append, ha]
        rfl
    · rintro H1 ⟨ns, p, r, left, acc, S2, kp, hL1, hD1, pm, ha⟩
      have hl : left = [] := by
        have := pm.length_eq
        rw [List.length_append] at this
        exact List.length_eq_zero_iff.mp (by omega)
      subst hl
      rw [List.append_nil] at pm
      exact k H1 ns p r D acc S2 kp hDH hD1 pm
end
end Md
/-! enumerate of a tuple -/
namespace Me
open PySem PySem.Spec PyProof.Rows L2
open Sem (wp)
open AutoSeq1 (wpAny_loadPart')
theorem meets_enumT (l : Addr) (items : Array Value) (n : Nat) (dct : Option Addr) (sl : Array (Option Value)) :
    Meets (Builtin.«enumerate.__new__» ⟨[.type "enumerate", .ref l], []⟩) (fun _ R s => s.heap.get? l = some { cls := .type "tuple", dict := dct, data := .seq items n, slots := sl } ∧
      R (.ok (.ret (.ref (s.heap.push { cls := .type "tuple_iterator", data := .fields #[.ref l, .int 0 0] }).objs.size)))
        { s with heap := (s.heap.push { cls := .type "tuple_iterator", data := .fields #[.ref l, .int 0 0] }).push { cls := .type "enumerate", data := .fields #[.none, .bool false, .ref s.heap.objs.size, rawInt 0, .none, .none] } }) :=
  .of_wp fun prog w A R s h => by
    obtain ⟨hp, g, d, tk, os⟩ := s
    obtain ⟨hl, h⟩ := h
    have hsub := sub_enumerate
    have hL : Heap.IsTuple (Shared.heap ⟨hp, g, d, tk, os⟩) l items := ⟨_, hl, rfl, n, rfl⟩
    wp_walk using wpAny_loadPart' hl
    refine wpAny_stack_any fun st => wpAny_pure ?_
    split
    · rename_i c _ _ _ _ _
      cases (c == Value.type "enumerate")
      · wp_walk using wpAny_loadPart' hl, wpAny_pyIter_tuple hL
        exact ⟨_, rfl, h⟩
      · wp_walk using wpAny_loadPart' hl, wpAny_pyIter_tuple hL
        exact ⟨_, rfl, h⟩
    · wp_walk using wpAny_loadPart' hl, wpAny_pyIter_tuple hL
      exact ⟨_, rfl, h⟩
section
variable {prog : Program} {w : World} {A : Around} {E : Value → Shared → Prop} {s : Shared}
theorem call_enumT {l : Addr} {items : Array Value} {Q : Value → Shared → Prop} (hL : s.heap.IsTuple l items)
    (h : ∀ h', IsEnum h' (s.heap.objs.size + 1) s.heap.objs.size 0 .none → h'.IsTupleIter s.heap.objs.size l 0 → h'.objs.size = s.heap.objs.size + 2 →
      (∀ b o, s.heap.get? b = some o → h'.get? b = some o) → Q (.ref (s.heap.objs.size + 1)) { s with heap := h' }) :
    wpAny (model prog w) A (call (.type "enumerate") [.ref l]) Q E s := by
  obtain ⟨⟨c, dct, dt, sl⟩, hl, hc, n, hd⟩ := hL
  replace hc : c = .type "tuple" := hc
  replace hd : dt = .seq items n := hd
  subst hc hd
  refine callType_new F.called_enumerate (by decide) (F.typeCall_enumerate_1 _) (F.newCall_enumerate_1 _) (fun obj => F.args_object_init_2 obj _) F.entry_enumerate_new
    (meets_enumT l items n dct sl) ⟨hl, ?_⟩
  have hz : (s.heap.push { cls := .type "tuple_iterator", data := .fields #[.ref l, .int 0 0] }).objs.size = s.heap.objs.size + 1 := Heap.size_push ..
  show _ ∧ _
  rw [hz]
  have he : IsEnum ((s.heap.push { cls := .type "tuple_iterator", data := .fields #[.ref l, .int 0 0] }).push
      { cls := .type "enumerate", data := .fields #[.none, .bool false, .ref s.heap.objs.size, rawInt 0, .none, .none] }) (s.heap.objs.size + 1) s.heap.objs.size 0 .none := by
    have q := Heap.get?_push_size (s.heap.push { cls := .type "tuple_iterator", data := .fields #[.ref l, .int 0 0] })
      (o := { cls := .type "enumerate", data := .fields #[.none, .bool false, .ref s.heap.objs.size, rawInt 0, .none, .none] }) rfl
    rw [hz] at q
    exact q
  refine ⟨⟨_, he, rfl⟩, h _ he ⟨_, Heap.get?_push_of_some _ (Heap.get?_push_size _ rfl), rfl, rfl⟩ (by rw [Heap.size_push, hz]) fun b o x => Heap.get?_push_of_some _ (Heap.get?_push_of_some _ x)⟩
end
/-- enumerate of the tuple at a: each item in a new pair -/
def ItT (K : PySem.W.Frag) (a : Addr) : It :=
  ⟨fun i H => ∃ (xs : List V) (x : V), SqT K H a xs ∧ xs[i]? = some x, fun i H v H' => ∃ T x, v = .ref T ∧ H T = none ∧ H' = upd H T (.tup [.int (i : Nat), x]) ∧ ∀ xs, SqT K H a xs → xs[i]? = some x, fun i H => ∃ xs : List V, SqT K H a xs ∧ xs.length ≤ i⟩
theorem turn_enumT {P : Program} {w : World} {K : PySem.W.Frag} {elts : List Expr} {kk : Nat} {tpos : Pos} (a e it : Addr) :
    Turn P w K (.Tuple elts kk tpos) (ItT K a) [e, it] e (fun i h => (∃ old, IsEnum h e it ((i : Nat) : Int) old) ∧ h.IsTupleIter it a i ∧ e ≠ it) where
  mem := by simp
  obj := fun i h st b hb => by
    obtain ⟨⟨old, he⟩, ⟨o, ho, hc, hd⟩, _⟩ := st
    have e' : b = e ∨ b = it := by simpa using hb
    rcases e' with z | z
    · rw [z]
      exact ⟨_, he, fun v q => nomatch q⟩
    · rw [z]
      exact ⟨o, ho, fun v q => by rw [hd] at q; cases q⟩
  keep := fun i h h' st k => let ⟨⟨old, he⟩, hi, hne⟩ := st; ⟨⟨old, k e (by simp) _ he⟩, hi.at fun o q => k it (by simp) o q, hne⟩
  item := by
    intro X hP hw hK hc i pins s σ H E I hf st hg
    subst hP hw hK
    obtain ⟨⟨old, he⟩, hit, hne⟩ := st
    obtain ⟨xs, x, hq, hx⟩ := hg
    obtain ⟨its, rv, p, hz⟩ := I.tuple hq
    obtain ⟨u, hu, ru⟩ := rv.get hx
    have hT : s.heap.IsTuple a its.toArray := p
    have hel : e < s.heap.objs.size := Heap.lt_size he
    have hil : it < s.heap.objs.size := by
      obtain ⟨_, q, _⟩ := hit
      exact Heap.lt_size q
    have ait : a ≠ it := fun z => by
      obtain ⟨o1, h1, c1, _⟩ := hT
      obtain ⟨o2, h2, c2, _⟩ := hit
      rw [z, h2] at h1
      cases h1
      rw [c1] at c2
      exact absurd c2 (by decide)
    have ae : e ≠ a := fun z => by
      obtain ⟨o1, h1, c1, _⟩ := hT
      rw [← z] at h1
      have h2 : s.heap.get? e = _ := he
      rw [h2] at h1
      cases h1
      have c2 : Value.type "enumerate" = Value.type "tuple" := c1
      exact absurd c2 (by decide)
    have hlt : i < its.toArray.size := by
      rw [List.size_toArray]
      rw [← rv.length]
      rcases Nat.lt_or_ge i xs.length with z | z
      · exact z
      · rw [List.getElem?_eq_none z] at hx
        cases hx
    refine wpAny_pyNext_enum_itemD (Draws.tuple (A := X.A.in1) (show X.A.in1.handled = none from I.ok.hd hc) it a ait its.toArray) he ⟨hit, hT⟩ hlt hne (by simp [hne, ae]) fun y h' tk hy ho hit' hT' hsz hk => ?_
    have ey : y = u := by
      have e1 : its[i]? = some y := by simpa using hy
      rw [hu] at e1
      exact (Option.some.inj e1).symm
    subst ey
    refine ⟨_, rfl, wpAny_letOwnedTupleGo_enum (s := { s with heap := h', toks := tk + 1 }) ho fun h'' he' sb => ?_⟩
    have hT2 : h''.get? s.heap.objs.size = some { cls := .type "tuple", data := .seq #[.int i tk, y] } := (sb.2 _ (Nat.ne_of_gt hel)).trans hT'
    have new : ObjOk X.prog X.w (upd H s.heap.objs.size (.tup [.int (i : Nat), x])) h'' s.heap.objs.size (.tup [.int (i : Nat), x]) :=
      ⟨by show 2 ≤ sizeLine; decide, [.int i tk, y], .cons ⟨_, rfl⟩ (.cons ru .nil), ⟨_, hT2, rfl, _, rfl⟩⟩
    have I1 : Inv X pins σ (upd H s.heap.objs.size (.tup [.int (i : Nat), x])) { s with heap := h'', toks := tk + 1 } :=
      I.turnedNew (ch := [e, it]) (fun b ob hb q => (sb.2 b (fun z => hb (by simp [z]))).trans (hk b ob (fun z => hb (by simp [z])) (fun z => hb (by simp [z])) q)) hf (Nat.le_refl _) new
    refine ⟨.ref s.heap.objs.size, _, I1, rfl, ⟨_, x, rfl, I.hok.fresh (Nat.le_refl _), rfl, fun ys hy => by rw [I.tuple_inj hy hq]; exact hx⟩, ⟨⟨y, ?_⟩, hit'.1.at fun o q => (sb.2 it (Ne.symm hne)).trans q, hne⟩, fun b hb => ?_⟩
    · have e1 : ((i + 1 : Nat) : Int) = (i : Int) + 1 := by omega
      rw [e1]
      exact he'
    · have hb' : b < s.heap.objs.size := by
        have e' : b = e ∨ b = it := by simpa using hb
        rcases e' with z | z
        · rw [z]
          exact hel
        · rw [z]
          exact hil
      rw [upd_ne (Nat.ne_of_lt hb')]
      exact (hf b hb).1
  done := by
    intro X hP hw hK hc i pins s σ H E I hf st hg
    subst hP hw hK
    obtain ⟨⟨old, he⟩, hit, hne⟩ := st
    obtain ⟨xs, hq, hx⟩ := hg
    obtain ⟨its, rv, p, hz⟩ := I.tuple hq
    have hT : s.heap.IsTuple a its.toArray := p
    obtain ⟨f0, f1, f2, f3, f4, f5⟩ := hf it (by simp)
    have hl := rv.length
    have hTy : s.TypeIs (.ref e) "enumerate" := ⟨_, he, rfl⟩
    unfold pyNext
    refine wpAny_bind (wpAny_attempt (wpAny_callSpecial?_slot (name := Str.ofString "__next__") hTy F.slot_enumerate_next
      (wpAny_call_entry F.slot_enumerate_next hTy F.entry_enumerate_next ?_ (F.args_enumerate_next_1 _))))
    show wpAny _ _ (field (.ref e) 2 >>= _) _ _ _
    refine wpAny_bind (wpAny_field he rfl (x := .ref it) rfl ?_)
    refine wpAny_bind (wpAny_nextOf_tuple_end (I.ok.hd hc) hit hT (by simp; omega) fun h' x he' hx' => ?_)
    obtain ⟨o, ho, hc⟩ := hx'
    refine wpAny_bind (wpAny_isInstance (T := "StopIteration") (b := true) ⟨o, ho, hc⟩ isSubtype_stop ?_)
    exact wpAny_pure ⟨rfl, I.turned (t' := s.toks) (fun b o hb q => he' b o hb q) f0 f1 f3 f4 f5⟩
  self := fun A i s Q E st h => let ⟨⟨_, he⟩, _⟩ := st; wpAny_pyIter_enum he h
/-- enumerate of a list or a tuple -/
def iEnumA (K : PySem.W.Frag) (ta : TA) : TI := fun σ H R => ta σ H fun vs H1 => ∃ a xs, vs = [.ref a] ∧ ((SqL K H1 a xs ∧ R (Ite K a) H1) ∨ (SqT K H1 a xs ∧ R (ItT K a) H1))
theorem pi_enumA {X : Cx} {e : Expr} {ta : TA} {p pos tpos : Pos} {elts : List Expr} {kk : Nat} (hg : Gl X "enumerate") (hm : X.mg "enumerate" = none) (ha : PA X [e] ta) (hs : starEach [e] X.env = [(false, eval e X.env)] := by rfl) :
    PI X (.Tuple elts kk tpos) (.Call (.Name "enumerate" p) [e] [] pos) (iEnumA X.K ta) := by
  refine ⟨fun pins s σ H R I h => ?_⟩
  refine Call_ (ld_blt I hg hm boot_enumerate (PyProof.Rows.callWith_type1 (thn (ha.run pos pins s σ H _ I h) fun us s1 ⟨vs, H1, I1, r1, q1⟩ => ?_) hs rfl))
  obtain ⟨a, xs, ex, hq⟩ := q1
  subst ex
  cases r1 with
  | cons r rr =>
    cases rr
    cases r
    have fpo : ∀ b ∈ [s1.heap.objs.size + 1, s1.heap.objs.size], s1.heap.objs.size ≤ b := fun b hb => by
      have e' : b = s1.heap.objs.size + 1 ∨ b = s1.heap.objs.size := by simpa using hb
      rcases e' with z | z
      · rw [z]
        exact Nat.le_add_right _ _
      · rw [z]
        exact Nat.le_refl _
    rcases hq with ⟨hq, q⟩ | ⟨hq, q⟩
    · obtain ⟨its, rv, p', hz⟩ := I1.list hq
      refine call_enumerate_list p'.isList fun h' he hit hsz hk => wpAny_pyIter_enum he ?_
      have I2 : Inv X pins σ H1 { s1 with heap := h' } := I1.kept (t' := s1.toks) hk
      exact ⟨s1.heap.objs.size + 1, [s1.heap.objs.size + 1, s1.heap.objs.size], _, _, H1, rfl, I2, turn_enum a (s1.heap.objs.size + 1) s1.heap.objs.size, ⟨⟨.none, he⟩, hit, Nat.succ_ne_self _⟩, fun b hb => I1.fpOk (fpo b hb) (I1.hok.fresh (fpo b hb)), q⟩
    · obtain ⟨its, rv, p', hz⟩ := I1.tuple hq
      refine call_enumT (items := its.toArray) p' fun h' he hit hsz hk => wpAny_pyIter_enum he ?_
      have I2 : Inv X pins σ H1 { s1 with heap := h' } := I1.kept (t' := s1.toks) hk
      exact ⟨s1.heap.objs.size + 1, [s1.heap.objs.size + 1, s1.heap.objs.size], _, _, H1, rfl, I2, turn_enumT a (s1.heap.objs.size + 1) s1.heap.objs.size, ⟨⟨.none, he⟩, hit, Nat.succ_ne_self _⟩, fun b hb => I1.fpOk (fpo b hb) (I1.hok.fresh (fpo b hb)), q⟩
theorem walk_enumT {K : PySem.W.Frag} {a : Addr} {xs : List V} : Walk (ItT K a) xs.length (fun H => SqT K H a xs) (YPair (fun i => some (.int (i : Nat))) (fun i => xs[i]?)) :=
  ⟨fun i _ hi q => ⟨xs, xs[i], q, by simp [hi]⟩, fun _ q => ⟨xs, q, Nat.le_refl _⟩, fun _ _ _ _ _ q y => by
    obtain ⟨T, x, rfl, h1, h2, h3⟩ := y
    exact ⟨T, _, x, rfl, h1, h2, rfl, h3 xs q⟩⟩
end Me
/-! A lambda with one parameter and captured names, handed to a def that calls it. -/
namespace Ml
open PySem PySem.Spec PyProof.Rows L2 LamX
structure LamS1 (a : Str) (sc scope : Scope) : Prop where
  kind : scope.kind = .function
  co : scope.isCoroutine = false
  gen : scope.isGenerator = false
  par : scope.names.lookup a = some .local
  own : ∀ y ∈ scope.names, y.2 ≠ .cell
  loc : ∀ y ∈ scope.names, y.2 = .local → y.1 = a
  free : ∀ y ∈ scope.names, y.2 = .free → sc.names.lookup y.1 = some .cell ∨ sc.names.lookup y.1 = some .free
theorem LamS1.has {X : Cx} {a : Str} {scope : Scope} (L : LamS1 a X.env.scope scope) (ok : X.Ok) : ∀ y ∈ scope.names, y.2 = .free → ∃ c, X.env.cells.lookup y.1 = some c := fun y hy e => by
  rcases L.free y hy e with k | k
  · exact ok.has _ (.inl k)
  · exact ok.has _ (.inr k)
def lamCx1 (X : Cx) (a : Str) (A : Around) (outer : List Env) (s : Shared) (H : Hp) (E : XK) (scope : Scope) (f c' : Addr) : Cx where
  prog := X.prog
  w := X.w
  K := X.K
  mg := X.mg
  base := X.base
  A := A.deeper (lamEnv X scope s.heap.objs.size f c')
  N := X.N ++ [a]
  s_0 := s
  H_0 := H
  env := lamEnv X scope s.heap.objs.size f c'
  outer := outer
  stack := lamEnv X scope s.heap.objs.size f c' :: outer
  ex := []
  fn := fun _ => false
  calm := true
  pn := []
  xe := fun e s' => wpAny (model X.prog X.w) (A.deeper (lamEnv X scope s.heap.objs.size f c')) (leaving (lamEnv X scope s.heap.objs.size f c') e) (fun _ s'' => L2.CX X.prog X.w outer H s E e s'') (fun e' s'' => L2.CX X.prog X.w outer H s E e' s'') s'
section
variable {X : Cx} {pins : List (Addr × Obj)} {σ : L2.St} {H HZ : Hp} {s s1 : Shared}
theorem lam_start1 {a : Str} {v : V} {u : Value} {A : Around} {outer : List Env} {E : XK} {scope : Scope} {f c' : Addr} {h₁ : Heap} {tk : Nat} (na : a ∉ X.N) (rv : RelV v u) (I : Inv X pins σ H s) (L : LamS1 a X.env.scope scope) (e0 : Env0 X.prog X.w X.K X.mg X.base A outer s1 HZ) (hd : A.handled = none)
    (un : Un (frs X.stack) [] H HZ s.heap s1.heap) (hns : h₁.Ns s1.heap.objs.size fun y => ([(a, u)] : List (Str × Value)).reverse.lookup y) (kp : ∀ b o, s1.heap.get? b = some o → h₁.get? b = some o) :
    Inv (lamCx1 X a A outer s1 HZ E scope f c') [] (σ ++ [some v]) HZ { s1 with heap := h₁, toks := tk } := by
  have hfree := L.has I.ok
  have cm : ∀ {y c}, (cloFrom X.env.cells scope.names []).lookup y = some c → X.env.cells.lookup y = some c := fun {y c} e => by
    rcases cloFrom_mem (PySem.mem_of_lookup e) with hm | ⟨h1, h2⟩
    · cases hm
    · obtain ⟨c1, hc⟩ := hfree _ h1 rfl
      have hc : X.env.cells.lookup y = some c1 := hc
      have e2 : c = c1 := by
        rw [h2, hc] <;> rfl
      rw [e2]
      exact hc
  have look : ∀ {y}, scope.names.lookup y = some .free → ∃ c, (cloFrom X.env.cells scope.names []).lookup y = some c := fun {y} hl => by
    have hy : (y, NameKind.free) ∈ scope.names := PySem.mem_of_lookup hl
    exact mem_lookup (cloFrom_has (cells := X.env.cells) (acc := []) hy)
  have cellK : ∀ {c : Addr} {v : Option Value}, H c = none → s.heap.IsCell c v → h₁.IsCell c v := fun {c v} n ⟨o, ho, hd⟩ => by
    obtain ⟨sl, q⟩ := un.any ho n (by simp)
    exact ⟨_, kp _ _ q, hd⟩
  have noA : ∀ b : Addr, b ∉ (lamCx1 X a A outer s1 HZ E scope f c').ex := fun b z => absurd (show b ∈ ([] : List Addr) from z) (by simp)
  have hlen := I.len
  refine ⟨⟨e0.mod, L.kind, rfl, rfl, Nat.le_refl _, fun y z c e1 e2 => I.ok.inj y z c (cm e1) (cm e2), fun y hy => ?_, fun y c z _ => ?_, fun _ => hd, Around.frames_deeper e0.frames, .inr ⟨rfl, rfl⟩, fun b z => absurd z (noA b), e0.bs, e0.bsz, fun b _ _ => noA b,
      fun b z => absurd z (noA b), e0.funs, e0.frf⟩,
    rfl, e0.bare, Un.kept kp, ⟨_, hns, fun i y v' e1 e2 e3 => ?_⟩, fun y c e => ?_, e0.hok.fresh (Nat.le_refl _), fun y c e => ?_, fun q hq => absurd (show q ∈ ([] : List (Addr × Obj)) ++ [] from hq) (by simp), e0.hok.kept kp, by
      show (σ ++ [some v]).length = (X.N ++ [a]).length
      rw [List.length_append, List.length_append, hlen]
      rfl⟩
  · have hy : scope.names.lookup y = some .cell ∨ scope.names.lookup y = some .free := hy
    rcases hy with hy | hy
    · exact absurd rfl (L.own _ (PySem.mem_of_lookup hy))
    · exact look hy
  · have z : false = true := z
    cases z
  · have e1 : (X.N ++ [a])[i]? = some y := e1
    have e3 : Vis scope y := e3
    by_cases hi : i < X.N.length
    · rw [List.getElem?_append_left hi] at e1
      rw [List.getElem?_append_left (by omega)] at e2
      rcases e3 with k | k | k
      · have z := L.loc _ (PySem.mem_of_lookup k) rfl
        have z : y = a := z
        rw [z] at e1
        exact absurd (List.mem_of_getElem? e1) na
      · exact absurd rfl (L.own _ (PySem.mem_of_lookup k))
      · obtain ⟨m, hn, hl⟩ := I.loc
        have hvis : Vis X.env.scope y := (L.free _ (PySem.mem_of_lookup k) rfl).elim (fun k => .inr (.inl k)) (fun k => .inr (.inr k))
        obtain ⟨w', r, q⟩ := hl i y v' e1 e2 hvis
        obtain ⟨c2, h2⟩ := look k
        refine ⟨w', r, .inr ⟨.inr k, c2, h2, ?_⟩⟩
        have c1 := cm h2
        rcases q with ⟨k', _⟩ | ⟨_, c3, e', z⟩
        · have k' : X.env.scope.names.lookup y = some .local := k'
          rcases L.free _ (PySem.mem_of_lookup k) rfl with k2 | k2 <;> rw [show X.env.scope.names.lookup y = _ from k2] at k' <;> cases k'
        · rw [c1] at e'
          cases e'
          exact cellK (I.freeC y _ c1) z
    · rw [List.getElem?_append_right (by omega)] at e1
      rw [List.getElem?_append_right (by omega)] at e2
      have hj : i - X.N.length = 0 := by
        cases q : i - X.N.length with
        | zero => rfl
        | succ n =>
          rw [q] at e1
          simp at e1
      have hj2 : i - σ.length = 0 := by omega
      rw [hj] at e1
      rw [hj2] at e2
      have ey : a = y := by simpa using e1
      have ev : v = v' := by simpa using e2
      subst ey ev
      refine ⟨u, rv, .inl ⟨L.par, ?_⟩⟩
      show ([(a, u)] : List (Str × Value)).reverse.lookup a = some u
      simp [List.lookup]
  · obtain ⟨w', z⟩ := I.cell y c (cm e)
    exact ⟨w', cellK (I.freeC y c (cm e)) z⟩
  · obtain ⟨v, o, ho, hd⟩ := I.cell y c (cm e)
    exact un.free c o ho (I.freeC y c (cm e)) (by simp)
/-- x(e), in the def that got the lambda -/
theorem pe_act1 {CXg : CXT} {Eg : XK} {Ng : List Str} {qg : Str} {sg : Scope} {g f c' : Addr} {cdg pm ctv : Value} {params : Arguments} {body : Expr} {scope : Scope} {k i : Nat} {a b : Str} {pn : List (Addr × Obj)} {xe : Value → Shared → Prop} {tb : TE} {p1 p2 : Pos} {e : Expr} {ta : TA}
    (na : b ∉ X.N) (I : Inv X pins σ H s) (L : LamS1 b X.env.scope scope) (hf : s.heap.get? f = some (PySem.W.kla_obj "<lambda>" (X.env.qual ++ "<lambda>") params body scope (cloFrom X.env.cells scope.names []) pm c' ctv)) (hfn : H f = none) (hfr : f ∉ frs X.stack)
    (hbind : ∀ u : Value, bindArgs (PySem.W.kla_fn "<lambda>" (X.env.qual ++ "<lambda>") params body scope (cloFrom X.env.cells scope.names []) pm (.ref c') ctv) ⟨[u], []⟩ = pure [(b, u)])
    (hr : Room (k + 1) (X.A.deeper (envOfC qg sg s.heap.objs.size g cdg)))
    (hbody : ∀ (A : Around) (outer : List Env) (s : Shared) (H : Hp), Room k (A.deeper (lamEnv X scope s.heap.objs.size f c')) → PE (lamCx1 X b A outer s H E0 scope f c') body tb)
    (hN : Ng[i]? = some a) (hv : Vis sg a)
    (ha : PA ((cxOf CXg X.prog X.w X.K X.mg X.base Ng qg sg g cdg X.A X.stack s H Eg).tr pn xe) [e] ta)
    (he : starEach [e] ((cxOf CXg X.prog X.w X.K X.mg X.base Ng qg sg g cdg X.A X.stack s H Eg).tr pn xe).env = [(false, eval e ((cxOf CXg X.prog X.w X.K X.mg X.base Ng qg sg g cdg X.A X.stack s H Eg).tr pn xe).env)] := by rfl)
    (hd : (a == ("__debug__" : Str)) = false := by decide) (hcd : (a == ("__classdict__" : Str)) = false := by decide) :
    PE ((cxOf CXg X.prog X.w X.K X.mg X.base Ng qg sg g cdg X.A X.stack s H Eg).tr pn xe) (.Call (.Name a p1) [e] [] p2)
      (fun σZ HZ Q => σZ[i]? = some (some (.ref f)) ∧ ta σZ HZ fun vs H1 => ∃ v, vs = [v] ∧ H1 c' = some (CodeO c' (X.env.qual ++ "<lambda>")) ∧ tb (σ ++ [some v]) H1 Q) := by
  refine ⟨fun pinsZ sZ σZ HZ Q IZ h => ?_⟩
  obtain ⟨hs, ht⟩ := h
  refine wpAny_Call_Name_kw (thn ((pe_var (pos := p1) (i := i) hN hv hd hcd).run pinsZ sZ σZ HZ (fun v H1 => v = .ref f ∧ H1 = HZ) IZ ⟨.ref f, hs, rfl, rfl⟩) fun u s1 ⟨v, H1, I1, r1, q1⟩ => ?_)
  obtain ⟨ev, eH⟩ := q1
  subst ev
  rw [eH] at I1
  obtain rfl : u = Value.ref f := r1
  have of1 : s1.heap.get? f = some (PySem.W.kla_obj "<lambda>" (X.env.qual ++ "<lambda>") params body scope (cloFrom X.env.cells scope.names []) pm c' ctv) := I1.base.keep f _ hf hfn hfr (fun z => nomatch (show f ∈ ([] : List Addr) from z))
  refine PySem.W.callWith_F (first := []) ⟨_, _, _, _, of1⟩ (thn (ha.run p2 pinsZ s1 σZ HZ _ I1 ht) fun us s2 ⟨vs, H2, I2, r, q⟩ => ?_) he rfl
  obtain ⟨v, rfl, hc, ht⟩ := q
  have of2 : s2.heap.get? f = some (PySem.W.kla_obj "<lambda>" (X.env.qual ++ "<lambda>") params body scope (cloFrom X.env.cells scope.names []) pm c' ctv) := I2.base.keep f _ hf hfn hfr (fun z => nomatch (show f ∈ ([] : List Addr) from z))
  refine ⟨⟨_, _, _, _, of2⟩, ?_⟩
  have un : Un (frs X.stack) [] H H2 s.heap s2.heap := I2.base
  obtain ⟨⟨oc, fv, t, hoc, hdc, hvc⟩, _, _⟩ := I2.hok c' _ hc
  cases r with
  | @cons _ u _ us rv rr =>
    cases rr
    have rc : codeAny (model X.prog X.w) (X.A.deeper (envOfC qg sg s.heap.objs.size g cdg)) (.call (.ref f) ⟨[u], []⟩) (CR (L2.CX X.prog X.w) (envOfC qg sg s.heap.objs.size g cdg :: X.stack) X.prog X.w H2 s2 Q E0) s2 := by
      refine PySem.W.kla_callFunE hr.depth of2 rfl L.co L.gen rfl ⟨c', oc, fv, t, rfl, hoc, hdc, hvc⟩ ?_
      rw [hbind]
      refine wpAny_pure (wpAny_newFunctionEnv (fun y hy => L.own y hy) (fun y hy => ?_) (fun h₁ hns hsb => ⟨I2.nolimit.fresh _ hsb, ?_⟩) L.kind)
      · have e : y = (b, u) := by simpa using hy
        rw [e]
        exact L.par
      show codeAny _ _ (.expr body (lamEnv X scope s2.heap.objs.size f c')) _ _
      have kp : ∀ b o, s2.heap.get? b = some o → h₁.get? b = some o := fun b o e => hsb.extBut b o (Nat.ne_of_lt (Heap.lt_size e)) (Heap.get?_push_of_some _ e)
      have J : Inv (lamCx1 X b (X.A.deeper (envOfC qg sg s.heap.objs.size g cdg)) (envOfC qg sg s.heap.objs.size g cdg :: X.stack) s2 H2 E0 scope f c') [] (σ ++ [some v]) H2 { s2 with heap := h₁, toks := s2.toks + ([(b, u)] : List (Str × Value)).length } :=
        lam_start1 na rv I L I2.env0 hr.hd un hns kp
      refine PySem.W.kla_codeExpr (wpAny_mono ((hbody _ _ s2 H2 (hr.deeper _)).run [] _ _ H2 Q J ht) (fun v s' hq => ?_) fun e s' hq => hq)
      obtain ⟨w', H', J', rv, q⟩ := hq
      exact ⟨w', H', J'.os, J'.bare, J'.base, J'.hok, rv, q⟩
    have hx : Passes (L2.CX X.prog X.w) ((cxOf CXg X.prog X.w X.K X.mg X.base Ng qg sg g cdg X.A X.stack s H Eg).tr pn xe) E0 := passes_call LamX.takes0 (fun _ _ _ _ z => z.elim)
    show wpAny _ _ (call (.ref f) [u]) _ _ _
    refine wpAny_call (codeAny_mono rc fun r s' hq => ?_)
    cases r with
    | error e => exact hx pinsZ σZ H2 s2 e s' I2 hq
    | ok fl =>
      cases fl with
      | ret u => exact I2.after hq
      | next => exact False.elim hq
      | brk => exact False.elim hq
      | cont => exact False.elim hq
end
/-- the def g of the parameters a0, a1 that calls a1 -/
def GivesTo1 (X : Cx) (Ng : List Str) (x : Str) (sg : Scope) (g : Addr) (cdg : Value) (bg : List Stmt) (a : Str) (q : Str) (TT : V → (V → Hp → VK → Prop) → Hp → VK → Prop) : Prop :=
  ∀ (f c' : Addr) (v0 : V) (s : Shared) (H : Hp) (Q : VK) (tl : V → Hp → VK → Prop),
    (∀ (pn : List (Addr × Obj)) (xe : Value → Shared → Prop) (e : Expr) (ta : TA) (p1 p2 : Pos), PA ((cxOf C8.CX0 X.prog X.w X.K X.mg X.base Ng x sg g cdg X.A X.stack s H C8.E0).tr pn xe) [e] ta →
      starEach [e] ((cxOf C8.CX0 X.prog X.w X.K X.mg X.base Ng x sg g cdg X.A X.stack s H C8.E0).tr pn xe).env = [(false, eval e ((cxOf C8.CX0 X.prog X.w X.K X.mg X.base Ng x sg g cdg X.A X.stack s H C8.E0).tr pn xe).env)] →
      PE ((cxOf C8.CX0 X.prog X.w X.K X.mg X.base Ng x sg g cdg X.A X.stack s H C8.E0).tr pn xe) (.Call (.Name a p1) [e] [] p2) (fun σZ HZ Q => σZ[1]? = some (some (.ref f)) ∧ ta σZ HZ fun vs H1 => ∃ v, vs = [v] ∧ H1 c' = some (CodeO c' q) ∧ tl v H1 Q)) →
    H c' = some (CodeO c' q) → TT v0 tl H Q →
    ∃ t, PSs (cxOf C8.CX0 X.prog X.w X.K X.mg X.base Ng x sg g cdg X.A X.stack s H C8.E0).nox bg t ∧ t { nx := fun _ H' => Q .non H', rt := Q } (L2.start Ng [v0, .ref f]) H
def tLam1 (T : List (Addr × Str)) (TT : V → (V → Hp → VK → Prop) → Hp → VK → Prop) (t0 t : TE) : TE := fun σ H Q => t0 σ H fun v0 H0 => Tabs T H0 ∧ ∀ H1, ExtN H0 H1 → Tabs T H1 → TT v0 (fun v H' Q' => t (σ ++ [some v]) H' Q') H1 Q
section
variable {X : Cx}
/-- x(e, lambda b: body) -/
theorem pe_lamcall1 {T : List (Addr × Str)} {TT : V → (V → Hp → VK → Prop) → Hp → VK → Prop} {x a a0 b : Str} {g c P : Addr} {k : Nat} {pg : Arguments} {bg : List Stmt} {sg : Scope} {dV kV doc pm cdv ct oc : Value} {an od : Option Addr} {osl : Array (Option Value)} {Ng : List Str}
    {params : Arguments} {body e : Expr} {scope : Scope} {t0 t : TE} {p lpos pos : Pos} (hg : Gl X x) (hm : X.mg x = some (.ref g)) (hk : PySem.W.keepIn X.K (.ref g) = true)
    (lk : X.K.lookup g = some ⟨oc, od, .func (PySem.W.fnOf x x pg bg sg dV kV doc pm an cdv ct), osl⟩) (hcg : PySem.W.codeIn X.K cdv x = true) (hb : L2.Binds X.K (PySem.W.fnOf x x pg bg sg dV kV doc pm an cdv ct) [a0, a] []) (Sg : FnScope Ng [a0, a] sg) (hNg : Ng[1]? = some a) (hva : Vis sg a)
    (hG : GivesTo1 X Ng x sg g cdv bg a (X.env.qual ++ "<lambda>") TT)
    (TB : TabB X.base X.mg c P) (hcode : X.env.code = .ref c) (hmT : (P, X.env.qual ++ "<lambda>") ∈ T) (hu : ∀ p ∈ T, p.1 = P → p.2 = X.env.qual ++ "<lambda>") (hr : Room (k + 2) X.A) (L : LamS1 b X.env.scope scope) (nb : b ∉ X.N) (hdef : defaultsOf params X.env = ([], []))
    (hbind : ∀ (q : Str) (cl : List (Str × Addr)) (pm cv ctv u : Value), bindArgs (PySem.W.kla_fn "<lambda>" q params body scope cl pm cv ctv) ⟨[u], []⟩ = pure [(b, u)])
    (h0 : PE X e t0)
    (hbody : ∀ (A : Around) (outer : List Env) (s : Shared) (H : Hp) (f c' : Addr), Room k (A.deeper (lamEnv X scope s.heap.objs.size f c')) → PE (lamCx1 X b A outer s H E0 scope f c') body t)
    (hs : starEach [e, .Lambda params body scope lpos] X.env = (false, eval e X.env) :: starEach [.Lambda params body scope lpos] X.env := by rfl)
    (hdb : (x == ("__debug__" : Str)) = false := by decide) (hd : (a == ("__debug__" : Str)) = false := by decide) (hcd : (a == ("__classdict__" : Str)) = false := by decide) :
    PE X (.Call (.Name x p) [e, .Lambda params body scope lpos] [] pos) (tLam1 T TT t0 t) := by
  refine ⟨fun pins s σ H Q I h => ?_⟩
  refine wpAny_Call_Name_kw (ld_glob I hg hm ?_ hdb)
  refine PySem.W.callWith_K (h₀ := X.base) I.ok.mod.kin hk ?_ hs (by rfl)
  rw [hs]
  show wpAny _ _ (spliced ((false, eval e X.env) :: (false, eval (.Lambda params body scope lpos) X.env) :: backTo pos (starEach [] X.env))) _ _ s
  refine Calls.spliced_cons (thn (h0.run pins s σ H _ I h) fun u0 s0 ⟨v0, H0, I0, r0, hT, h⟩ => ?_)
  refine Calls.spliced_cons (lam_make2 I0 TB hcode hmT hu hT hdef (L.has I.ok) fun f c' pm' ctv H1 s' I1 eN T1 hf hfn hfr hco => ?_)
  refine Calls.spliced_nil ⟨I1.kIn, ?_⟩
  have rc : codeAny (model X.prog X.w) X.A (.call (.ref g) ⟨[u0, .ref f], []⟩) (CR C8.CX0 X.stack X.prog X.w H1 s' Q C8.E0) s' := by
    refine run_ofS (N := Ng) (ps := [a0, a]) (us := [u0, .ref f]) (vs := [v0, .ref f]) lk hcg Sg hr I1.env0 (hb s' [u0, .ref f] I1.kIn rfl) (.cons r0 (.cons rfl .nil)) rfl fun hr' => ?_
    obtain ⟨t', ht', hq'⟩ := hG f c' v0 s' H1 Q (fun v H' Q' => t (σ ++ [some v]) H' Q') (fun pn xe e ta p1 p2 ha he => pe_act1 (i := 1) nb I1 L hf hfn hfr (fun u => hbind _ _ _ _ _ u) hr' (fun A outer s H hr2 => hbody A outer s H f c' hr2) hNg hva ha he hd hcd) hco (h H1 eN T1)
    exact ⟨t', ht'.nox, hq'⟩
  refine wpAny_call (codeAny_mono rc fun r s2 hq => ?_)
  cases r with
  | error e => exact (show False from hq).elim
  | ok fl =>
    cases fl with
    | ret u => exact I1.after hq
    | next => exact False.elim hq
    | brk => exact False.elim hq
    | cont => exact False.elim hq
end
end Ml
/-! names: begins_name, is_name -/
namespace Mn
open PySem PySem.Spec PyProof.Rows L2 Md
def letters : Str := "abcdefghijklmnopqrstuvwxyz"
def signs : Str := "abcdefghijklmnopqrstuvwxyz0123456789"
def words : List V := [.str "rule", .str "person", .str "wants", .str "needs", .str "gets", .str "with", .str "ring", .str "out", .str "without", .str "lot", .str "watch", .str "hold"]
def okFirst (x : Str) : Bool := match x.cps[0]? with
  | some c => decide (c ∈ letters.cps.toList)
  | none => true
def begins (x : Str) : Bool := !decide ((8 : Int) < (x.length : Int)) && (okFirst x && x.cps.toList.all fun c => decide (c ∈ signs.cps.toList))
def isNm (x : Str) : Bool := !decide (x = "") && (begins x && !inV (.str x) words)
/-- the constants of names.py -/
structure Consts (K : PySem.W.Frag) (mg : Str → Option Value) : Prop where
  let_ : ∃ t, mg "LETTERS" = some (.str letters t)
  sig : ∃ t, mg "SIGNS" = some (.str signs t)
  lon : ∃ t, mg "LONGEST" = some (.int 8 t)
  wor : mg "WORDS" = some (.ref (He.ga K "WORDS"))
  wseq : ∀ H, SqT K H (He.ga K "WORDS") words
theorem sameUp {H : Hp} {a : Addr} {o : HO} (h : H a = none) : Same H (upd H a o) := fun b u e => by
  rw [upd_ne (ne_of_none e h)]
  exact e
abbrev sBegins : Stmt := top 19
abbrev sIsName : Stmt := top 20
def spBegins : Sp := fun vs H Q _ => ∃ x : Str, vs = [.str x] ∧ x.length ≤ sizeLine ∧ ∀ H', Same H H' → Q (.bl (begins x)) H'
section
variable {P : Program} {w : World} {K : PySem.W.Frag} {mg : Str → Option Value} {base : Heap}
theorem scBegins : FnScope ["part", "sign"] ["part"] (defScope sBegins) := ⟨rfl, rfl, rfl, by decide +kernel, rfl, by decide +kernel, by decide +kernel⟩
def teSign : TE := tOp (fun x y H Q => ∃ (c : Nat) (z : Str), x = .str ⟨#[c]⟩ ∧ y = .str z ∧ Q (.bl (decide (c ∈ z.cps.toList))) H) (tVar 1) (tC (.str signs))
theorem all_signs {x : Str} {H : Hp} {Q : VK} (hx : x.length ≤ sizeLine) (k : ∀ H', Same H H' → Q (.bl (x.cps.toList.all fun c => decide (c ∈ signs.cps.toList))) H') :
    tCB (rAll K) (tCons (tLc (iStr (tVar 0)) (gName 1) tYes teSign [1]) tNil) [some (.str x), none] H Q := by
  refine ⟨_, rfl, x, rfl, fun D hD => lc_it walk_str (fun i H' => Same H H' ∧ ∃ acc : List Bool, acc.length = i ∧ acc = ((x.cps.toList.take i).map fun c => decide (c ∈ signs.cps.toList)) ∧ H' D = some (.lst (acc.map V.bl))) ?_ (fun _ _ _ _ => trivial) ?_ ?_⟩
  · exact ⟨sameUp hD, [], rfl, by simp, upd_same⟩
  · rintro i y H1 H2 hi ⟨s1, acc, ha, he, hacc⟩ ⟨rfl, c, hc, rfl⟩
    refine ⟨rfl, _, rfl, c, signs, rfl, rfl, acc.map V.bl, hacc, ?_, fun b o e => ?_, acc ++ [decide (c ∈ signs.cps.toList)], ?_, ?_, ?_⟩
    · have hl : x.cps.size = x.length := rfl
      rw [List.length_map, ha]
      omega
    · rw [upd_ne (ne_of_none e hD)]
      exact s1 _ _ e
    · rw [List.length_append, ha]
      rfl
    · have hc' : x.cps.toList[i]? = some c := by simpa using hc
      rw [he, List.take_add_one, hc', List.map_append]
      rfl
    · rw [upd_same, List.map_append]
      rfl
  · rintro H1 ⟨s1, acc, ha, he, hacc⟩
    refine ⟨D, acc, rfl, SqL.of hacc, ?_⟩
    have e2 : acc = x.cps.toList.map fun c => decide (c ∈ signs.cps.toList) := by
      rw [he, List.take_of_length_le (by simp)]
    have e3 : acc.all id = x.cps.toList.all fun c => decide (c ∈ signs.cps.toList) := by
      rw [e2, List.all_map]
      rfl
    rw [e3]
    exact k _ s1
theorem ok_begins {f : Addr} {fd : FuncData} (F : Fun K "begins_name" "begins_name" sBegins f fd) (C : Consts K mg) (gN : mg "len" = none) (gA : mg "all" = none) : FnOk P w K mg base CX0 1 f fd ["part"] spBegins := by
  refine F.ok scBegins (fun vs H Q E h => ?_) (fun cdv A outer s H vs Q E hr h => ?_)
  · obtain ⟨x, rfl, _⟩ := h
    rfl
  · obtain ⟨x, rfl, hx, k⟩ := h
    obtain ⟨tl, gL⟩ := C.let_
    obtain ⟨ts, gS⟩ := C.sig
    obtain ⟨tn, gO⟩ := C.lon
    refine ⟨_, pss_cons (ps_if (pt_cmpR op_gt (pe_callB call_len_str (by rfl) gN PySem.boot_len (pa_cons (pv 0) pa_nil)) (pe_glob rfl gO (v := .int 8) ⟨_, rfl⟩) (nomark _)) (pss_one (ps_ret pe_bl)) pss_nil)
      (pss_cons (ps_if (PW.pt (pw_and (pt_cmpR op_ne (pv 0) pe_str (nomark _)) (pw_and1 (pt_cmpR op_notIn_sign (pe_ix ix_str (pv 0) pe_int (fun _ _ => rfl)) (pe_glob rfl gL (v := .str letters) ⟨_, rfl⟩) (by with_unfolding_all rfl))))) (pss_one (ps_ret pe_bl)) pss_nil)
      (pss_one (ps_ret (pe_callB (cr_all rfl) (by rfl) gA (by decide +kernel) (pa_cons (pe_lc (own := [("sign", 1)]) (g := gName 1) (tt := tYes) (te := teSign) rfl scBegins.nd (pi_str (pv 0)) (blkOk_by (N := ["part", "sign"]) (sc := defScope sBegins) (by decide +kernel))
        (fun _ _ _ _ _ => pg_name (i := 1) scBegins.nd rfl (Or.inl rfl)) (fun _ _ _ _ _ => pts_nil) (fun _ _ _ _ _ => by exact (pe_cmpR op_in_sign (pv 1) (pe_glob rfl gS (v := .str signs) ⟨_, rfl⟩) (by with_unfolding_all rfl)))) pa_nil))))), ?_⟩
    refine ⟨_, rfl, x, rfl, hx, _, _, rfl, rfl, _, rfl, ?_⟩
    have eB : begins x = (!decide ((8 : Int) < (x.length : Int)) && (okFirst x && x.cps.toList.all fun c => decide (c ∈ signs.cps.toList))) := rfl
    refine ite2 (fun h8 => ?_) (fun h8 => ?_)
    · have e : begins x = false := by
        rw [eB, h8]
        rfl
      have q := k H (Same.refl H)
      rw [e] at q
      exact q
    have h8' : decide ((8 : Int) < (x.length : Int)) = false := Bool.eq_false_iff.mpr h8
    rw [h8'] at eB
    have fin : okFirst x = true → ∀ H', Same H H' → Q (.bl (x.cps.toList.all fun c => decide (c ∈ signs.cps.toList))) H' := fun e H' s => by
      have q := k H' s
      rw [eB, e] at q
      exact q
    refine ⟨_, rfl, rfl, _, rfl, ?_⟩
    by_cases he : x = ""
    · subst he
      exact iteF (iteF (all_signs hx (fin rfl)))
    · have hn : (!decide (V.str x = V.str "")) = true := by
        rw [decide_eq_false (fun z => he (V.str.inj z))]
        rfl
      rw [hn]
      refine iteT ?_
      cases hc : x.cps[0]? with
      | none =>
        exfalso
        apply he
        obtain ⟨cs⟩ := x
        have : cs = #[] := by
          simp only at hc
          exact Array.eq_empty_of_size_eq_zero (by
            rcases Nat.eq_zero_or_pos cs.size with z | z
            · exact z
            · rw [Array.getElem?_eq_getElem z] at hc
              cases hc)
        rw [this]
        rfl
      | some c =>
        have e0 : okFirst x = decide (c ∈ letters.cps.toList) := by
          unfold okFirst
          rw [hc]
        refine ⟨_, rfl, x, 0, c, rfl, rfl, hx, ?_, c, letters, rfl, rfl, _, rfl, ?_⟩
        · exact atI_nat (j := 0) (by simpa using hc)
        · cases hb : decide (c ∈ letters.cps.toList) with
          | true => exact iteF (all_signs hx (fin (e0.trans hb)))
          | false =>
            have q := k H (Same.refl H)
            rw [eB, e0, hb] at q
            exact iteT q
end
end Mn
/-! given.py: is_list, is_one_of, first_wrong -/
namespace Mn
open PySem PySem.Spec PyProof.Rows L2 Md Me
theorem TyX.same {K : PySem.W.Frag} {H H' : Hp} (s : Same H H') {v : V} {t : Value} (h : TyX K H v t) : TyX K H' v t := by
  cases h with
  | base b =>
    cases b with
    | non => exact .base .non
    | bl y => exact .base (.bl y)
    | int i => exact .base (.int i)
    | str y => exact .base (.str y)
    | flt y => exact .base (.flt y)
    | lst e => exact .base (.lst (s _ _ e))
    | frz e => exact .base (.frz (s _ _ e))
    | tup e => exact .base (.tup (s _ _ e))
    | dK e => exact .base (.dK (s _ _ e))
    | dT e => exact .base (.dT (s _ _ e))
    | ins e cl ha hn htk hm => exact .base (.ins (s _ _ e) cl ha hn htk hm)
  | byt y => exact .byt y
  | set e => exact .set (s _ _ e)
  | kList e c => exact .kList e c
  | kTuple e c => exact .kTuple e c
  | kDict e c => exact .kDict e c
  | fTuple e => exact .fTuple (s _ _ e)
  | fDict e => exact .fDict (s _ _ e)
/-- no text -/
def NoStr (K : PySem.W.Frag) (H : Hp) (v : V) : Prop := ∃ t, TyX K H v t ∧ PySem.W.kitOne K t (.type "str") = some false
theorem NoStr.same {K : PySem.W.Frag} {H H' : Hp} (s : Same H H') {v : V} (h : NoStr K H v) : NoStr K H' v := by
  obtain ⟨t, h1, h2⟩ := h
  exact ⟨t, TyX.same s h1, h2⟩
theorem kit_strT {K : PySem.W.Frag} : PySem.W.kitOne K (.type "str") (.type "str") = some true := kit_ty (by decide +kernel)
abbrev sIsList : Stmt := top 9
abbrev sIsOne : Stmt := top 10
abbrev sFw : Stmt := top 11
theorem boot_list2 : bootBuiltins "list" = some (.type "list") := by decide +kernel
theorem boot_tuple2 : bootBuiltins "tuple" = some (.type "tuple") := by decide +kernel
theorem boot_str2 : bootBuiltins "str" = some (.type "str") := by decide +kernel
def spIsList (K : PySem.W.Frag) : Sp := fun vs H Q _ => ∃ (v : V) (t : Value) (b : Bool), vs = [v] ∧ TyX K H v t ∧ PySem.W.kitAny K t [.type "list", .type "tuple"] = some b ∧ ∀ H', Same H H' → Q (.bl b) H'
def spIsOne (K : PySem.W.Frag) : Sp := fun vs H Q _ => ∃ (v : V) (d : Addr), vs = [v, .ref d] ∧ ((∃ (x : Str) (kvs : List (Key × V)), v = .str x ∧ H d = some (.dK kvs) ∧ Q (.bl (valV kvs (Sum.inr x)).isSome) H) ∨ (NoStr K H v ∧ Q (.bl false) H))
section
variable {P : Program} {w : World} {K : PySem.W.Frag} {mg : Str → Option Value} {base : Heap}
theorem scIsList : FnScope ["thing"] ["thing"] (defScope sIsList) := ⟨rfl, rfl, rfl, by decide +kernel, rfl, by decide +kernel, by decide +kernel⟩
theorem ok_isList {f : Addr} {fd : FuncData} (F : Fun K "is_list" "is_list" sIsList f fd) (gI : mg "isinstance" = none) (gL : mg "list" = none) (gT : mg "tuple" = none) : FnOk P w K mg base CX0 1 f fd ["thing"] (spIsList K) := by
  refine F.ok scIsList (fun vs H Q E h => ?_) (fun cdv A outer s H vs Q E hr h => ?_)
  · obtain ⟨v, t, b, rfl, _⟩ := h
    rfl
  · obtain ⟨v, t, b, rfl, ty, e, k⟩ := h
    refine ⟨_, pss_one (ps_ret (pe_callB call_isiT (by rfl) gI boot_isinstance (pa_cons (pv 0) (pa_cons (pe_tup (pa_cons (pe_bltn (v := .ty "list") rfl gL boot_list2 rfl) (pa_cons (pe_bltn (v := .ty "tuple") rfl gT boot_tuple2 rfl) pa_nil))) pa_nil)))), ?_⟩
    refine ⟨_, rfl, (show 2 ≤ sizeLine by decide), fun p np => ?_⟩
    exact ⟨v, p, _, t, _, b, rfl, upd_same, .cons (.ty _) (.cons (.ty _) .nil), TyX.same (sameUp np) ty, e, k _ (sameUp np)⟩
theorem scIsOne : FnScope ["thing", "names"] ["thing", "names"] (defScope sIsOne) := ⟨rfl, rfl, rfl, by decide +kernel, rfl, by decide +kernel, by decide +kernel⟩
theorem ok_isOne {f : Addr} {fd : FuncData} (F : Fun K "is_one_of" "is_one_of" sIsOne f fd) (gI : mg "isinstance" = none) (gS : mg "str" = none) : FnOk P w K mg base CX0 1 f fd ["thing", "names"] (spIsOne K) := by
  refine F.ok scIsOne (fun vs H Q E h => ?_) (fun cdv A outer s H vs Q E hr h => ?_)
  · obtain ⟨v, d, rfl, _⟩ := h
    rfl
  · obtain ⟨v, d, rfl, h⟩ := h
    have hu := hu_of hr
    refine ⟨_, pss_one (ps_ret (pe_and (pe_callB call_isi (by rfl) gI boot_isinstance (pa_cons (pv 0) (pa_cons (pe_bltn (v := .ty "str") rfl gS boot_str2 rfl) pa_nil))) (pe_one (pe_cmp (pc_din hu (pv 0) (pv 1)) rfl)))), ?_⟩
    rcases h with ⟨x, kvs, rfl, hd, k⟩ | ⟨⟨t, ty, e⟩, k⟩
    · exact ⟨_, rfl, _, _, _, _, true, rfl, .ty _, .base (.str x), kit_strT, true, rfl, iteT ⟨_, rfl, _, rfl, d, _, rfl, DGet.k (k := Sum.inr x) hd, k⟩⟩
    · exact ⟨_, rfl, _, _, _, _, false, rfl, .ty _, ty, e, false, rfl, iteF k⟩
/-! ### first_wrong -/
/-- the first index of what is no text, stands earlier, or doesn't fit -/
def fwI (fit : Str → Bool) : List V → List Str → Nat → Option Nat
  | [], _, _ => none
  | .str x :: r, seen, i => if (decide (x ∈ seen) || !fit x) = true then some i else fwI fit r (x :: seen) (i + 1)
  | _ :: _, _, i => some i
def optI : Option Nat → V
  | none => .non
  | some i => .int i
theorem scFw : FnScope ["things", "fits", "seen", "at", "thing"] ["things", "fits"] (defScope sFw) := ⟨rfl, rfl, rfl, by decide +kernel, rfl, by decide +kernel, by decide +kernel⟩
abbrev FwCx (CX : CXT) (P : Program) (w : World) (K : PySem.W.Frag) (mg : Str → Option Value) (base : Heap) (q : Str) (f : Addr) (cdv : Value) (A : Around) (outer : List Env) (s : Shared) (H : Hp) (E : XK) : Cx :=
  (cxOf CX P w K mg base ["things", "fits", "seen", "at", "thing"] q (defScope sFw) f cdv A outer s H E).nox
theorem NoStr.ne {K : PySem.W.Frag} {H : Hp} {v : V} (h : NoStr K H v) (x : Str) : v ≠ .str x := by
  rintro rfl
  obtain ⟨t, h1, h2⟩ := h
  cases h1 with
  | base b =>
    cases b
    rw [kit_strT] at h2
    cases h2
theorem fwI_no {fit : Str → Bool} {v : V} {r : List V} {seen : List Str} {i : Nat} (h : ∀ x, v ≠ .str x) : fwI fit (v :: r) seen i = some i := by
  cases v with
  | str x => exact absurd rfl (h x)
  | _ => rfl
theorem seq_same {K : PySem.W.Frag} {H H' : Hp} {a : Addr} {xs : List V} (s : Same H H') (h : SqT K H a xs) : SqT K H' a xs :=
  h.elim (fun h => .inl (h.elim (fun h => .inl (s _ _ h)) fun ⟨o, h⟩ => .inr ⟨o, s _ _ h⟩)) fun h => .inr h
theorem fw_run {CX : CXT} {q : Str} {f : Addr} {cdv : Value} {A : Around} {outer : List Env} {s : Shared} {H : Hp} {E : XK} {Q : VK} {tf : TE} {vf : V} {a : Addr} {xs : List V} {fit : Str → Bool} (G : Hp → Prop)
    (gI : mg "isinstance" = none) (gS : mg "str" = none) (gE : mg "enumerate" = none) (gSet : mg "set" = none)
    (act : ∀ p1 p2 p3, PE (FwCx CX P w K mg base q f cdv A outer s H E) (.Call (.Name "fits" p1) [.Name "thing" p2] [] p3) tf)
    (hG : ∀ H H', Same H H' → G H → G H') (hGs : ∀ p, H p = none → ∀ H' o, G H' → G (upd H' p o))
    (hf : ∀ (σ : L2.St) (H : Hp) (Q : VK) (x : Str), σ[1]? = some (some vf) → σ[4]? = some (some (.str x)) → x.length ≤ sizeLine → G H → (∀ H', Same H H' → Q (.bl (fit x)) H') → tf σ H Q)
    (hq : SqL K H a xs ∨ SqT K H a xs) (hx : ∀ v ∈ xs, (∃ x : Str, v = .str x ∧ x.length ≤ sizeLine) ∨ NoStr K H v) (hn : xs.length ≤ 4000) (g0 : G H) (k : ∀ H', Same H H' → Q (optI (fwI fit xs [] 0)) H') :
    ∃ t, PSs (FwCx CX P w K mg base q f cdv A outer s H E) (defBody sFw) t ∧ t { nx := fun _ H' => Q .non H', rt := Q } (start ["things", "fits", "seen", "at", "thing"] [.ref a, vf]) H := by
  have nd := scFw.nd
  refine ⟨_, pss_cons (ps_set (i := 2) nd rfl (Or.inl rfl) (pe_callTy0 cr_set0K (by rfl) gSet (by decide +kernel)))
    (pss_cons (ps_for PassesOwn.never rfl (pi_enumA rfl gE (pa_cons (pv 0) pa_nil)) (pg_tup rfl (pgs_cons (pg_name (i := 3) nd rfl (Or.inl rfl)) (pgs_cons (pg_name (i := 4) nd rfl (Or.inl rfl)) pgs_nil)))
      (pss_cons (ps_if (PW.pt (pw_or (pt_not (pt_val (pe_callB call_isi (by rfl) gI boot_isinstance (pa_cons (pv 4) (pa_cons (pe_bltn (v := .ty "str") rfl gS boot_str2 rfl) pa_nil)))))
        (pw_or (pt_cmpR or_sinK (pv 4) (pv 2) (by with_unfolding_all rfl)) (pw_or1 (pt_not (pt_val (act _ _ _))))))) (pss_one (ps_ret (pv 3))) pss_nil)
      (pss_one (ps_expr (pe_saddK (pv 2) (pa_cons (pv 4) pa_nil))))))
    (pss_one (ps_ret pe_non))), ?_⟩
  have wk : ∃ (J : It) (GG : Hp → Prop), Walk J xs.length GG (YPair (fun i => some (.int (i : Nat))) fun i => xs[i]?) ∧ (∀ H', Same H H' → GG H') ∧
      ((SqL K H a xs ∧ J = Ite K a) ∨ (SqT K H a xs ∧ J = ItT K a)) := by
    rcases hq with hq | hq
    · exact ⟨Ite K a, fun H => SqL K H a xs, walk_enum, fun H' s => s.seq hq, .inl ⟨hq, rfl⟩⟩
    · exact ⟨ItT K a, fun H => SqT K H a xs, walk_enumT, fun H' s => seq_same s hq, .inr ⟨hq, rfl⟩⟩
  obtain ⟨J, GG, wJ, hGG, hR⟩ := wk
  refine ⟨rfl, fun p np => ?_⟩
  have s1 := sameUp (o := SetK P w p (fun _ => false) 0) np
  refine ⟨_, rfl, a, xs, rfl, ?_⟩
  rcases hR with ⟨h1, rfl⟩ | ⟨h1, rfl⟩
  all_goals
    first | refine .inl ⟨s1.seq h1, ?_⟩ | refine .inr ⟨seq_same s1 h1, ?_⟩
    refine for_it wJ (fun i σ H' => ∃ (o3 o4 : Option V) (seen : List Str) (S : Key → Bool) (n : Nat), σ = [some (.ref a), some vf, some (.ref p), o3, o4] ∧ Same H H' ∧ H' p = some (SetK P w p S n) ∧ n ≤ i ∧
      (∀ x : Str, S (Sum.inr x) = decide (x ∈ seen)) ∧ G H' ∧ fwI fit xs [] 0 = fwI fit (xs.drop i) seen i) ?_ (fun i σ H' _ ⟨_, _, _, _, _, _, s, _⟩ => hGG H' s) ?_ ?_
    · exact ⟨_, _, [], _, 0, rfl, s1, upd_same, Nat.le_refl _, fun x => rfl, hG _ _ s1 g0, rfl⟩
    · rintro i v σ H2 H3 hi ⟨o3, o4, seen, S, n, rfl, s2, hp, hni, hS, g2, e⟩ ⟨T, x1, y1, rfl, nT, rfl, e1, e2⟩
      have e1' : V.int (i : Int) = x1 := Option.some.inj e1
      subst e1'
      replace e2 : xs[i]? = some y1 := e2
      have sT := sameUp (o := .tup [V.int (i : Int), y1]) nT
      have ed : xs.drop i = y1 :: xs.drop (i + 1) := by
        obtain ⟨h1, h2⟩ := List.getElem?_eq_some_iff.mp e2
        rw [← h2]
        exact List.drop_eq_getElem_cons h1
      have s3 := s2.trans sT
      have ret : fwI fit (y1 :: xs.drop (i + 1)) seen i = some i → ∀ H', Same H H' → Q (.int (i : Int)) H' := fun z H' s => by
        have q := k H' s
        rw [e, ed, z] at q
        exact q
      refine ⟨T, _, rfl, SqT.of upd_same, rfl, _, _, rfl, _, _, rfl, rfl, ?_⟩
      rcases hx y1 (List.mem_of_getElem? e2) with ⟨x, rfl, hl⟩ | no
      · refine ⟨_, rfl, _, _, _, _, true, rfl, .ty _, .base (.str x), kit_strT, true, rfl, iteF ?_⟩
        refine ⟨_, rfl, _, rfl, Sum.inr x, p, S, n, rfl, rfl, sT _ _ hp, S (Sum.inr x), rfl, ?_⟩
        cases hin : S (Sum.inr x) with
        | true =>
          refine iteT ⟨_, rfl, ret ?_ _ s3⟩
          have z : decide (x ∈ seen) = true := by rw [← hS x]; exact hin
          show (if (decide (x ∈ seen) || !fit x) = true then some i else _) = some i
          rw [z]
          rfl
        | false =>
          have z : decide (x ∈ seen) = false := by rw [← hS x]; exact hin
          refine iteF (hf _ _ _ x rfl rfl hl (hG _ _ sT g2) fun H4 s4 => ⟨_, rfl, ?_⟩)
          cases hb : fit x with
          | false =>
            refine iteT ⟨_, rfl, ret ?_ _ (s3.trans s4)⟩
            show (if (decide (x ∈ seen) || !fit x) = true then some i else _) = some i
            rw [z, hb]
            rfl
          | true =>
            have hp4 := s4 _ _ (sT _ _ hp)
            refine iteF ⟨_, rfl, ⟨p, S, n, rfl, hp4⟩, _, rfl, p, Sum.inr x, S, n, rfl, rfl, hp4, by show n + 1 < 4096; omega, ?_⟩
            refine ⟨_, _, x :: seen, _, _, rfl, fun b o eb => ?_, upd_same, ?_, fun y => ?_, hGs p np _ _ (hG _ _ (sT.trans s4) g2), ?_⟩
            · have nb : b ≠ p := ne_of_none eb np
              rw [upd_ne nb]
              exact (s3.trans s4) _ _ eb
            · rw [hin]
              show n + 1 ≤ i + 1
              omega
            · show (S (Sum.inr y) || decide ((Sum.inr y : Key) = Sum.inr x)) = decide (y ∈ x :: seen)
              rw [hS y]
              by_cases h1 : y = x
              · subst h1
                simp
              · have h2 : ¬ (Sum.inr y : Key) = Sum.inr x := fun z => h1 (Sum.inr.inj z)
                rw [decide_eq_false h2]
                simp [h1]
            · rw [e, ed]
              show (if (decide (x ∈ seen) || !fit x) = true then some i else fwI fit (xs.drop (i + 1)) (x :: seen) (i + 1)) = _
              rw [z, hb]
              rfl
      · have no' := no.same s3
        obtain ⟨t, ty, et⟩ := no'
        refine ⟨_, rfl, _, _, _, _, false, rfl, .ty _, ty, et, false, rfl, iteT ⟨_, rfl, ret ?_ _ s3⟩⟩
        exact fwI_no no.ne
    · rintro σ H2 ⟨o3, o4, seen, S, n, rfl, s2, hp, hni, hS, g2, e⟩
      have q := k H2 s2
      rw [e, List.drop_length] at q
      exact q
end
end Mn
/-! is_name, people_fault, are_unlike, is_row -/
namespace Mn
open PySem PySem.Spec PyProof.Rows L2 Md Me Ml LamX
abbrev sPf : Stmt := top 21
abbrev sUnl : Stmt := top 12
abbrev sRow : Stmt := top 13
/-- an item that first_wrong can judge -/
def Itm (K : PySem.W.Frag) (H : Hp) (v : V) : Prop := (∃ x : Str, v = .str x ∧ x.length ≤ sizeLine) ∨ NoStr K H v
theorem Itm.same {K : PySem.W.Frag} {H H' : Hp} (s : Same H H') {v : V} (h : Itm K H v) : Itm K H' v := h.imp id fun h => h.same s
/-- a list or a tuple that stands in H -/
def Seq (H : Hp) (a : Addr) (xs : List V) : Prop := H a = some (.lst xs) ∨ H a = some (.tup xs)
theorem Seq.same {H H' : Hp} (s : Same H H') {a : Addr} {xs : List V} (h : Seq H a xs) : Seq H' a xs := h.imp (s _ _) (s _ _)
theorem Seq.sq {K : PySem.W.Frag} {H : Hp} {a : Addr} {xs : List V} (h : Seq H a xs) : SqL K H a xs ∨ SqT K H a xs := h.imp SqL.of SqT.of
theorem kit_seqL {K : PySem.W.Frag} : PySem.W.kitAny K (.type "list") [.type "list", .type "tuple"] = some true := kitAny_cons (b := true) (kit_ty (by decide +kernel)) (fun z => by cases z) (fun _ => rfl)
theorem kit_seqT {K : PySem.W.Frag} : PySem.W.kitAny K (.type "tuple") [.type "list", .type "tuple"] = some true :=
  kitAny_cons (b := false) (kit_ty (by decide +kernel)) (fun _ => kitAny_cons (b := true) (kit_ty (by decide +kernel)) (fun z => by cases z) (fun _ => rfl)) (fun z => by cases z)
theorem Seq.ty {K : PySem.W.Frag} {H : Hp} {a : Addr} {xs : List V} (h : Seq H a xs) : ∃ t, TyX K H (.ref a) t ∧ PySem.W.kitAny K t [.type "list", .type "tuple"] = some true := by
  rcases h with h | h
  · exact ⟨_, .base (.lst h), kit_seqL⟩
  · exact ⟨_, .base (.tup h), kit_seqT⟩
/-- no list, no tuple -/
def NoSeq (K : PySem.W.Frag) (H : Hp) (v : V) : Prop := ∃ t, TyX K H v t ∧ PySem.W.kitAny K t [.type "list", .type "tuple"] = some false
theorem NoSeq.same {K : PySem.W.Frag} {H H' : Hp} (s : Same H H') {v : V} (h : NoSeq K H v) : NoSeq K H' v := by
  obtain ⟨t, h1, h2⟩ := h
  exact ⟨t, TyX.same s h1, h2⟩
def spIsName (K : PySem.W.Frag) : Sp := fun vs H Q _ => ∃ v : V, vs = [v] ∧ ((∃ x : Str, v = .str x ∧ x.length ≤ sizeLine ∧ ∀ H', Same H H' → Q (.bl (isNm x)) H') ∨ (NoStr K H v ∧ Q (.bl false) H))
def spPf (K : PySem.W.Frag) : Sp := fun vs H Q _ => (∃ v : V, vs = [v] ∧ NoSeq K H v ∧ ∀ H', Same H H' → Q (.int 0) H') ∨
  ∃ (a : Addr) (xs : List V), vs = [.ref a] ∧ Seq H a xs ∧ (∀ v ∈ xs, Itm K H v) ∧ xs.length ≤ 4000 ∧ ∀ H', Same H H' → Q (optI (fwI isNm xs [] 0)) H'
def spFwN (K : PySem.W.Frag) (fN : Addr) : Sp := fun vs H Q _ => ∃ (a : Addr) (xs : List V), vs = [.ref a, .ref fN] ∧ Seq H a xs ∧ (∀ v ∈ xs, Itm K H v) ∧ xs.length ≤ 4000 ∧ ∀ H', Same H H' → Q (optI (fwI isNm xs [] 0)) H'
section
variable {P : Program} {w : World} {K : PySem.W.Frag} {mg : Str → Option Value} {base : Heap}
theorem scIsName : FnScope ["thing"] ["thing"] (defScope sIsName) := ⟨rfl, rfl, rfl, by decide +kernel, rfl, by decide +kernel, by decide +kernel⟩
theorem words_flat : words.all flatV = true := by decide +kernel
theorem ok_isName {f fB : Addr} {fd fdB : FuncData} (F : Fun K "is_name" "is_name" sIsName f fd) (FB : Fun K "begins_name" "begins_name" sBegins fB fdB) (bB : Binds K fdB ["part"] []) (gB : mg "begins_name" = some (.ref fB)) (C : Consts K mg)
    (gI : mg "isinstance" = none) (gS : mg "str" = none) (gN : mg "len" = none) (gA : mg "all" = none) : FnOk P w K mg base CX0 2 f fd ["thing"] (spIsName K) := by
  have GB : FnOk P w K mg base CX0 1 fB fdB ["part"] spBegins := ok_begins FB C gN gA
  refine F.ok scIsName (fun vs H Q E h => ?_) (fun cdv A outer s H vs Q E hr h => ?_)
  · obtain ⟨v, rfl, _⟩ := h
    rfl
  · obtain ⟨v, rfl, h⟩ := h
    refine ⟨_, pss_one (ps_ret (pe_and (pe_callB call_isi (by rfl) gI boot_isinstance (pa_cons (pv 0) (pa_cons (pe_bltn (v := .ty "str") rfl gS boot_str2 rfl) pa_nil)))
      (pe_and (pe_cmpR op_ne (pv 0) pe_str (nomark _)) (pe_and (pe_call GB hr rfl gB FB.kp bB .nil pass0 (pa_cons (pv 0) pa_nil)) (pe_one (pe_cmpR op_notIn_seq (pv 0) (pe_glob rfl C.wor (v := .ref (He.ga K "WORDS")) rfl) (by with_unfolding_all rfl))))))), ?_⟩
    rcases h with ⟨x, rfl, hl, k⟩ | ⟨⟨t, ty, e⟩, k⟩
    · refine ⟨_, rfl, _, _, _, _, true, rfl, .ty _, .base (.str x), kit_strT, true, rfl, iteT ⟨_, rfl, rfl, _, rfl, ?_⟩⟩
      have eN : isNm x = (!decide (x = "") && (begins x && !inV (.str x) words)) := rfl
      by_cases h0 : x = ""
      · subst h0
        exact iteF (k H (Same.refl H))
      · have z : (!decide (V.str x = V.str "")) = true := by
          rw [decide_eq_false (fun z => h0 (V.str.inj z))]
          rfl
        have z0 : decide (x = "") = false := decide_eq_false h0
        rw [z0] at eN
        rw [z]
        refine iteT ⟨_, rfl, x, rfl, hl, fun H' s => ⟨_, rfl, ?_⟩⟩
        cases hb : begins x with
        | false =>
          have q := k H' s
          rw [eN, hb] at q
          exact iteF q
        | true =>
          have q := k H' s
          rw [eN, hb] at q
          exact iteT ⟨_, rfl, He.ga K "WORDS", words, rfl, .inr (C.wseq _), rfl, words_flat, q⟩
    · exact ⟨_, rfl, _, _, _, _, false, rfl, .ty _, ty, e, false, rfl, iteF k⟩
theorem ok_fwN {f fN : Addr} {fd fdN : FuncData} (F : Fun K "first_wrong" "first_wrong" sFw f fd) (GN : FnOk P w K mg base CX0 2 fN fdN ["thing"] (spIsName K)) (kN : PySem.W.keepIn K (.ref fN) = true) (bN : Binds K fdN ["thing"] [])
    (gI : mg "isinstance" = none) (gS : mg "str" = none) (gE : mg "enumerate" = none) (gSet : mg "set" = none) : FnOk P w K mg base CX0 3 f fd ["things", "fits"] (spFwN K fN) := by
  refine F.ok scFw (fun vs H Q E h => ?_) (fun cdv A outer s H vs Q E hr h => ?_)
  · obtain ⟨a, xs, rfl, _⟩ := h
    rfl
  · obtain ⟨a, xs, rfl, hq, hx, hn, k⟩ := h
    have hu := hu_of hr
    exact fw_run (fit := isNm) (fun _ => True) gI gS gE gSet (fun p1 p2 p3 => pe_callL GN hr rfl (Or.inl rfl) kN bN .nil pass0 (pa_cons (pv 4) pa_nil)) (fun _ _ _ _ => trivial) (fun _ _ _ _ _ => trivial)
      (fun σ H Q x h1 h4 hl _ kk => ⟨h1, _, h4, _, rfl, .inl ⟨x, rfl, hl, kk⟩⟩) hq.sq hx hn trivial k
theorem scPf : FnScope ["people"] ["people"] (defScope sPf) := ⟨rfl, rfl, rfl, by decide +kernel, rfl, by decide +kernel, by decide +kernel⟩
theorem ok_pf {f fL fW fN : Addr} {fd fdL fdW : FuncData} (F : Fun K "people_fault" "people_fault" sPf f fd)
    (GL : FnOk P w K mg base CX0 1 fL fdL ["thing"] (spIsList K)) (kL : PySem.W.keepIn K (.ref fL) = true) (bL : Binds K fdL ["thing"] []) (gL : mg "is_list" = some (.ref fL))
    (GW : FnOk P w K mg base CX0 3 fW fdW ["things", "fits"] (spFwN K fN)) (kW : PySem.W.keepIn K (.ref fW) = true) (bW : Binds K fdW ["things", "fits"] []) (gW : mg "first_wrong" = some (.ref fW)) (gN : mg "is_name" = some (.ref fN)) :
    FnOk P w K mg base CX0 4 f fd ["people"] (spPf K) := by
  refine F.ok scPf (fun vs H Q E h => ?_) (fun cdv A outer s H vs Q E hr h => ?_)
  · rcases h with ⟨v, rfl, _⟩ | ⟨a, xs, rfl, _⟩ <;> rfl
  · refine ⟨_, pss_cons (ps_if (pt_not (pt_val (pe_call GL (hr.mono (by decide)) rfl gL kL bL .nil pass0 (pa_cons (pv 0) pa_nil)))) (pss_one (ps_ret pe_int)) pss_nil)
      (pss_one (ps_ret (pe_call GW hr rfl gW kW bW .nil pass0 (pa_cons (pv 0) (pa_cons (pe_glob rfl gN (v := .ref fN) rfl) pa_nil))))), ?_⟩
    rcases h with ⟨v, rfl, ⟨t, ty, e⟩, k⟩ | ⟨a, xs, rfl, hq, hx, hn, k⟩
    · exact ⟨_, rfl, v, t, false, rfl, ty, e, fun H' s => ⟨false, rfl, iteT (k H' s)⟩⟩
    · obtain ⟨t, ty, e⟩ := hq.ty (K := K)
      exact ⟨_, rfl, _, t, true, rfl, ty, e, fun H' s => ⟨true, rfl, iteF ⟨_, rfl, a, xs, rfl, hq.same s, fun v hv => (hx v hv).same s, hn, fun H2 s2 => k H2 (s.trans s2)⟩⟩⟩
end
end Mn
/-! are_unlike, is_row -/
namespace Mn
open PySem PySem.Spec PyProof.Rows L2 Md Me Ml LamX
/-! ### all but the tables of code stays -/
theorem ntb_lst {xs : List V} : ∀ ps, HO.lst xs ≠ .tbl ps := fun ps z => by cases z
theorem ntb_tup {xs : List V} : ∀ ps, HO.tup xs ≠ .tbl ps := fun ps z => by cases z
theorem ntb_dK {xs : List (Key × V)} : ∀ ps, HO.dK xs ≠ .tbl ps := fun ps z => by cases z
theorem ntb_ins {C dx : Addr} {fs : List (Str × V)} : ∀ ps, HO.ins C dx fs ≠ .tbl ps := fun ps z => by cases z
theorem ntb_frz {o : Obj} {u : HO} : ∀ ps, HO.frz o u ≠ .tbl ps := fun ps z => by cases z
theorem TyX.ext {K : PySem.W.Frag} {H H' : Hp} (s : ExtN H H') {v : V} {t : Value} (h : TyX K H v t) : TyX K H' v t := by
  cases h with
  | base b =>
    cases b with
    | non => exact .base .non
    | bl y => exact .base (.bl y)
    | int i => exact .base (.int i)
    | str y => exact .base (.str y)
    | flt y => exact .base (.flt y)
    | lst e => exact .base (.lst (s _ _ e (fun ps z => by cases z)))
    | frz e => exact .base (.frz (s _ _ e (fun ps z => by cases z)))
    | tup e => exact .base (.tup (s _ _ e (fun ps z => by cases z)))
    | dK e => exact .base (.dK (s _ _ e (fun ps z => by cases z)))
    | dT e => exact .base (.dT (s _ _ e (fun ps z => by cases z)))
    | ins e cl ha hn htk hm => exact .base (.ins (s _ _ e (fun ps z => by cases z)) cl ha hn htk hm)
  | byt y => exact .byt y
  | set e => exact .set (s _ _ e (fun ps z => by cases z))
  | kList e c => exact .kList e c
  | kTuple e c => exact .kTuple e c
  | kDict e c => exact .kDict e c
  | fTuple e => exact .fTuple (s _ _ e (fun ps z => by cases z))
  | fDict e => exact .fDict (s _ _ e (fun ps z => by cases z))
theorem NoStr.ext {K : PySem.W.Frag} {H H' : Hp} (s : ExtN H H') {v : V} (h : NoStr K H v) : NoStr K H' v := by
  obtain ⟨t, h1, h2⟩ := h
  exact ⟨t, TyX.ext s h1, h2⟩
theorem NoSeq.ext {K : PySem.W.Frag} {H H' : Hp} (s : ExtN H H') {v : V} (h : NoSeq K H v) : NoSeq K H' v := by
  obtain ⟨t, h1, h2⟩ := h
  exact ⟨t, TyX.ext s h1, h2⟩
theorem Itm.ext {K : PySem.W.Frag} {H H' : Hp} (s : ExtN H H') {v : V} (h : Itm K H v) : Itm K H' v := h.imp id fun h => h.ext s
theorem Seq.ext {H H' : Hp} (s : ExtN H H') {a : Addr} {xs : List V} (h : Seq H a xs) : Seq H' a xs := h.imp (fun h => s _ _ h ntb_lst) (fun h => s _ _ h ntb_tup)
/-- all but the tables stays, and these are tables still -/
structure Up (T : List (Addr × Str)) (H H' : Hp) : Prop where
  e : ExtN H H'
  t : Tabs T H'
theorem Up.refl {T : List (Addr × Str)} {H : Hp} (t : Tabs T H) : Up T H H := ⟨ExtN.refl H, t⟩
theorem Up.trans {T : List (Addr × Str)} {H H1 H2 : Hp} (a : Up T H H1) (b : Up T H1 H2) : Up T H H2 := ⟨a.e.trans b.e, b.t⟩
theorem Up.same {T : List (Addr × Str)} {H H' : Hp} (t : Tabs T H) (s : Same H H') : Up T H H' := ⟨ExtN.of s, t.ext s⟩
theorem Up.andS {T : List (Addr × Str)} {H H1 H2 : Hp} (a : Up T H H1) (s : Same H1 H2) : Up T H H2 := a.trans (.same a.t s)
def lamSB1 (a : Str) (sc scope : Scope) : Bool :=
  decide (scope.kind = .function) && (!scope.isCoroutine && (!scope.isGenerator && (decide (scope.names.lookup a = some .local) && scope.names.all fun y => !decide (y.2 = .cell) && ((!decide (y.2 = .local) || decide (y.1 = a)) && (!decide (y.2 = .free) || (decide (sc.names.lookup y.1 = some .cell) || decide (sc.names.lookup y.1 = some .free)))))))
theorem lamS1_by {a : Str} {sc scope : Scope} (h : lamSB1 a sc scope = true) : LamS1 a sc scope := by
  unfold lamSB1 at h
  simp only [Bool.and_eq_true, Bool.or_eq_true, Bool.not_eq_true', decide_eq_true_eq, decide_eq_false_iff_not, List.all_eq_true] at h
  obtain ⟨h1, h2, h3, h4, h5⟩ := h
  refine ⟨h1, h2, h3, h4, fun y hy => (h5 y hy).1, fun y hy e => ?_, fun y hy e => ?_⟩
  · rcases (h5 y hy).2.1 with z | z
    · exact absurd e z
    · exact z
  · rcases (h5 y hy).2.2 with z | z | z
    · exact absurd e z
    · exact .inl z
    · exact .inr z
/-! ### first_wrong with a lambda -/
def TTfw (K : PySem.W.Frag) : V → (V → Hp → VK → Prop) → Hp → VK → Prop := fun v0 tl H Q => ∃ (a : Addr) (xs : List V) (fit : Str → Bool) (G : Hp → Prop), v0 = .ref a ∧ Seq H a xs ∧ (∀ v ∈ xs, Itm K H v) ∧ xs.length ≤ 4000 ∧ G H ∧
  (∀ H H', Same H H' → G H → G H') ∧ (∀ p, H p = none → ∀ H' o, G H' → G (upd H' p o)) ∧
  (∀ (x : Str) (H' : Hp) (Q' : VK), x.length ≤ sizeLine → G H' → (∀ H'', Same H' H'' → Q' (.bl (fit x)) H'') → tl (.str x) H' Q') ∧ ∀ H', Same H H' → Q (optI (fwI fit xs [] 0)) H'
theorem fw_gives {X : Cx} {g : Addr} {cdv : Value} {q : Str} (gI : X.mg "isinstance" = none) (gS : X.mg "str" = none) (gE : X.mg "enumerate" = none) (gSet : X.mg "set" = none) :
    GivesTo1 X ["things", "fits", "seen", "at", "thing"] "first_wrong" (defScope sFw) g cdv (defBody sFw) "fits" q (TTfw X.K) := by
  intro f c' v0 s H Q tl act hc ⟨a, xs, fit, G, e0, hq, hx, hn, g0, hG, hGs, htl, k⟩
  subst e0
  refine fw_run (fit := fit) (fun H' => G H' ∧ H' c' = some (CodeO c' q)) gI gS gE gSet (fun p1 p2 p3 => act _ (fun _ _ => False) _ _ p1 p3 (pa_cons (pv 4) pa_nil) rfl) (fun H1 H2 s ⟨z1, z2⟩ => ⟨hG _ _ s z1, s _ _ z2⟩)
    (fun p np H' o ⟨z1, z2⟩ => ⟨hGs p np _ _ z1, by rw [upd_ne (ne_of_none hc np)]; exact z2⟩) (fun σ H' Q' x h1 h4 hl ⟨z1, z2⟩ kk => ⟨h1, _, h4, _, rfl, z2, htl x H' Q' hl z1 kk⟩) hq.sq hx hn ⟨g0, hc⟩ k
/-- the names that a dict has -/
def inD (kvs : List (Key × V)) (x : Str) : Bool := (valV kvs (Sum.inr x)).isSome
def unlB (kvs : List (Key × V)) (xs : List V) : Bool := (fwI (inD kvs) xs [] 0).isNone
def spUnl (K : PySem.W.Frag) (T : List (Addr × Str)) : Sp := fun vs H Q _ => ∃ (v : V) (d : Addr) (kvs : List (Key × V)), vs = [v, .ref d] ∧ Tabs T H ∧ H d = some (.dK kvs) ∧ ((NoSeq K H v ∧ ∀ H', Up T H H' → Q (.bl false) H') ∨
  ∃ (a : Addr) (xs : List V), v = .ref a ∧ Seq H a xs ∧ (∀ v ∈ xs, Itm K H v) ∧ xs.length ≤ 4000 ∧ ∀ H', Up T H H' → Q (.bl (unlB kvs xs)) H')
abbrev qUnl : Str := (envOfC "are_unlike" { kind := .function, names := [], isGenerator := false, isCoroutine := false } 0 0 .none).qual ++ "<lambda>"
section
variable {P : Program} {w : World} {K : PySem.W.Frag} {mg : Str → Option Value} {base : Heap}
theorem scUnl : FnScope ["thing", "names"] ["thing", "names"] (defScope sUnl) := ⟨rfl, rfl, rfl, by decide +kernel, rfl, by decide +kernel, by decide +kernel⟩
theorem ok_unl {T : List (Addr × Str)} {f fL fW : Addr} {fd fdL fdW : FuncData} (F : Fun K "are_unlike" "are_unlike" sUnl f fd) (hf : f = He.fAd K ("are_unlike", none)) (TB : TabB base mg (He.cT K ("are_unlike", none)).1 (He.cT K ("are_unlike", none)).2)
    (hmT : ((He.cT K ("are_unlike", none)).2, qUnl) ∈ T) (hu : ∀ p ∈ T, p.1 = (He.cT K ("are_unlike", none)).2 → p.2 = qUnl)
    (GL : FnOk P w K mg base CX0 1 fL fdL ["thing"] (spIsList K)) (kL : PySem.W.keepIn K (.ref fL) = true) (bL : Binds K fdL ["thing"] []) (gL : mg "is_list" = some (.ref fL))
    (FW : Fun K "first_wrong" "first_wrong" sFw fW fdW) (bW : Binds K fdW ["things", "fits"] []) (gW : mg "first_wrong" = some (.ref fW))
    (gI : mg "isinstance" = none) (gS : mg "str" = none) (gE : mg "enumerate" = none) (gSet : mg "set" = none) : FnOk P w K mg base CX0 3 f fd ["thing", "names"] (spUnl K T) := by
  obtain ⟨oc, od, kV, doc, pm, an, cdv, ct, osl, rfl, lk, hcd⟩ := F.ex
  obtain ⟨c, rfl⟩ := He.codeIn_ref hcd
  have ec : He.codeOf K ("are_unlike", none) = c := He.codeOf_eq (by rw [← hf]; exact lk) rfl
  obtain ⟨oc2, od2, kV2, doc2, pm2, an2, cdv2, ct2, osl2, rfl, lk2, hcd2⟩ := FW.ex
  refine fn_of lk hcd scUnl (fun vs H Q E h => ?_) (fun A outer s H vs Q E hr h => ?_)
  · obtain ⟨v, d, kvs, rfl, _⟩ := h
    rfl
  · obtain ⟨v, d, kvs, rfl, hT, hd, h⟩ := h
    have TB' : TabB base mg c (He.cT K ("are_unlike", none)).2 := by
      rw [← ec]
      exact TB
    refine ⟨_, PSs.nox (pss_one (ps_ret (pe_and (pe_call GL (hr.mono (by decide)) rfl gL kL bL .nil pass0 (pa_cons (pv 0) pa_nil))
      (pe_one (pe_cmp (pc_isN (pe_lamcall1 (k := 0) (b := "name") rfl gW FW.kp lk2 hcd2 bW scFw rfl (Or.inl rfl) (fw_gives gI gS gE gSet) TB' rfl hmT hu hr (lamS1_by (by rfl)) (by show (("name" : Str) ∉ (["thing", "names"] : List Str)); decide +kernel) rfl
        (fun _ _ _ _ _ _ => rfl) (pv 0) (fun A outer s H f c' hr2 => pe_cmp (pc_din (hu_of hr2) (pv 2) (pv 1)) rfl))) rfl))))), ?_⟩
    rcases h with ⟨⟨t, ty, e⟩, k⟩ | ⟨a, xs, rfl, hq, hx, hn, k⟩
    · exact ⟨_, rfl, v, t, false, rfl, ty, e, fun H' s => ⟨false, rfl, iteF (k H' (.same hT s))⟩⟩
    · obtain ⟨t, ty, e⟩ := hq.ty (K := K)
      refine ⟨_, rfl, _, t, true, rfl, ty, e, fun H1 s1 => ⟨true, rfl, iteT ?_⟩⟩
      have u1 := Up.same hT s1
      refine ⟨_, rfl, u1.t, fun H2 e2 t2 => ?_⟩
      have u2 : Up T H H2 := u1.trans ⟨e2, t2⟩
      refine ⟨a, xs, inD kvs, fun H' => H' d = some (.dK kvs), rfl, hq.ext u2.e, fun v hv => (hx v hv).ext u2.e, hn, u2.e _ _ hd ntb_dK, fun H1 H2 s z => s _ _ z, fun p np H' o z => ?_, fun x H' Q' hl z kk => ?_, fun H3 s3 => ?_⟩
      · have hd2 := u2.e _ _ hd ntb_dK
        show upd H' p o d = some (HO.dK kvs)
        rw [upd_ne (ne_of_none hd2 np)]
        exact z
      · exact ⟨_, rfl, _, rfl, d, _, rfl, DGet.k (k := Sum.inr x) z, kk _ (Same.refl _)⟩
      · have q := k H3 (u2.andS s3)
        have eb : unlB kvs xs = decide (optI (fwI (inD kvs) xs [] 0) = .non) := by
          unfold unlB
          cases fwI (inD kvs) xs [] 0 <;> rfl
        rw [eb] at q
        exact q
end
end Mn
/-! is_row, are_rows -/
namespace Mn
open PySem PySem.Spec PyProof.Rows L2 Md Me Ml LamX
abbrev sRows : Stmt := top 23
/-- what is_row tells of a value, the names of kvs -/
inductive RowB (K : PySem.W.Frag) (H : Hp) (kvs : List (Key × V)) (p : Str) : V → Bool → Prop
  | no {v : V} (h : NoSeq K H v) : RowB K H kvs p v false
  | seq {a : Addr} {xs : List V} (h : Seq H a xs) (hx : ∀ v ∈ xs, Itm K H v) (hn : xs.length ≤ 4000) : RowB K H kvs p (.ref a) (unlB kvs xs && !inV (.str p) xs)
theorem RowB.ext {K : PySem.W.Frag} {H H' : Hp} {kvs : List (Key × V)} {p : Str} {v : V} {b : Bool} (s : ExtN H H') (h : RowB K H kvs p v b) : RowB K H' kvs p v b := by
  cases h with
  | no h => exact .no (h.ext s)
  | seq h hx hn => exact .seq (h.ext s) (fun v hv => (hx v hv).ext s) hn
theorem fwI_strs {fit : Str → Bool} : ∀ (xs : List V) (seen : List Str) (i : Nat), fwI fit xs seen i = none → ∀ v ∈ xs, ∃ x, v = .str x
  | [], _, _, _, _, hv => absurd hv (by simp)
  | .str x :: r, seen, i, h, v, hv => by
    rcases List.mem_cons.mp hv with e | e
    · exact ⟨x, e⟩
    · have h' : (if (decide (x ∈ seen) || !fit x) = true then some i else fwI fit r (x :: seen) (i + 1)) = none := h
      by_cases hc : (decide (x ∈ seen) || !fit x) = true
      · rw [if_pos hc] at h'
        cases h'
      · rw [if_neg hc] at h'
        exact fwI_strs r _ _ h' v e
  | .non :: _, _, _, h, _, _ => by cases h
  | .bl _ :: _, _, _, h, _, _ => by cases h
  | .int _ :: _, _, _, h, _, _ => by cases h
  | .byt _ :: _, _, _, h, _, _ => by cases h
  | .flt _ :: _, _, _, h, _, _ => by cases h
  | .ref _ :: _, _, _, h, _, _ => by cases h
  | .ty _ :: _, _, _, h, _, _ => by cases h
theorem unl_flat {kvs : List (Key × V)} {xs : List V} (h : unlB kvs xs = true) : xs.all flatV = true := by
  unfold unlB at h
  have e : fwI (inD kvs) xs [] 0 = none := Option.isNone_iff_eq_none.mp h
  exact List.all_eq_true.mpr fun v hv => by
    obtain ⟨x, rfl⟩ := fwI_strs _ _ _ e v hv
    rfl
def spRow (K : PySem.W.Frag) (T : List (Addr × Str)) : Sp := fun vs H Q _ => ∃ (v : V) (p : Str) (d : Addr) (kvs : List (Key × V)) (b : Bool), vs = [v, .str p, .ref d] ∧ Tabs T H ∧ H d = some (.dK kvs) ∧ RowB K H kvs p v b ∧ ∀ H', Up T H H' → Q (.bl b) H'
section
variable {P : Program} {w : World} {K : PySem.W.Frag} {mg : Str → Option Value} {base : Heap}
theorem scRow : FnScope ["thing", "person", "names"] ["thing", "person", "names"] (defScope sRow) := ⟨rfl, rfl, rfl, by decide +kernel, rfl, by decide +kernel, by decide +kernel⟩
theorem ok_row {T : List (Addr × Str)} {f fU : Addr} {fd fdU : FuncData} (F : Fun K "is_row" "is_row" sRow f fd) (GU : FnOk P w K mg base CX0 3 fU fdU ["thing", "names"] (spUnl K T)) (kU : PySem.W.keepIn K (.ref fU) = true) (bU : Binds K fdU ["thing", "names"] []) (gU : mg "are_unlike" = some (.ref fU)) :
    FnOk P w K mg base CX0 4 f fd ["thing", "person", "names"] (spRow K T) := by
  refine F.ok scRow (fun vs H Q E h => ?_) (fun cdv A outer s H vs Q E hr h => ?_)
  · obtain ⟨v, p, d, kvs, b, rfl, _⟩ := h
    rfl
  · obtain ⟨v, p, d, kvs, b, rfl, hT, hd, hb, k⟩ := h
    refine ⟨_, pss_one (ps_ret (pe_and (pe_call GU hr rfl gU kU bU .nil pass0 (pa_cons (pv 0) (pa_cons (pv 2) pa_nil))) (pe_one (pe_cmpR op_notIn_seq (pv 1) (pv 0) (by with_unfolding_all rfl))))), ?_⟩
    cases hb with
    | no h => exact ⟨_, rfl, _, rfl, v, d, kvs, rfl, hT, hd, .inl ⟨h, fun H' u => ⟨false, rfl, iteF (k H' u)⟩⟩⟩
    | @seq a xs h hx hn =>
      refine ⟨_, rfl, _, rfl, _, d, kvs, rfl, hT, hd, .inr ⟨a, xs, rfl, h, hx, hn, fun H' u => ⟨_, rfl, ?_⟩⟩⟩
      cases hb : unlB kvs xs with
      | false =>
        have q := k H' u
        rw [hb] at q
        exact iteF q
      | true =>
        have q := k H' u
        rw [hb] at q
        exact iteT ⟨_, rfl, _, rfl, a, xs, rfl, (h.ext u.e).sq, rfl, unl_flat hb, q⟩
/-! ### are_rows -/
theorem pi_or {X : Cx} {tg e : Expr} {w1 w2 : TI} (h1 : PI X tg e w1) (h2 : PI X tg e w2) : PI X tg e (fun σ H R => w1 σ H R ∨ w2 σ H R) :=
  ⟨fun pins s σ H R I h => h.elim (h1.run pins s σ H R I) (h2.run pins s σ H R I)⟩
theorem pe_or2 {X : Cx} {e : Expr} {t1 t2 : TE} (h1 : PE X e t1) (h2 : PE X e t2) : PE X e (fun σ H Q => t1 σ H Q ∨ t2 σ H Q) :=
  ⟨fun pins s σ H Q I h => h.elim (h1.run pins s σ H Q I) (h2.run pins s σ H Q I)⟩
/-- the dict of names that are_rows makes -/
def namesD (ns : List Str) : List (Key × V) := ns.map fun n => (Sum.inr n, V.bl true)
theorem scRows : FnScope ["thing", "people", "names", "name", "person", "row"] ["thing", "people"] (defScope sRows) := ⟨rfl, rfl, rfl, by decide +kernel, rfl, by decide +kernel, by decide +kernel⟩
/-- what are_rows tells of an entry -/
inductive EntB (K : PySem.W.Frag) (H : Hp) (nd : List (Key × V)) : Key × V → Bool → Prop
  | row {p : Str} {v : V} {b : Bool} (h : inD nd p = true) (r : RowB K H nd p v b) : EntB K H nd (Sum.inr p, v) b
  | out {k : Key} {v : V} (h : valV nd k = none) : EntB K H nd (k, v) false
def NoDict (K : PySem.W.Frag) (H : Hp) (v : V) : Prop := ∃ t, TyX K H v t ∧ PySem.W.kitOne K t (.type "dict") = some false
/-- a dict with one key, None or a tuple of texts -/
def OdD (H : Hp) (v : V) : Prop := ∃ (d : Addr) (o : Obj) (k x : V), v = .ref d ∧ H d = some (Mo.Od d o k x) ∧ (k = .non ∨ ∃ (t : Addr) (ks : List Key), k = .ref t ∧ H t = some (.tup (ks.map kV)))
def spRows (K : PySem.W.Frag) (T : List (Addr × Str)) : Sp := fun vs H Q _ => ∃ (v : V) (ap : Addr) (ns : List Str), vs = [v, .ref ap] ∧ Tabs T H ∧ Seq H ap (ns.map V.str) ∧ ns.Nodup ∧ ns.length ≤ 1000 ∧
  ((NoDict K H v ∧ ∀ H', Up T H H' → Q (.bl false) H') ∨ (∃ (d : Addr) (kvs : List (Key × V)) (bs : List Bool), v = .ref d ∧ H d = some (.dK kvs) ∧ Paired (EntB K H (namesD ns)) kvs bs ∧ kvs.length ≤ 1000 ∧ ∀ H', Up T H H' → Q (.bl (bs.all id)) H') ∨ (OdD H v ∧ ∀ H', Up T H H' → Q (.bl false) H'))
theorem dc_it {J : It} {n : Nat} {G : Hp → Prop} {Y : Nat → Hp → V → Hp → Prop} (w : Walk J n G Y) {g : TG} {tt : TT} {tk tv : TE} {vs : List Nat} {σ : L2.St} {H1 : Hp} {D : Addr} {Qd : Hp → Prop} (Pv : Nat → Hp → Prop) (h0 : Pv 0 (upd H1 D (.dK []))) (hG : ∀ i H, i ≤ n → Pv i H → G H)
    (hs : ∀ i x H H', i < n → Pv i H → Y i H x H' → g x (wipe σ vs) H' fun σ2 H2 => wipe σ2 vs = wipe σ vs ∧ tt σ2 H2 fun b H3 =>
      if b = true then tk σ2 H3 fun y H4 => tv σ2 H4 fun z H5 => ∃ kvs k, y = kV k ∧ H5 D = some (.dK kvs) ∧ kvs.length < sizeLine ∧ Pv (i + 1) (upd H5 D (.dK (putK kvs k z))) else Pv (i + 1) H3) (hd : ∀ H, Pv n H → Qd H) :
    ∃ W : Nat → Nat → Hp → Prop, (∃ m, W 0 m (upd H1 D (.dK []))) ∧ ∀ i m H, W i m H →
      (J.stop i H ∧ Qd H) ∨ (J.go i H ∧ ∃ Nx : Hp → Prop, (∀ H', Nx H' → ∃ m', m' < m ∧ W (i + 1) m' H') ∧ ∀ x H', J.yld i H x H' → g x (wipe σ vs) H' fun σ2 H2 => wipe σ2 vs = wipe σ vs ∧ tt σ2 H2 fun b H3 =>
        if b = true then tk σ2 H3 fun y H4 => tv σ2 H4 fun z H5 => ∃ kvs k, y = kV k ∧ H5 D = some (.dK kvs) ∧ kvs.length < sizeLine ∧ Nx (upd H5 D (.dK (putK kvs k z))) else Nx H3) := by
  refine ⟨fun i m H => m = n - i ∧ i ≤ n ∧ Pv i H, ⟨n, by simp, Nat.zero_le _, h0⟩, ?_⟩
  rintro i m H ⟨rfl, hi, p⟩
  have q := hG i H hi p
  by_cases hlt : i < n
  · exact .inr ⟨w.goes i H hlt q, Pv (i + 1), fun H' p' => ⟨n - (i + 1), by omega, rfl, hlt, p'⟩, fun x H' y => hs i x H H' hlt p (w.yields i H x H' hlt q y)⟩
  · have e : i = n := by omega
    subst e
    exact .inl ⟨w.stops H q, hd H p⟩
theorem putK_new {κ : Type} [DecidableEq κ] {kvs : List (κ × V)} {k : κ} {v : V} (h : ∀ kv ∈ kvs, kv.1 ≠ k) : putK kvs k v = kvs ++ [(k, v)] := by
  unfold putK
  have e : (kvs.any fun kv => decide (kv.1 = k)) = false := List.any_eq_false.mpr fun kv hk z => h kv hk (of_decide_eq_true z)
  rw [e]
  rfl
theorem names_snoc {ns : List Str} (nd : ns.Nodup) {i : Nat} {n : Str} (h : ns[i]? = some n) : putK (namesD (ns.take i)) (Sum.inr n) (.bl true) = namesD (ns.take (i + 1)) := by
  rw [putK_new (fun kv hk z => ?_)]
  · rw [List.take_add_one, h]
    unfold namesD
    rw [List.map_append]
    rfl
  · unfold namesD at hk
    obtain ⟨m, hm, rfl⟩ := List.mem_map.mp hk
    have e : m = n := Sum.inr.inj z
    subst e
    obtain ⟨j, hj⟩ := List.getElem?_of_mem hm
    have hji : j < i := by
      rcases Nat.lt_or_ge j i with q | q
      · exact q
      · rw [List.getElem?_take, if_neg (by omega)] at hj
        cases hj
    rw [List.getElem?_take_of_lt hji] at hj
    have := (List.getElem?_inj (by
      rcases Nat.lt_or_ge j ns.length with q | q
      · exact q
      · rw [List.getElem?_eq_none q] at hj
        cases hj) nd).mp (hj.trans h.symm)
    omega
/-- a dict that is locked is a dict -/
theorem TyX.lock {K : PySem.W.Frag} {H : Hp} {d : Addr} {od : Obj} {kvs : List (Key × V)} (hd : H d = some (.dK kvs)) {v : V} {t : Value} (h : TyX K H v t) : TyX K (upd H d (.frz od (.dK kvs))) v t := by
  have no : ∀ {b : Addr} {u : HO}, H b = some u → b ≠ d → upd H d (.frz od (.dK kvs)) b = some u := fun {b u} e n => by
    rw [upd_ne n]
    exact e
  have ne : ∀ {b : Addr} {u : HO}, H b = some u → (∀ q, u ≠ .dK q) → b ≠ d := fun {b u} e n z => by
    rw [z, hd] at e
    exact n kvs (Option.some.inj e).symm
  cases h with
  | base b =>
    cases b with
    | non => exact .base .non
    | bl y => exact .base (.bl y)
    | int i => exact .base (.int i)
    | str y => exact .base (.str y)
    | flt y => exact .base (.flt y)
    | lst e => exact .base (.lst (no e (ne e (fun q z => by cases z))))
    | frz e => exact .base (.frz (no e (ne e (fun q z => by cases z))))
    | tup e => exact .base (.tup (no e (ne e (fun q z => by cases z))))
    | @dK a kv e =>
      by_cases z : a = d
      · subst z
        exact .fDict upd_same
      · exact .base (.dK (no e z))
    | dT e => exact .base (.dT (no e (ne e (fun q z => by cases z))))
    | ins e cl ha hn htk hm => exact .base (.ins (no e (ne e (fun q z => by cases z))) cl ha hn htk hm)
  | byt y => exact .byt y
  | set e => exact .set (no e (ne e (fun q z => by cases z)))
  | kList e c => exact .kList e c
  | kTuple e c => exact .kTuple e c
  | kDict e c => exact .kDict e c
  | fTuple e => exact .fTuple (no e (ne e (fun q z => by cases z)))
  | fDict e => exact .fDict (no e (ne e (fun q z => by cases z)))
theorem RowB.lock {K : PySem.W.Frag} {H : Hp} {d : Addr} {od : Obj} {kvs nd : List (Key × V)} {p : Str} {v : V} {b : Bool} (hd : H d = some (.dK kvs)) (h : RowB K H nd p v b) : RowB K (upd H d (.frz od (.dK kvs))) nd p v b := by
  cases h with
  | no h =>
    obtain ⟨t, h1, h2⟩ := h
    exact .no ⟨t, TyX.lock hd h1, h2⟩
  | @seq a xs h hx hn =>
    refine .seq (h.imp (fun e => ?_) (fun e => ?_)) (fun v hv => (hx v hv).imp id fun ⟨t, h1, h2⟩ => ⟨t, TyX.lock hd h1, h2⟩) hn
    · rw [upd_ne (fun z => by rw [z, hd] at e; cases e)]
      exact e
    · rw [upd_ne (fun z => by rw [z, hd] at e; cases e)]
      exact e
theorem Tabs.put {T : List (Addr × Str)} {H : Hp} {d : Addr} {u u' : HO} (t : Tabs T H) (hd : H d = some u) (n1 : ∀ ps, u ≠ .tbl ps) (n2 : ∀ φ, u ≠ .ext φ) : Tabs T (upd H d u') := by
  intro p hp
  obtain ⟨ps, h1, h2, h3⟩ := t p hp
  refine ⟨ps, ?_, h2, fun pos cv hc => ?_⟩
  · rw [upd_ne (fun z => by rw [z, hd] at h1; exact n1 ps (Option.some.inj h1))]
    exact h1
  · obtain ⟨c0, e1, e2⟩ := h3 pos cv hc
    refine ⟨c0, e1, ?_⟩
    rw [upd_ne (fun z => by rw [z, hd] at e2; exact n2 _ (Option.some.inj e2))]
    exact e2
theorem Up.unlock {T : List (Addr × Str)} {H H' : Hp} {d : Addr} {od : Obj} {kvs : List (Key × V)} (hd : H d = some (.dK kvs)) (u : Up T (upd H d (.frz od (.dK kvs))) H') : Up T H (upd H' d (.dK kvs)) := by
  have hd' := u.e d _ upd_same ntb_frz
  refine ⟨fun b o e n => ?_, Tabs.put u.t hd' ntb_frz (fun φ z => by cases z)⟩
  by_cases z : b = d
  · subst z
    rw [hd] at e
    rw [upd_same]
    exact e
  · rw [upd_ne z]
    exact u.e b o (by rw [upd_ne z]; exact e) n
theorem kit_dictT {K : PySem.W.Frag} : PySem.W.kitOne K (.type "dict") (.type "dict") = some true := kit_ty (by decide +kernel)
theorem ok_rows {T : List (Addr × Str)} {f fR : Addr} {fd fdR : FuncData} (F : Fun K "are_rows" "are_rows" sRows f fd) (GR : FnOk P w K mg base CX0 4 fR fdR ["thing", "person", "names"] (spRow K T)) (kR : PySem.W.keepIn K (.ref fR) = true) (bR : Binds K fdR ["thing", "person", "names"] []) (gR : mg "is_row" = some (.ref fR))
    (gI : mg "isinstance" = none) (gD : mg "dict" = none) (gA : mg "all" = none) : FnOk P w K mg base CX0 5 f fd ["thing", "people"] (spRows K T) := by
  refine F.ok scRows (fun vs H Q E h => ?_) (fun cdv A outer s H vs Q E hr h => ?_)
  · obtain ⟨v, ap, ns, rfl, _⟩ := h
    rfl
  · obtain ⟨v, ap, ns, rfl, hT, hap, nd, hn, h⟩ := h
    have hu := hu_of hr
    have hnd := scRows.nd
    refine ⟨_, pss_cons (ps_if (pt_not (pt_val (pe_callB (Mo.callR_or call_isi Mo.call_isiO) (by rfl) gI boot_isinstance (pa_cons (pv 0) (pa_cons (pe_bltn (v := .ty "dict") rfl gD (by decide +kernel) rfl) pa_nil))))) (pss_one (ps_ret pe_bl)) pss_nil)
      (pss_cons (ps_set (i := 2) hnd rfl (Or.inr rfl) (pe_dc (own := [("name", 3)]) (g := gName 3) (tt := tYes) (tk := tVar 3) (tv := tC (.bl true)) rfl hnd (pi_or (pi_list (pv 1)) (pi_tup (pv 1))) (blkOk_by (N := ["thing", "people", "names", "name", "person", "row"]) (sc := defScope sRows) (by decide +kernel))
        (fun _ _ _ _ _ => pg_name (i := 3) hnd rfl (Or.inl rfl)) (fun _ _ _ _ _ => pts_nil) (fun _ _ _ _ _ => by exact pv 3) (fun _ _ _ _ _ => by exact pe_bl)))
      (pss_one (ps_ret (pe_callB (cr_all rfl) (by rfl) gA (by decide +kernel) (pa_cons (pe_or2 (pe_lock (pe_lc (own := [("person", 4), ("row", 5)]) (g := gTup K 2 (gCons (gName 4) (gCons (gName 5) gNil))) (tt := tYes)
          (te := tAndV (tDIn (tVar 4) (tVar 2)) (tCall (spRow K T) [] E0 (tCons (tVar 5) (tCons (tVar 4) (tCons (tVar 2) tNil))))) rfl hnd (pi_items (pv 0)) (blkOk_by (N := ["thing", "people", "names", "name", "person", "row"]) (sc := defScope sRows) (by decide +kernel))
        (fun _ _ _ _ _ => pg_tup rfl (pgs_cons (pg_name (i := 4) hnd rfl (Or.inl rfl)) (pgs_cons (pg_name (i := 5) hnd rfl (Or.inl rfl)) pgs_nil))) (fun _ _ _ _ _ => pts_nil)
        (fun _ _ _ _ _ => by exact pe_and (pe_cmp (pc_din (hu_of hr) (pv 4) (pv 2)) rfl) (pe_one (pe_call GR hr rfl gR kR bR .nil pass0 (pa_cons (pv 5) (pa_cons (pv 4) (pa_cons (pv 2) pa_nil))))))))
        (pe_lc (own := [("person", 4), ("row", 5)]) (g := gTup K 2 (gCons (gName 4) (gCons (gName 5) gNil))) (tt := tYes)
          (te := tAndV (tOp Mo.rInOdd (tVar 4) (tVar 2)) (tCall (spRow K T) [] E0 (tCons (tVar 5) (tCons (tVar 4) (tCons (tVar 2) tNil))))) rfl hnd (Mo.pi_itemsO (pv 0)) (blkOk_by (N := ["thing", "people", "names", "name", "person", "row"]) (sc := defScope sRows) (by decide +kernel))
        (fun _ _ _ _ _ => pg_tup rfl (pgs_cons (pg_name (i := 4) hnd rfl (Or.inl rfl)) (pgs_cons (pg_name (i := 5) hnd rfl (Or.inl rfl)) pgs_nil))) (fun _ _ _ _ _ => pts_nil)
        (fun _ _ _ _ _ => by exact pe_and (pe_cmpR (Mo.op_inOdd (hu_of hr)) (pv 4) (pv 2) (by with_unfolding_all rfl)) (pe_one (pe_call GR hr rfl gR kR bR .nil pass0 (pa_cons (pv 5) (pa_cons (pv 4) (pa_cons (pv 2) pa_nil)))))))) pa_nil))))), ?_⟩
    rcases h with ⟨⟨t, ty, e⟩, k⟩ | ⟨d, kvs, bs, rfl, hd, hp, hk, k⟩ | ⟨⟨d, o, ky, vx, rfl, hd, hky⟩, k⟩
    · exact ⟨_, rfl, .inl ⟨_, _, _, _, false, rfl, .ty _, ty, e, false, rfl, iteT (k H (.refl hT))⟩⟩
    rotate_left
    · refine ⟨_, rfl, .inr ⟨_, _, _, _, _, _, true, rfl, .ty _, hd, kit_dictT, true, rfl, iteF ?_⟩⟩
      have wk : ∃ (J : It) (GG : Hp → Prop), Walk J (ns.map V.str).length GG (YAt (ns.map V.str)) ∧ (∀ H', Same H H' → GG H') ∧ ((H ap = some (.lst (ns.map V.str)) ∧ J = Itl K ap) ∨ (H ap = some (.tup (ns.map V.str)) ∧ J = Itt K ap)) := by
        rcases hap with h | h
        · exact ⟨Itl K ap, fun H => SqL K H ap (ns.map V.str), walk_list, fun H' s => s.seq (SqL.of h), .inl ⟨h, rfl⟩⟩
        · exact ⟨Itt K ap, fun H => SqT K H ap (ns.map V.str), walk_tup, fun H' s => seq_same s (SqT.of h), .inr ⟨h, rfl⟩⟩
      obtain ⟨J, GG, wJ, hGG, hR⟩ := wk
      rcases hR with ⟨h1, rfl⟩ | ⟨h1, rfl⟩
      all_goals
        first | refine .inl ⟨_, rfl, ap, rfl, ⟨_, SqL.of h1⟩, fun D hD => ?_⟩ | refine .inr ⟨_, rfl, ap, rfl, ⟨_, SqT.of h1⟩, fun D hD => ?_⟩
        refine dc_it wJ (fun i H' => Same H H' ∧ H' D = some (.dK (namesD (ns.take i)))) ⟨sameUp hD, upd_same⟩ (fun i H' _ ⟨s, _⟩ => hGG H' s) ?_ ?_
        · rintro i x H1 H2 hi ⟨s1, hD1⟩ ⟨rfl, hx⟩
          rw [List.getElem?_map] at hx
          obtain ⟨n, hn2, rfl⟩ := Option.map_eq_some_iff.mp hx
          refine ⟨rfl, _, rfl, _, Sum.inr n, rfl, hD1, ?_, fun b o e => ?_, ?_⟩
          · unfold namesD
            rw [List.length_map, List.length_take]
            exact Nat.lt_of_le_of_lt (Nat.min_le_right _ _) (Nat.lt_of_le_of_lt hn (by decide))
          · rw [upd_ne (ne_of_none e hD)]
            exact s1 _ _ e
          · rw [upd_same, names_snoc nd hn2]
        · rintro H1 ⟨s1, hD1⟩
          have hd1 := s1 _ _ hd
          refine .inr ⟨_, rfl, d, o, ky, vx, rfl, hd1, fun L hL => ?_⟩
          refine lc_it Mo.walk_itemsO (fun i H' => Same H1 H' ∧ H' L = some (.lst (if i = 0 then [] else [V.bl false]))) ⟨sameUp hL, upd_same⟩ (fun i H' _ ⟨s, _⟩ => s _ _ hd1) ?_ ?_
          · rintro i x H2 H3 hi ⟨s2, hl2⟩ ⟨T0, rfl, nT0, rfl⟩
            have i0 : i = 0 := by omega
            subst i0
            have sT := sameUp (o := .tup [ky, vx]) nT0
            have s3 := s2.trans sT
            refine ⟨T0, _, rfl, SqT.of upd_same, rfl, _, _, rfl, _, _, rfl, rfl, rfl, ?_⟩
            refine ⟨_, rfl, _, rfl, D, _, rfl, s3 _ _ hD1, hky.imp id (fun ⟨t, ks, e1, e2⟩ => ⟨t, ks, e1, s3 _ _ (s1 _ _ e2)⟩), false, rfl, iteF ?_⟩
            refine ⟨_, sT _ _ hl2, by decide, fun b o e => ?_, ?_⟩
            · rw [upd_ne (ne_of_none e hL)]
              exact s3 _ _ e
            · rw [upd_same]
              rfl
          · rintro H2 ⟨s2, hl2⟩
            exact ⟨L, [false], rfl, SqL.of hl2, k _ (.same hT (s1.trans s2))⟩
    · refine ⟨_, rfl, .inl ⟨_, _, _, _, true, rfl, .ty _, .base (.dK hd), kit_dictT, true, rfl, iteF ?_⟩⟩
      have wk : ∃ (J : It) (GG : Hp → Prop), Walk J (ns.map V.str).length GG (YAt (ns.map V.str)) ∧ (∀ H', Same H H' → GG H') ∧ ((H ap = some (.lst (ns.map V.str)) ∧ J = Itl K ap) ∨ (H ap = some (.tup (ns.map V.str)) ∧ J = Itt K ap)) := by
        rcases hap with h | h
        · exact ⟨Itl K ap, fun H => SqL K H ap (ns.map V.str), walk_list, fun H' s => s.seq (SqL.of h), .inl ⟨h, rfl⟩⟩
        · exact ⟨Itt K ap, fun H => SqT K H ap (ns.map V.str), walk_tup, fun H' s => seq_same s (SqT.of h), .inr ⟨h, rfl⟩⟩
      obtain ⟨J, GG, wJ, hGG, hR⟩ := wk
      rcases hR with ⟨h1, rfl⟩ | ⟨h1, rfl⟩
      all_goals
        first | refine .inl ⟨_, rfl, ap, rfl, ⟨_, SqL.of h1⟩, fun D hD => ?_⟩ | refine .inr ⟨_, rfl, ap, rfl, ⟨_, SqT.of h1⟩, fun D hD => ?_⟩
        refine dc_it wJ (fun i H' => Same H H' ∧ H' D = some (.dK (namesD (ns.take i)))) ⟨sameUp hD, upd_same⟩ (fun i H' _ ⟨s, _⟩ => hGG H' s) ?_ ?_
        · rintro i x H1 H2 hi ⟨s1, hD1⟩ ⟨rfl, hx⟩
          rw [List.getElem?_map] at hx
          obtain ⟨n, hn2, rfl⟩ := Option.map_eq_some_iff.mp hx
          refine ⟨rfl, _, rfl, _, Sum.inr n, rfl, hD1, ?_, fun b o e => ?_, ?_⟩
          · unfold namesD
            rw [List.length_map, List.length_take]
            exact Nat.lt_of_le_of_lt (Nat.min_le_right _ _) (Nat.lt_of_le_of_lt hn (by decide))
          · rw [upd_ne (ne_of_none e hD)]
            exact s1 _ _ e
          · rw [upd_same, names_snoc nd hn2]
        · rintro H1 ⟨s1, hD1⟩
          rw [List.length_map, List.take_length] at hD1
          have hd1 := s1 _ _ hd
          refine .inl ⟨d, _, hd1, trivial, fun od => ?_⟩
          have u1 : Up T H H1 := .same hT s1
          have Dd : D ≠ d := fun z => by
            rw [z] at hD
            rw [hD] at hd
            cases hd
          have tL : Tabs T (upd H1 d (.frz od (.dK kvs))) := Tabs.put u1.t hd1 ntb_dK (fun φ z => by cases z)
          have hDL : upd H1 d (.frz od (.dK kvs)) D = some (.dK (namesD ns)) := by
            rw [upd_ne Dd]
            exact hD1
          refine ⟨_, rfl, d, od, kvs, rfl, upd_same, fun L hL => ?_⟩
          refine lc_it walk_items (fun i H' => Up T (upd H1 d (.frz od (.dK kvs))) H' ∧ H' L = some (.lst ((bs.take i).map V.bl))) ⟨.same tL (sameUp hL), upd_same⟩ (fun i H' _ ⟨u, _⟩ => u.e _ _ upd_same ntb_frz) ?_ ?_
          · rintro i x H2 H3 hi ⟨u2, hl2⟩ ⟨T0, x1, y1, rfl, nT0, rfl, e1, e2⟩
            have hki : ∃ kv, kvs[i]? = some kv := ⟨kvs[i], List.getElem?_eq_getElem hi⟩
            obtain ⟨⟨ky, vy⟩, hkv⟩ := hki
            replace e1 : (kvs[i]?.map fun kv => kV kv.1) = some x1 := e1
            replace e2 : kvs[i]?.map Prod.snd = some y1 := e2
            rw [hkv] at e1 e2
            have e1' : kV ky = x1 := Option.some.inj e1
            have e2' : vy = y1 := Option.some.inj e2
            subst e1' e2'
            have u3 := u2.andS (sameUp (o := .tup [kV ky, vy]) nT0)
            have hl3 : upd H2 T0 (.tup [kV ky, vy]) L = some (.lst ((bs.take i).map V.bl)) := by
              rw [upd_ne (ne_of_none hl2 nT0)]
              exact hl2
            obtain ⟨b, hb, ent⟩ := paired_get hp hkv
            have hD3 := u3.e _ _ hDL ntb_dK
            have stp : ∀ H4, Up T (upd H2 T0 (.tup [kV ky, vy])) H4 → H4 L = some (.lst ((bs.take i).map V.bl)) ∧ ((bs.take i).map V.bl).length < sizeLine ∧ Up T (upd H1 d (.frz od (.dK kvs))) (upd H4 L (.lst ((bs.take i).map V.bl ++ [V.bl b]))) ∧
                upd H4 L (.lst ((bs.take i).map V.bl ++ [V.bl b])) L = some (.lst ((bs.take (i + 1)).map V.bl)) := by
              intro H4 u4
              have hl4 := u4.e _ _ hl3 ntb_lst
              have u5 := u3.trans u4
              refine ⟨hl4, ?_, ⟨fun b' o e n => ?_, Tabs.put u5.t hl4 ntb_lst (fun φ z => by cases z)⟩, ?_⟩
              · rw [List.length_map, List.length_take]
                have hl := Paired.length hp
                exact Nat.lt_of_le_of_lt (Nat.min_le_right _ _) (Nat.lt_of_le_of_lt (by omega : bs.length ≤ 1000) (by decide))
              · rw [upd_ne (ne_of_none e hL)]
                exact u5.e _ _ e n
              · rw [upd_same, List.take_add_one, hb, List.map_append]
                rfl
            refine ⟨T0, _, rfl, SqT.of upd_same, rfl, _, _, rfl, _, _, rfl, rfl, rfl, ?_⟩
            cases ent with
            | @row p _ _ hin r =>
              refine ⟨_, rfl, _, rfl, D, _, rfl, DGet.k (k := Sum.inr p) hD3, true, ?_, ?_⟩
              · have hin' : (valV (namesD ns) (Sum.inr p)).isSome = true := hin
                rw [hin']
              refine iteT ⟨_, rfl, _, rfl, _, rfl, vy, p, D, namesD ns, b, rfl, u3.t, hD3, (RowB.lock hd1 (r.ext u1.e)).ext u3.e, fun H4 u4 => ?_⟩
              obtain ⟨z1, z2, z3⟩ := stp H4 u4
              exact ⟨_, z1, z2, z3⟩
            | out hno =>
              refine ⟨_, rfl, _, rfl, D, _, rfl, DGet.k (k := ky) hD3, false, ?_, ?_⟩
              · rw [hno]
                rfl
              obtain ⟨z1, z2, z3⟩ := stp _ (.refl u3.t)
              exact iteF ⟨_, z1, z2, z3⟩
          · rintro H2 ⟨u2, hl2⟩
            have hlen := Paired.length hp
            rw [List.take_of_length_le (by omega)] at hl2
            have Ld : L ≠ d := fun z => by
              rw [z, upd_same] at hL
              cases hL
            refine ⟨u2.e _ _ upd_same ntb_frz, L, bs, rfl, SqL.of ?_, k _ (u1.trans (.unlock hd1 u2))⟩
            rw [upd_ne Ld]
            exact hl2
end
end Mn
/-! sorted of a tuple of texts -/
namespace Mn
open PySem PySem.Spec PyProof.Rows L2 Md Me Ml LamX
section
variable {prog : Program} {w : World} {A : Around} {E : Value → Shared → Prop} {s : Shared}
theorem collect_tuple {l : Addr} {vs : List Value} {Q : List Value → Shared → Prop} (hl : s.heap.IsTuple l vs.toArray)
    (h : Q vs { s with heap := (s.heap.push (seqObj "list" #[] 0)).update s.heap.objs.size (Obj.mapSeq (· ++ vs.toArray)) }) (hsz : vs.length ≤ sizeLine := by size_fits) :
    wpAny (model prog w) A (collect (.ref l)) Q E s := by
  obtain ⟨o, ho, hc, n, hd⟩ := id hl
  unfold collect
  refine wpAny_bind (wpAny_runValue (codeAny_builtin entry_proto_collect' ?_))
  show wpAny _ _ (do again (.builtin "list.__iadd__" ⟨[← newList [], .ref l], []⟩)) _ _ s
  refine wpAny_bind (wpAny_newList (wpAny_pure ⟨Code.quiet_builtin _ (by decide +kernel), codeAny_builtin entry_list_iadd' ?_⟩))
  show wpAny _ _ (Builtin.List.listExtendWith (.ref s.heap.objs.size) (.ref l) (.ref s.heap.objs.size)) _ _ { s with heap := s.heap.push (seqObj "list" #[] 0) }
  unfold Builtin.List.listExtendWith
  have ho' : (s.heap.push (seqObj "list" #[] 0)).get? l = some o := Heap.get?_push_of_some _ ho
  refine wpAny_bind (wpAny_typeOf (T := "tuple") ⟨o, ho', hc⟩ ?_)
  have ht : (Value.type "tuple" == Value.type "tuple") = true := by rfl
  rw [if_pos (by rw [ht]; simp)]
  refine wpAny_bind (listItems_at ho' hd ?_)
  refine wpAny_bind (listItems_at (xs := #[]) (n := 0) (Heap.get?_push_size _ rfl) rfl ?_)
  rw [if_neg (by simp)]
  refine wpAny_bind (listUpdate_at (xs := #[]) (n := 0) (Heap.get?_push_size _ rfl) rfl ?_ (Nat.zero_le _) (by show (#[] ++ vs.toArray).size ≤ sizeLine + 1; simp only [Array.size_append, List.size_toArray, List.length_nil]; omega))
  refine wpAny_pure ?_
  show wpAny (model prog w) A (do
      let o ← load s.heap.objs.size
      match o.data with
      | .seq xs _ => pure xs.toList
      | _ => unsupported "internal:collect") Q E { s with heap := (s.heap.push (seqObj "list" #[] 0)).update s.heap.objs.size (Obj.mapSeq (· ++ vs.toArray)) }
  refine wpAny_bind (wpAny_load (get?_update_seq (Heap.get?_push_size _ rfl) _) ?_)
  show wpAny _ _ (pure ((#[] : Array Value) ++ vs.toArray).toList) Q E _
  rw [show ((#[] : Array Value) ++ vs.toArray).toList = vs by simp]
  exact wpAny_pure h
theorem sortedKT {κ : KeyKind} (hO : κ.OneLt) {l : Addr} {vs : List Value} {Q : Value → Shared → Prop} (hl : s.heap.IsTuple l vs.toArray) (h0 : KeysOf κ (pairsOf vs)) (hkk : ∀ v₁ v₂ rest, vs = v₁ :: v₂ :: rest → keyKind' (v₁ :: v₂ :: rest).toArray = pure oneType') (h64 : vs.length < 64)
    (h : ∀ st' : SortSt, (arrOf st').Perm (pairsOf vs) → SortedToK κ (arrOf st') (pairsOf vs).size → Q (.ref (s.heap.objs.size + 1)) { s with heap := sortedAll s.heap vs ((arrOf st').map (·.2)) }) :
    wpAny (model prog w) A (call (.builtin "sorted") [.ref l]) Q E s := by
  refine Calls.call_function_entry kind_sorted plain_sorted entry_sorted (args_sorted1 _) ?_
  unfold Builtin.«sorted»
  refine wpAny_bind (m := checkCount "sorted" 1 1 _) (wpAny_pure ?_)
  refine wpAny_bind (collect_tuple hl ?_)
  refine wpAny_bind (wpAny_newList ?_)
  have hsz : ((s.heap.push (seqObj "list" #[] 0)).update s.heap.objs.size (Obj.mapSeq (· ++ vs.toArray))).objs.size = s.heap.objs.size + 1 := by
    rw [Heap.size_update, size_push']
  have hoL : (((s.heap.push (seqObj "list" #[] 0)).update s.heap.objs.size (Obj.mapSeq (· ++ vs.toArray))).push (seqObj "list" vs.toArray 0)).get? (s.heap.objs.size + 1) = some (seqObj "list" vs.toArray 0) := by
    rw [← hsz]
    exact Heap.get?_push_size _ rfl
  show wpAny _ _ _ _ _ { s with heap := ((s.heap.push (seqObj "list" #[] 0)).update s.heap.objs.size (Obj.mapSeq (· ++ vs.toArray))).push (seqObj "list" vs.toArray 0) }
  rw [hsz]
  refine wpAny_bind (wpAny_holding (wpAny_call_entry slot_list_sort ⟨_, hoL, rfl⟩ entry_list_sort (list_sort_treeK hO hoL h0 hkk h64 fun st' a1 a2 => ⟨_, rfl, ?_⟩) (args_list_sort _)))
  exact wpAny_pure ⟨_, rfl, h st' a1 a2⟩
theorem sorted_strsT {l : Addr} {vs : List Value} {ss : List Str} {Q : Value → Shared → Prop} (hl : s.heap.IsTuple l vs.toArray) (hS : StrsAre vs ss) (h64 : vs.length < 64)
    (h : ∀ (out : Array Value) (ss' : List Str), StrsAre out.toList ss' → ss'.Perm ss → sortedS ss' = true → Q (.ref (s.heap.objs.size + 1)) { s with heap := sortedAll s.heap vs out }) :
    wpAny (model prog w) A (call (.builtin "sorted") [.ref l]) Q E s := by
  refine sortedKT strKind_oneLt hl hS.keysOf (fun v₁ v₂ rest e => keyKind_strs (by rw [← e]; exact hS)) h64 fun st' hp hs => ?_
  obtain ⟨ss', h1, h2, h3⟩ := sorted_out_str hS hp hs
  exact h _ ss' h1 h2 h3
end
def rSortedA (K : PySem.W.Frag) : List V → Hp → VK → Prop := fun vs H Q => ∃ (a : Addr) (xs : List Str), vs = [V.ref a] ∧ (SqL K H a (xs.map V.str) ∨ SqT K H a (xs.map V.str)) ∧ xs.length < 64 ∧
  ∀ (ys : List Str) (p : Addr), ys.Perm xs → sortedS ys = true → H p = none → Q (.ref p) (upd H p (.lst (ys.map V.str)))
theorem cr_sortedA {X : Cx} : CallR X (.builtin "sorted") (rSortedA X.K) := by
  intro pins s σ H vs us Q I r h
  obtain ⟨a, xs, rfl, hs, h64, q⟩ := h
  rcases hs with hs | hs
  · exact cr_sortedS pins s σ H _ us Q I r ⟨a, xs, rfl, hs, h64, q⟩
  · obtain ⟨its, rv, hl, _⟩ := I.tuple hs
    rw [Vals.ref1 r]
    have hlen0 := rv.length
    rw [List.length_map] at hlen0
    refine sorted_strsT hl rv.strs (by rw [← hlen0]; exact h64) fun out ys h1 h2 h3 => ?_
    obtain ⟨ep, he'⟩ := PyProof.Rows.sortedAll_at s.heap its out
    have hlen : (ys.map V.str).length ≤ sizeLine := by
      rw [List.length_map, h2.length_eq]
      exact small64 h64
    exact ⟨.ref _, upd H (s.heap.objs.size + 1) (.lst (ys.map V.str)), I.laid (t' := s.toks) (fun _ _ => PyProof.Rows.sortedAll_old) (Nat.le_succ _) ⟨hlen, out.toList, ep, vals_of_strs h1, he'⟩, rfl, q ys _ h2 h3 (I.hok.fresh (Nat.le_succ _))⟩
end Mn
/-! Market -/
namespace Mn
open PySem PySem.Spec PyProof.Rows L2 Md Me Ml LamX
/-- an own error of one field -/
structure ExX (K : PySem.W.Frag) (mg : Str → Option Value) (x f : Str) : Prop where
  g : mg x = some (.ref (He.ga K x))
  ox : OexC K (He.ga K x)
  iC : PySem.W.findIn K (.ref (He.ga K x)) "__init__" = some (some (.ref (He.ma K (He.ga K x) "__init__")))
  tI : PySem.W.typeIn K (.ref (He.ma K (He.ga K x) "__init__")) = some (.type "function")
  no : PySem.W.findIn K (.ref (He.ga K x)) f = some none
  xf : XfC K (He.ga K x)
def spI1 (K : PySem.W.Frag) (f : Str) : Sp := fun vs H Q _ => ∃ (a C : Addr) (v : V), vs = [.ref a, v] ∧ OexC K C ∧ PySem.W.findIn K (.ref C) f = some none ∧ H a = some (exo a C none) ∧
  ∀ dx, H dx = none → dx ≠ a → Q .non (upd (upd H dx (exd dx [(f, v)])) a (exo a C (some dx)))
section
variable {P : Program} {w : World} {K : PySem.W.Frag} {mg : Str → Option Value} {base : Heap}
theorem okI1 {fI : Addr} {fd : FuncData} {st : Stmt} {q f : Str} {p1 p2 p3 p4 : Pos} (F : Fun K "__init__" q st fI fd) (S : FnScope ["self", f] ["self", f] (defScope st))
    (hb : defBody st = [.Assign [.Attribute (.Name "self" p1) f p2] (.Name f p3) p4]) (h0 : (defScope st).names.lookup ("self" : Str) = some .local) (h1 : (defScope st).names.lookup f = some .local)
    (hd : (f == ("__debug__" : Str)) = false) (hcd : (f == ("__classdict__" : Str)) = false) :
    FnOk P w K mg base CX0 1 fI fd ["self", f] (spI1 K f) := by
  refine F.ok S (fun vs H Q E h => ?_) (fun cdv A outer s H vs Q E hr h => ?_)
  · obtain ⟨a, C, v, rfl, _⟩ := h
    rfl
  · obtain ⟨a, C, v, rfl, ox, no, ha, k⟩ := h
    rw [hb]
    refine ⟨_, pss_one (ps_ost (pe_var (i := 0) rfl (.inl h0) (by decide) (by decide)) (pe_var (i := 1) rfl (.inl h1) hd hcd) (by rfl)), ?_⟩
    exact ⟨_, rfl, _, rfl, a, C, rfl, ox, no, .inl ⟨ha, fun dx n ne => k dx n ne⟩⟩
/-- raise X(v): the heap behind it -/
theorem raised1 {H : Hp} {C : Addr} {f : Str} {v : V} {Q : XK} (ox : OexC K C) (no : PySem.W.findIn K (.ref C) f = some none) (k : ∀ (H' : Hp) (d : Addr), Same H H' → H d = none → H' d = some (.xd [(f, v)]) → Q (.ref C) (some d) H') :
    ∀ a, H a = none → spI1 K f (.ref a :: ([v] ++ [])) (upd H a (exo a C none)) (fun v H2 => v = .non ∧ ∃ (d : Addr) (fs : List (Str × V)), H2 a = some (exo a C (some d)) ∧ H2 d = some (exd d fs) ∧ H d = none ∧ Q (.ref C) (some d) (upd (del H2 a) d (.xd fs))) (fun _ _ _ => False) := by
  intro a na
  refine ⟨a, C, v, rfl, ox, no, upd_same, fun dx nd ne => ⟨rfl, dx, [(f, v)], upd_same, ?_, ?_, ?_⟩⟩
  · rw [upd_ne ne, upd_same]
  · rw [upd_ne ne] at nd
    exact nd
  · have nd' : H dx = none := by
      rw [upd_ne ne] at nd
      exact nd
    refine k _ dx (fun b o e => ?_) nd' upd_same
    have h1 : b ≠ a := ne_of_none e na
    have h2 : b ≠ dx := ne_of_none e nd'
    rw [upd_ne h2, del_ne h1, upd_ne h1, upd_ne h2, upd_ne h1]
    exact e
end
/-! ### the market -/
abbrev sMk (j : Nat) : Stmt := inClass (top 24) j
/-- the row that a dict of wishes has for a name -/
def RowIs (H : Hp) (kvs : List (Key × V)) (n : Str) (r : List Str) : Prop :=
  (∃ a, valV kvs (Sum.inr n) = some (.ref a) ∧ Seq H a (r.map V.str)) ∨ (valV kvs (Sum.inr n) = none ∧ r = [])
/-- rows by names, in the heap -/
def RowsAt (H : Hp) (rd : Addr) (ys : List Str) (rw_ : Str → List Str) : Prop :=
  ∃ as : List Addr, as.length = ys.length ∧ H rd = some (.dK ((ys.zip as).map fun p => (Sum.inr p.1, V.ref p.2))) ∧ ∀ (i : Nat) (n : Str) (a : Addr), ys[i]? = some n → as[i]? = some a → H a = some (.lst ((rw_ n).map V.str))
/-- rows by names, their lists new -/
def RowsAtN (H0 H : Hp) (rd : Addr) (ys : List Str) (rw_ : Str → List Str) : Prop :=
  ∃ as : List Addr, as.length = ys.length ∧ H rd = some (.dK ((ys.zip as).map fun p => (Sum.inr p.1, V.ref p.2))) ∧ (∀ (i : Nat) (n : Str) (a : Addr), ys[i]? = some n → as[i]? = some a → H a = some (.lst ((rw_ n).map V.str))) ∧ ∀ a ∈ as, H0 a = none
structure MkAt (H : Hp) (C m : Addr) (ns ys : List Str) (rw_ : Str → List Str) : Prop where
  ex : ∃ dx pl rd, H m = some (.ins C dx [("_people", .ref pl), ("_rows", .ref rd)]) ∧ H pl = some (.lst (ns.map V.str)) ∧ RowsAt H rd ys rw_
  pm : ys.Perm ns
  so : sortedS ys = true
/-- nothing but a table stands there -/
def Nw (H : Hp) (c : Addr) : Prop := ∀ o, H c = some o → ∃ ps, o = .tbl ps
theorem Nw.of {H H' : Hp} {c : Addr} (s : ExtN H H') (h : H' c = none) : Nw H c := fun o e => by
  by_cases z : ∃ ps, o = .tbl ps
  · exact z
  · have := s c o e fun ps q => z ⟨ps, q⟩
    rw [h] at this
    cases this
/-- the market at x is made of what is new -/
def MkKeep (H H' : Hp) (x C : Addr) (ns ys : List Str) (rw_ : Str → List Str) : Prop := ∀ H'', (∀ c o, (Nw H c ∨ c = x) → (∀ ps, o ≠ .tbl ps) → H' c = some o → H'' c = some o) → MkAt H'' C x ns ys rw_
theorem scInit : FnScope ["self", "people", "wishes", "wrong", "name"] ["self", "people", "wishes"] (defScope (sMk 0)) := ⟨rfl, rfl, rfl, by decide +kernel, rfl, by decide +kernel, by decide +kernel⟩
/-- all but the object at x and the tables stays -/
structure UpX (T : List (Addr × Str)) (x : Addr) (H H' : Hp) : Prop where
  e : ∀ b o, b ≠ x → H b = some o → (∀ ps, o ≠ .tbl ps) → H' b = some o
  t : Tabs T H'
def namesV (ns : List Str) : List V := ns.map V.str
/-- people that are none: the first wrong index -/
def PplBad (K : PySem.W.Frag) (H : Hp) (v : V) (i : Nat) : Prop := (NoSeq K H v ∧ i = 0) ∨ ∃ (a : Addr) (xs : List V), v = .ref a ∧ Seq H a xs ∧ (∀ v ∈ xs, Itm K H v) ∧ xs.length ≤ 4000 ∧ fwI isNm xs [] 0 = some i
def PplOk (H : Hp) (v : V) (ns : List Str) : Prop := ∃ a, v = .ref a ∧ Seq H a (ns.map V.str) ∧ fwI isNm (ns.map V.str) [] 0 = none ∧ ns.Nodup ∧ ns.length ≤ 63 ∧ ∀ n ∈ ns, n.length ≤ sizeLine
def WshBad (K : PySem.W.Frag) (H : Hp) (v : V) (ns : List Str) : Prop := NoDict K H v ∨ (∃ (d : Addr) (kvs : List (Key × V)) (bs : List Bool), v = .ref d ∧ H d = some (.dK kvs) ∧ Paired (EntB K H (namesD ns)) kvs bs ∧ kvs.length ≤ 1000 ∧ bs.all id = false) ∨ OdD H v
theorem OdD.ext {H H' : Hp} {v : V} (s : ExtN H H') (h : OdD H v) : OdD H' v := by
  obtain ⟨d, o, k, x, e, h1, h2⟩ := h
  exact ⟨d, o, k, x, e, s _ _ h1 (fun ps z => by cases z), h2.imp id fun ⟨t, ks, e1, e2⟩ => ⟨t, ks, e1, s _ _ e2 ntb_tup⟩⟩
def WshOk (K : PySem.W.Frag) (H : Hp) (v : V) (ns : List Str) (rw_ : Str → List Str) : Prop := ∃ (d : Addr) (kvs : List (Key × V)) (bs : List Bool), v = .ref d ∧ H d = some (.dK kvs) ∧ Paired (EntB K H (namesD ns)) kvs bs ∧ kvs.length ≤ 1000 ∧ bs.all id = true ∧
  ∀ n ∈ ns, RowIs H kvs n (rw_ n) ∧ (rw_ n).length ≤ 1000
/-- what Market(..) does -/
def MkDoes (K : PySem.W.Frag) (T : List (Addr × Str)) (H0 : Hp) (pv wv : V) (good : (List Str) → (List Str) → (Str → List Str) → Prop) (E : XK) : Prop :=
  (∃ i, PplBad K H0 pv i ∧ ∀ (H' : Hp) (d : Addr), Up T H0 H' → H' d = some (.xd [("index", .int (i : Nat))]) → E (.ref (He.ga K "BadPeople")) (some d) H') ∨
  (∃ ns, PplOk H0 pv ns ∧ WshBad K H0 wv ns ∧ ∀ (H' : Hp) (d : Addr), Up T H0 H' → H' d = some (.xd [("thing", wv)]) → E (.ref (He.ga K "BadWishes")) (some d) H') ∨
  (∃ ns rw_, PplOk H0 pv ns ∧ WshOk K H0 wv ns rw_ ∧ ∀ ys, good ns ys rw_)
def spInit (K : PySem.W.Frag) (T : List (Addr × Str)) : Sp := fun vs H Q E => ∃ (x C dx : Addr) (pv wv : V), vs = [.ref x, pv, wv] ∧ H x = some (.ins C dx []) ∧ Cls K C ∧ NoAttr K C "_people" ∧ NoAttr K C "_rows" ∧ Tabs T H ∧
  MkDoes K T H pv wv (fun ns ys rw_ => ∀ H', UpX T x H H' → MkAt H' C x ns ys rw_ → MkKeep H H' x C ns ys rw_ → Q .non H') E
section
variable {P : Program} {w : World} {K : PySem.W.Frag} {mg : Str → Option Value} {base : Heap}
theorem EntB.ext {H H' : Hp} {nd : List (Key × V)} {kv : Key × V} {b : Bool} (s : ExtN H H') (h : EntB K H nd kv b) : EntB K H' nd kv b := by
  cases h with
  | row h r => exact .row h (r.ext s)
  | out h => exact .out h
theorem NoDict.ext {H H' : Hp} {v : V} (s : ExtN H H') (h : NoDict K H v) : NoDict K H' v := by
  obtain ⟨t, h1, h2⟩ := h
  exact ⟨t, TyX.ext s h1, h2⟩
theorem paired_imp {α β : Type} {F G : α → β → Prop} (f : ∀ a b, F a b → G a b) : ∀ {l1 : List α} {l2 : List β}, Paired F l1 l2 → Paired G l1 l2
  | _, _, .nil => .nil
  | _, _, .cons r t => .cons (f _ _ r) (paired_imp f t)
theorem putF_rows {u v : V} : putF "_rows" v [(("_people" : Str), u)] = [(("_people" : Str), u), (("_rows" : Str), v)] := by
  unfold putF
  rw [if_neg (by decide +kernel : ¬ ("_people" : Str) = "_rows")]
  rfl
theorem items_strs {H : Hp} {ns : List Str} (h : ∀ n ∈ ns, n.length ≤ sizeLine) : ∀ v ∈ ns.map V.str, Itm K H v := fun v hv => by
  obtain ⟨n, hn, rfl⟩ := List.mem_map.mp hv
  exact .inl ⟨n, rfl, h n hn⟩
theorem zip_snoc {ys : List Str} {as : List Addr} {i : Nat} {n : Str} {l : Addr} (ha : as.length = i) (h : ys[i]? = some n) : (ys.take (i + 1)).zip (as ++ [l]) = (ys.take i).zip as ++ [(n, l)] := by
  have hi : i < ys.length := by
    rcases Nat.lt_or_ge i ys.length with q | q
    · exact q
    · rw [List.getElem?_eq_none q] at h
      cases h
  rw [List.take_add_one, h]
  show ((ys.take i) ++ [n]).zip (as ++ [l]) = _
  rw [List.zip_append (by rw [List.length_take, ha]; omega)]
  rfl
theorem dict_rows {H4 : Hp} {Qd : Addr → Hp → Prop} {x d p ap : Addr} {o3 : V} {kvs : List (Key × V)} {ys : List Str} {rw_ : Str → List Str} {σ : L2.St} (hσ : σ = [some (.ref x), some (.ref ap), some (.ref d), some o3, none]) (hd : H4 d = some (.dK kvs))
    (hp : H4 p = some (.lst (ys.map V.str))) (nd : ys.Nodup) (hl : ys.length ≤ 63) (hr : ∀ n ∈ ys, RowIs H4 kvs n (rw_ n)) (k : ∀ (H' : Hp) (D : Addr), Same H4 H' → H4 D = none → RowsAtN H4 H' D ys rw_ → Qd D H') :
    ∀ D, H4 D = none → ∃ W : Nat → Nat → Hp → Prop, (∃ m, W 0 m (upd H4 D (.dK []))) ∧ ∀ i m H, W i m H →
      ((Itl K p).stop i H ∧ Qd D H) ∨ ((Itl K p).go i H ∧ ∃ Nx : Hp → Prop, (∀ H', Nx H' → ∃ m', m' < m ∧ W (i + 1) m' H') ∧ ∀ x H', (Itl K p).yld i H x H' → gName 4 x (wipe σ [4]) H' fun σ2 H2 => wipe σ2 [4] = wipe σ [4] ∧ tYes σ2 H2 fun b H3 =>
        if b = true then tVar 4 σ2 H3 fun y H4 => tCB (fun xs H Q => ∃ p ys, xs = [V.ref p] ∧ (SqL K H p ys ∨ SqT K H p ys) ∧ ∀ l, H l = none → Q (.ref l) (upd H l (.lst ys))) (tCons (tDGet2 (tVar 2) (tVar 4) (tLst tNil)) tNil) σ2 H4 fun z H5 =>
          ∃ kvs k, y = kV k ∧ H5 D = some (.dK kvs) ∧ kvs.length < sizeLine ∧ Nx (upd H5 D (.dK (putK kvs k z))) else Nx H3) := by
  subst hσ
  intro D hD
  refine dc_it (walk_list (xs := ys.map V.str)) (fun i H' => Same H4 H' ∧ ∃ as : List Addr, as.length = i ∧ H' D = some (.dK (((ys.take i).zip as).map fun p => (Sum.inr p.1, V.ref p.2))) ∧ (∀ (j : Nat) (n : Str) (a : Addr), ys[j]? = some n → as[j]? = some a → H' a = some (.lst ((rw_ n).map V.str))) ∧ ∀ a ∈ as, H4 a = none)
    ⟨sameUp hD, [], rfl, upd_same, (fun j n a h1 h2 => by simp at h2), fun a ha => by simp at ha⟩ (fun i H' _ ⟨s, _⟩ => SqL.of (s _ _ hp)) ?_ ?_
  · rintro i v H1 H2 hi ⟨s1, as, ha, hD1, hrows, hfr⟩ ⟨rfl, hx⟩
    rw [List.getElem?_map] at hx
    obtain ⟨n, hn, rfl⟩ := Option.map_eq_some_iff.mp hx
    have hmem := List.mem_of_getElem? hn
    have hd2 := s1 _ _ hd
    refine ⟨rfl, _, rfl, _, rfl, d, rfl, .inl ⟨kvs, .inl hd2⟩, _, rfl, Nat.zero_le _, fun e he => ⟨valV kvs (Sum.inr n), ?_, ?_⟩⟩
    · have s2 := sameUp (o := .lst []) he
      exact DGet.k (k := Sum.inr n) (s2 _ _ hd2)
    · have s2 := s1.trans (sameUp (o := .lst []) he)
      have hD2 : upd H2 e (.lst []) D = _ := (sameUp (o := .lst []) he) _ _ hD1
      have main : ∃ q, (valV kvs (Sum.inr n)).getD (V.ref e) = V.ref q ∧ Seq (upd H2 e (.lst [])) q ((rw_ n).map V.str) := by
        rcases hr n hmem with ⟨a, e1, e2⟩ | ⟨e1, e2⟩
        · rw [e1]
          exact ⟨a, rfl, e2.same s2⟩
        · rw [e1, e2]
          exact ⟨e, rfl, .inl upd_same⟩
      obtain ⟨q, e1, e2⟩ := main
      rw [e1]
      refine ⟨q, _, rfl, e2.sq, fun l hl2 => ?_⟩
      have s3 := sameUp (o := .lst ((rw_ n).map V.str)) hl2
      have hD3 := s3 _ _ hD2
      have lD : l ≠ D := (ne_of_none hD2 hl2).symm
      refine ⟨_, Sum.inr n, rfl, hD3, ?_, fun b o eb => ?_, as ++ [l], ?_, ?_, fun j m a h1 h2 => ?_, fun a ha2 => ?_⟩
      · rw [List.length_map, List.length_zip]
        refine Nat.lt_of_le_of_lt (Nat.min_le_right _ _) ?_
        rw [ha]
        rw [List.length_map] at hi
        exact small1000 (by omega)
      · rw [upd_ne (ne_of_none eb hD)]
        exact s3 _ _ (s2 _ _ eb)
      · rw [List.length_append, ha]
        rfl
      · rw [upd_same, putK_new, zip_snoc ha hn, List.map_append]
        · rfl
        · intro kv hk z
          obtain ⟨⟨m, a⟩, hm, rfl⟩ := List.mem_map.mp hk
          have e3 : m = n := Sum.inr.inj z
          subst e3
          have hm2 := (List.of_mem_zip hm).1
          obtain ⟨j, hj⟩ := List.getElem?_of_mem hm2
          have hji : j < i := by
            rcases Nat.lt_or_ge j i with q | q
            · exact q
            · rw [List.getElem?_take, if_neg (by omega)] at hj
              cases hj
          rw [List.getElem?_take_of_lt hji] at hj
          have hjl : j < ys.length := by
            rcases Nat.lt_or_ge j ys.length with q | q
            · exact q
            · rw [List.getElem?_eq_none q] at hj
              cases hj
          have := (List.getElem?_inj hjl nd).mp (hj.trans hn.symm)
          omega
      · by_cases hj : j < i
        · rw [List.getElem?_append_left (by omega)] at h2
          have h4 := hrows j m a h1 h2
          have aD : a ≠ D := fun z => by
            rw [z, hD1] at h4
            cases h4
          rw [upd_ne aD]
          exact s3 _ _ ((sameUp (o := .lst []) he) _ _ h4)
        · have hlen : j < (as ++ [l]).length := by
            rcases Nat.lt_or_ge j (as ++ [l]).length with q | q
            · exact q
            · rw [List.getElem?_eq_none q] at h2
              cases h2
          rw [List.length_append, ha] at hlen
          have hji : j = i := by
            simp at hlen
            omega
          subst hji
          rw [List.getElem?_append_right (by omega), ha] at h2
          have e4 : l = a := by simpa using h2
          rw [hn] at h1
          have e5 : n = m := Option.some.inj h1
          subst e4 e5
          rw [upd_ne lD, upd_same]
      · rcases List.mem_append.mp ha2 with z | z
        · exact hfr a z
        · have e6 : a = l := by simpa using z
          rw [e6]
          exact s2.free hl2
  · rintro H1 ⟨s1, as, ha, hD1, hrows, hfr⟩
    rw [List.length_map] at ha hD1
    rw [List.take_length] at hD1
    exact k _ _ s1 hD ⟨as, ha, hD1, hrows, hfr⟩
theorem ok_init {T : List (Addr × Str)} {f fP fR fB fW : Addr} {fd fdP fdR fdB fdW : FuncData} (F : Fun K "__init__" "Market.__init__" (sMk 0) f fd)
    (GP : FnOk P w K mg base CX0 4 fP fdP ["people"] (spPf K)) (kP : PySem.W.keepIn K (.ref fP) = true) (bP : Binds K fdP ["people"] []) (gP : mg "people_fault" = some (.ref fP))
    (GR : FnOk P w K mg base CX0 5 fR fdR ["thing", "people"] (spRows K T)) (kR : PySem.W.keepIn K (.ref fR) = true) (bR : Binds K fdR ["thing", "people"] []) (gR : mg "are_rows" = some (.ref fR))
    (BP : ExX K mg "BadPeople" "index") (FB : FnOk P w K mg base CX0 1 (He.ma K (He.ga K "BadPeople") "__init__") fdB ["self", "index"] (spI1 K "index")) (bB : Binds K fdB ["self", "index"] [])
    (BW : ExX K mg "BadWishes" "thing") (FW : FnOk P w K mg base CX0 1 (He.ma K (He.ga K "BadWishes") "__init__") fdW ["self", "thing"] (spI1 K "thing")) (bW : Binds K fdW ["self", "thing"] [])
    (gL : mg "list" = none) (gS : mg "sorted" = none) : FnOk P w K mg base (L2.CX P w) 6 f fd ["self", "people", "wishes"] (spInit K T) := by
  refine F.okX scInit (fun vs H Q E h => ?_) (fun cdv A outer s H vs Q E hr h => ?_)
  · obtain ⟨x, C, dx, pv, wv, rfl, _⟩ := h
    rfl
  · obtain ⟨x, C, dx, pv_, wv, rfl, hx, cls, na1, na2, hT, h⟩ := h
    have hu := hu_of hr
    have hnd := scInit.nd
    refine ⟨_, pss_cons (ps_set (i := 3) hnd rfl (Or.inl rfl) (pe_call GP (hr.mono (by decide)) rfl gP kP bP .nil pass0 (pa_cons (pv 1) pa_nil)))
      (pss_cons (ps_if (pt_cmpR op_notN (pv 3) pe_non (nomark _)) (pss_one (ps_raise rfl (takes_of rfl rfl rfl rfl) (pmk_oex BP.ox BP.iC BP.tI FB (hr.mono (by decide)) bB .nil pass0 rfl BP.g (pa_cons (pv 3) pa_nil)))) pss_nil)
      (pss_cons (ps_if (pt_not (pt_val (pe_call GR hr rfl gR kR bR .nil pass0 (pa_cons (pv 2) (pa_cons (pv 1) pa_nil))))) (pss_one (ps_raise rfl (takes_of rfl rfl rfl rfl) (pmk_oex BW.ox BW.iC BW.tI FW (hr.mono (by decide)) bW .nil pass0 rfl BW.g (pa_cons (pv 2) pa_nil)))) pss_nil)
      (pss_cons (ps_fld (pv 0) (pe_callTy call_list_of rfl gL boot_list (pa_cons (pv 1) pa_nil)) rfl)
      (pss_one (ps_fld (pv 0) (pe_dc (own := [("name", 4)]) (g := gName 4) (tt := tYes) (tk := tVar 4) (tv := tCB (fun xs H Q => ∃ p ys, xs = [V.ref p] ∧ (SqL K H p ys ∨ SqT K H p ys) ∧ ∀ l, H l = none → Q (.ref l) (upd H l (.lst ys))) (tCons (tDGet2 (tVar 2) (tVar 4) (tLst tNil)) tNil)) rfl hnd
        (pi_list (pe_callB cr_sortedA (by rfl) gS (by decide +kernel) (pa_cons (pv 1) pa_nil))) (blkOk_by (N := ["self", "people", "wishes", "wrong", "name"]) (sc := defScope (sMk 0)) (by decide +kernel))
        (fun _ _ _ _ _ => pg_name (i := 4) hnd rfl (Or.inl rfl)) (fun _ _ _ _ _ => pts_nil) (fun _ _ _ _ _ => by exact pv 4)
        (fun _ _ _ _ _ => by exact pe_callTy call_list_of rfl gL boot_list (pa_cons (pe_dget2 hu (pv 2) (pv 4) (pe_lst pa_nil) ⟨rfl, rfl, rfl, rfl⟩) pa_nil))) rfl))))), ?_⟩
    have oint : ∀ i : Nat, (!decide (V.int (i : Int) = V.non)) = true := fun i => rfl
    rcases h with ⟨i, hb, k⟩ | ⟨ns, ⟨ap, rfl, hq, hfw, hnod, hn, hlen⟩, h⟩ | ⟨ns, rw_, ⟨ap, rfl, hq, hfw, hnod, hn, hlen⟩, ⟨d, kvs, bs, rfl, hd, hp, hk, hall, hrows⟩, k⟩
    · have fin : ∀ H1, Same H H1 → ∀ a, H1 a = none → spI1 K "index" (.ref a :: ([V.int (i : Int)] ++ [])) (upd H1 a (exo a (He.ga K "BadPeople") none)) (fun v H2 => v = .non ∧ ∃ (d : Addr) (fs : List (Str × V)), H2 a = some (exo a (He.ga K "BadPeople") (some d)) ∧ H2 d = some (exd d fs) ∧ H1 d = none ∧ E (.ref (He.ga K "BadPeople")) (some d) (upd (del H2 a) d (.xd fs))) (fun _ _ _ => False) :=
        fun H1 s1 => raised1 BP.ox BP.no fun H' d s n e => k H' d (.same hT (s1.trans s)) e
      rcases hb with ⟨h, rfl⟩ | ⟨a, xs, rfl, h, hx, hn, e⟩
      · refine ⟨_, rfl, .inl ⟨pv_, rfl, h, fun H1 s1 => ?_⟩⟩
        exact ⟨_, rfl, rfl, _, rfl, iteT ⟨_, rfl, (show 1 ≤ 1000 by decide), fin H1 s1⟩⟩
      · refine ⟨_, rfl, .inr ⟨a, xs, rfl, h, hx, hn, fun H1 s1 => ?_⟩⟩
        rw [e]
        exact ⟨_, rfl, rfl, _, rfl, iteT ⟨_, rfl, (show 1 ≤ 1000 by decide), fin H1 s1⟩⟩
    · refine ⟨_, rfl, .inr ⟨ap, _, rfl, hq, items_strs hlen, by rw [List.length_map]; omega, fun H1 s1 => ?_⟩⟩
      rw [hfw]
      refine ⟨_, rfl, rfl, _, rfl, iteF ?_⟩
      have u1 := Up.same hT s1
      obtain ⟨hw, k⟩ := h
      have fin : ∀ H2, Up T H1 H2 → ∀ a, H2 a = none → spI1 K "thing" (.ref a :: ([wv] ++ [])) (upd H2 a (exo a (He.ga K "BadWishes") none)) (fun v H3 => v = .non ∧ ∃ (d : Addr) (fs : List (Str × V)), H3 a = some (exo a (He.ga K "BadWishes") (some d)) ∧ H3 d = some (exd d fs) ∧ H2 d = none ∧ E (.ref (He.ga K "BadWishes")) (some d) (upd (del H3 a) d (.xd fs))) (fun _ _ _ => False) :=
        fun H2 u2 => raised1 BW.ox BW.no fun H' d s n e => k H' d ((u1.trans u2).andS s) e
      rcases hw with h | ⟨d, kvs, bs, rfl, hd, hp, hk, hall⟩ | h
      rotate_left 2
      · exact ⟨_, rfl, _, rfl, wv, ap, ns, rfl, u1.t, hq.same s1, hnod, by omega, .inr (.inr ⟨h.ext u1.e, fun H2 u2 => ⟨_, rfl, iteT ⟨_, rfl, (show 1 ≤ 1000 by decide), fin H2 u2⟩⟩⟩)⟩
      · exact ⟨_, rfl, _, rfl, wv, ap, ns, rfl, u1.t, hq.same s1, hnod, by omega, .inl ⟨h.ext u1.e, fun H2 u2 => ⟨_, rfl, iteT ⟨_, rfl, (show 1 ≤ 1000 by decide), fin H2 u2⟩⟩⟩⟩
      · refine ⟨_, rfl, _, rfl, _, ap, ns, rfl, u1.t, hq.same s1, hnod, by omega, .inr (.inl ⟨d, kvs, bs, rfl, s1 _ _ hd, paired_imp (fun _ _ h => h.ext u1.e) hp, hk, fun H2 u2 => ?_⟩)⟩
        rw [hall]
        exact ⟨_, rfl, iteT ⟨_, rfl, (show 1 ≤ 1000 by decide), fin H2 u2⟩⟩
    · refine ⟨_, rfl, .inr ⟨ap, _, rfl, hq, items_strs hlen, by rw [List.length_map]; omega, fun H1 s1 => ?_⟩⟩
      rw [hfw]
      refine ⟨_, rfl, rfl, _, rfl, iteF ?_⟩
      have u1 := Up.same hT s1
      refine ⟨_, rfl, _, rfl, _, ap, ns, rfl, u1.t, hq.same s1, hnod, by omega, .inr (.inl ⟨d, kvs, bs, rfl, s1 _ _ hd, paired_imp (fun _ _ h => h.ext u1.e) hp, hk, fun H2 u2 => ?_⟩)⟩
      rw [hall]
      refine ⟨_, rfl, iteF ?_⟩
      have u12 := u1.trans u2
      have hq2 := hq.ext u12.e
      have hd2 := u12.e _ _ hd ntb_dK
      have hx2 := u12.e _ _ hx ntb_ins
      refine ⟨_, rfl, ap, _, rfl, hq2.sq, fun pl npl => ?_⟩
      have xpl : x ≠ pl := ne_of_none hx2 npl
      have hx3 : upd H2 pl (.lst (ns.map V.str)) x = some (.ins C dx []) := by
        rw [upd_ne xpl]
        exact hx2
      refine ⟨_, rfl, x, C, dx, [], rfl, hx3, cls, na1, by decide, ?_⟩
      have toX : ∀ b o, b ≠ x → H2 b = some o → upd (upd H2 pl (.lst (ns.map V.str))) x (.ins C dx [(("_people" : Str), .ref pl)]) b = some o := fun b o n e => by
        rw [upd_ne n, upd_ne (ne_of_none e npl)]
        exact e
      have hxX : upd (upd H2 pl (.lst (ns.map V.str))) x (.ins C dx [(("_people" : Str), .ref pl)]) x = some (.ins C dx [(("_people" : Str), .ref pl)]) := upd_same
      have hplX : upd (upd H2 pl (.lst (ns.map V.str))) x (.ins C dx [(("_people" : Str), .ref pl)]) pl = some (.lst (ns.map V.str)) := by
        rw [upd_ne xpl.symm, upd_same]
      have tX : Tabs T (upd (upd H2 pl (.lst (ns.map V.str))) x (.ins C dx [(("_people" : Str), .ref pl)])) := Tabs.put (u12.t.ext (sameUp npl)) hx3 ntb_ins (fun φ z => by cases z)
      have seqX : ∀ {q : Addr} {zs : List V}, Seq H2 q zs → Seq (upd (upd H2 pl (.lst (ns.map V.str))) x (.ins C dx [(("_people" : Str), .ref pl)])) q zs := fun {q zs} h => h.imp
        (fun e => toX _ _ (fun z => by rw [z, hx2] at e; cases e) e) (fun e => toX _ _ (fun z => by rw [z, hx2] at e; cases e) e)
      have hdX := toX d _ (fun z => by rw [z, hx2] at hd2; cases hd2) hd2
      have rowX : ∀ n ∈ ns, RowIs (upd (upd H2 pl (.lst (ns.map V.str))) x (.ins C dx [(("_people" : Str), .ref pl)])) kvs n (rw_ n) := fun n hm => (hrows n hm).1.imp (fun ⟨a, e1, e2⟩ => ⟨a, e1, seqX (e2.ext u12.e)⟩) id
      have hqX := seqX hq2
      refine ⟨_, rfl, ap, ns, rfl, hqX.sq, by omega, fun ys p pm so np => ⟨p, rfl, ⟨_, SqL.of upd_same⟩, ?_⟩⟩
      have s4 := sameUp (o := .lst (ys.map V.str)) np
      have hmem : ∀ n ∈ ys, n ∈ ns := fun n h => pm.subset h
      intro D nD
      obtain ⟨W, hw0, hw⟩ := dict_rows (K := K) (rw_ := rw_) (x := x) (ap := ap) (o3 := optI none) (ys := ys) (p := p) (Qd := fun D H' => Same (upd (upd (upd H2 pl (.lst (ns.map V.str))) x (.ins C dx [(("_people" : Str), .ref pl)])) p (.lst (ys.map V.str))) H' ∧ RowsAtN (upd (upd (upd H2 pl (.lst (ns.map V.str))) x (.ins C dx [("_people", .ref pl)])) p (.lst (ys.map V.str))) H' D ys rw_) rfl (s4 _ _ hdX) upd_same
        (pm.nodup_iff.mpr hnod) (by rw [pm.length_eq]; exact hn) (fun n hm => (rowX n (hmem n hm)).imp (fun ⟨a, e1, e2⟩ => ⟨a, e1, e2.same s4⟩) id) (fun H' D s n r => ⟨s, r⟩) D nD
      refine ⟨W, hw0, fun i m H' hW => ?_⟩
      rcases hw i m H' hW with ⟨hs, sD, ra⟩ | z
      rotate_left
      · exact .inr z
      refine .inl ⟨hs, ?_⟩
      have sX := s4.trans sD
      refine ⟨_, rfl, x, C, dx, _, rfl, sX _ _ hxX, cls, na2, (show 1 < 1000 by decide), ?_⟩
      rw [putF_rows]
      obtain ⟨as, ha, h1, h2, hfr⟩ := ra
      have hxS := sX _ _ hxX
      have off : ∀ {b : Addr} {o : HO}, H' b = some o → (∀ fs, o ≠ .ins C dx fs) → upd H' x (.ins C dx [(("_people" : Str), .ref pl), (("_rows" : Str), .ref D)]) b = some o := fun {b o} e n => by
        rw [upd_ne (fun z => by
          rw [z, hxS] at e
          exact n _ (Option.some.inj e).symm)]
        exact e
      have hplF := off (sX _ _ hplX) (fun fs z => by cases z)
      have hDF := off h1 (fun fs z => by cases z)
      have hrF : ∀ (i : Nat) (n : Str) (a : Addr), ys[i]? = some n → as[i]? = some a → upd H' x (.ins C dx [(("_people" : Str), .ref pl), (("_rows" : Str), .ref D)]) a = some (.lst ((rw_ n).map V.str)) := fun i n a e1 e2 => off (h2 i n a e1 e2) (fun fs z => by cases z)
      have nwX : ∀ c, upd (upd H2 pl (.lst (ns.map V.str))) x (.ins C dx [(("_people" : Str), .ref pl)]) c = none → H2 c = none := fun c z => by
        by_cases q1 : c = x
        · rw [q1, upd_same] at z
          cases z
        · rw [upd_ne q1] at z
          by_cases q2 : c = pl
          · rw [q2, upd_same] at z
            cases z
          · rw [upd_ne q2] at z
            exact z
      have nw : ∀ c, H2 c = none → Nw H c := fun c z => Nw.of u12.e z
      refine k ys _ ⟨fun b o n e nt => ?_, Tabs.put (tX.ext sX) hxS ntb_ins (fun φ z => by cases z)⟩ ⟨⟨dx, pl, D, upd_same, hplF, as, ha, hDF, hrF⟩, pm, so⟩ fun H'' kk =>
        ⟨⟨dx, pl, D, kk x _ (.inr rfl) ntb_ins upd_same, kk pl _ (.inl (nw _ npl)) ntb_lst hplF, as, ha, kk D _ (.inl (nw _ (nwX _ (s4.free nD)))) ntb_dK hDF, fun i n a e1 e2 => kk a _ (.inl (nw _ (nwX _ (s4.free (hfr a (List.mem_of_getElem? e2)))))) ntb_lst (hrF i n a e1 e2)⟩, pm, so⟩
      rw [upd_ne n]
      exact sX _ _ (toX _ _ n (u12.e _ _ e nt))
end
end Mn
/-! Market's methods -/
namespace Mn
open PySem PySem.Spec PyProof.Rows L2 Md Me Ml LamX
/-- new rows, laid one after the other -/
structure RowsB (H0 H1 : Hp) (D : Addr) (ys : List Str) (rw_ : Str → List Str) (i : Nat) (bs : List Addr) : Prop where
  s : Same H0 H1
  l : bs.length = i
  d : H1 D = some (.dK (((ys.take i).zip bs).map fun p => (Sum.inr p.1, V.ref p.2)))
  r : ∀ (j : Nat) (n : Str) (a : Addr), ys[j]? = some n → bs[j]? = some a → H1 a = some (.lst ((rw_ n).map V.str))
  f : ∀ b ∈ bs, H0 b = none
  n : bs.Nodup
theorem RowsB.nil {H0 : Hp} {D : Addr} {ys : List Str} {rw_ : Str → List Str} (h : H0 D = none) : RowsB H0 (upd H0 D (.dK [])) D ys rw_ 0 [] := ⟨sameUp h, rfl, upd_same, fun j n a h1 h2 => by simp at h2, fun b hb => absurd hb (by simp), by simp⟩
theorem RowsB.snoc {H0 H1 H2 : Hp} {D l : Addr} {ys : List Str} {rw_ : Str → List Str} {i : Nat} {bs : List Addr} {n : Str} (B : RowsB H0 H1 D ys rw_ i bs) (nd : ys.Nodup) (hl : ys.length ≤ 63) (hD : H0 D = none) (hn : ys[i]? = some n) (s2 : Same H1 H2) (hl2 : H2 l = none) :
    ∃ kvs, upd H2 l (.lst ((rw_ n).map V.str)) D = some (.dK kvs) ∧ kvs.length < sizeLine ∧ RowsB H0 (upd (upd H2 l (.lst ((rw_ n).map V.str))) D (.dK (putK kvs (Sum.inr n) (.ref l)))) D ys rw_ (i + 1) (bs ++ [l]) := by
  have s3 := s2.trans (sameUp (o := .lst ((rw_ n).map V.str)) hl2)
  have hD3 := s3 _ _ B.d
  have lD : l ≠ D := (ne_of_none (s2 _ _ B.d) hl2).symm
  have hil : i < ys.length := by
    rcases Nat.lt_or_ge i ys.length with q | q
    · exact q
    · rw [List.getElem?_eq_none q] at hn
      cases hn
  refine ⟨_, hD3, ?_, ⟨fun b o eb => ?_, ?_, ?_, fun j m a h1 h2 => ?_, fun b hb => ?_, ?_⟩⟩
  · rw [List.length_map, List.length_zip]
    refine Nat.lt_of_le_of_lt (Nat.min_le_right _ _) ?_
    rw [B.l]
    exact small1000 (by omega)
  · rw [upd_ne (ne_of_none eb hD)]
    exact s3 _ _ (B.s _ _ eb)
  · rw [List.length_append, B.l]
    rfl
  · rw [upd_same, putK_new, zip_snoc B.l hn, List.map_append]
    · rfl
    · intro kv hk z
      obtain ⟨⟨m, a⟩, hm, rfl⟩ := List.mem_map.mp hk
      have e3 : m = n := Sum.inr.inj z
      subst e3
      have hm2 := (List.of_mem_zip hm).1
      obtain ⟨j, hj⟩ := List.getElem?_of_mem hm2
      have hji : j < i := by
        rcases Nat.lt_or_ge j i with q | q
        · exact q
        · rw [List.getElem?_take, if_neg (by omega)] at hj
          cases hj
      rw [List.getElem?_take_of_lt hji] at hj
      have := (List.getElem?_inj (by omega) nd).mp (hj.trans hn.symm)
      omega
  · by_cases hj : j < i
    · rw [List.getElem?_append_left (by rw [B.l]; exact hj)] at h2
      have h4 := B.r j m a h1 h2
      have aD : a ≠ D := fun z => by
        have hd := B.d
        rw [z, hd] at h4
        cases h4
      rw [upd_ne aD]
      exact s3 _ _ h4
    · have hlen : j < (bs ++ [l]).length := by
        rcases Nat.lt_or_ge j (bs ++ [l]).length with q | q
        · exact q
        · rw [List.getElem?_eq_none q] at h2
          cases h2
      rw [List.length_append, B.l] at hlen
      have hji : j = i := by
        simp at hlen
        omega
      subst hji
      rw [List.getElem?_append_right (by rw [B.l]; exact Nat.le_refl _), B.l] at h2
      have e4 : l = a := by simpa using h2
      rw [hn] at h1
      have e5 : n = m := Option.some.inj h1
      subst e4 e5
      rw [upd_ne lD, upd_same]
  · rcases List.mem_append.mp hb with z | z
    · exact B.f b z
    · have e : b = l := by simpa using z
      rw [e]
      exact B.s.free (s2.free hl2)
  · rw [List.nodup_append]
    refine ⟨B.n, by simp, fun a ha b hb z => ?_⟩
    have e : b = l := by simpa using hb
    rw [z, e] at ha
    obtain ⟨j, hj⟩ := List.getElem?_of_mem ha
    have hjl : j < bs.length := by
      rcases Nat.lt_or_ge j bs.length with q | q
      · exact q
      · rw [List.getElem?_eq_none q] at hj
        cases hj
    obtain ⟨m, hm⟩ : ∃ m, ys[j]? = some m := ⟨ys[j]'(by have := B.l; omega), List.getElem?_eq_getElem _⟩
    have h4 := s2 _ _ (B.r j m l hm hj)
    rw [hl2] at h4
    cases h4
/-- new rows: a dict and lists that did not stand in H0 -/
structure RowsF (H0 H1 : Hp) (D : Addr) (ys : List Str) (rw_ : Str → List Str) (bs : List Addr) : Prop where
  l : bs.length = ys.length
  d : H1 D = some (.dK ((ys.zip bs).map fun p => (Sum.inr p.1, V.ref p.2)))
  r : ∀ (j : Nat) (n : Str) (a : Addr), ys[j]? = some n → bs[j]? = some a → H1 a = some (.lst ((rw_ n).map V.str))
  fD : H0 D = none
  f : ∀ b ∈ bs, H0 b = none
  n : bs.Nodup
theorem RowsF.at_ {H0 H1 : Hp} {D : Addr} {ys : List Str} {rw_ : Str → List Str} {bs : List Addr} (F : RowsF H0 H1 D ys rw_ bs) : RowsAt H1 D ys rw_ := ⟨bs, F.l, F.d, F.r⟩
theorem RowsB.done {H0 H1 : Hp} {D : Addr} {ys : List Str} {rw_ : Str → List Str} {bs : List Addr} (hD : H0 D = none) (B : RowsB H0 H1 D ys rw_ ys.length bs) : RowsF H0 H1 D ys rw_ bs :=
  ⟨B.l, by have h := B.d; rw [List.take_length] at h; exact h, B.r, hD, B.f, B.n⟩
/-! ### the methods -/
def spPeople : Sp := fun vs H Q _ => ∃ (m C : Addr) (ns ys : List Str) (rw_ : Str → List Str), vs = [.ref m] ∧ MkAt H C m ns ys rw_ ∧ ∀ l, H l = none → Q (.ref l) (upd H l (.lst (ns.map V.str)))
def spWishes : Sp := fun vs H Q _ => ∃ (m C : Addr) (ns ys : List Str) (rw_ : Str → List Str), vs = [.ref m] ∧ MkAt H C m ns ys rw_ ∧ ns.Nodup ∧ ns.length ≤ 63 ∧ ∀ (H' : Hp) (D : Addr) (bs : List Addr), Same H H' → RowsF H H' D ys rw_ bs → Q (.ref D) H'
theorem scPeople : FnScope ["self"] ["self"] (defScope (sMk 1)) := ⟨rfl, rfl, rfl, by decide +kernel, rfl, by decide +kernel, by decide +kernel⟩
theorem scWishes : FnScope ["self", "name", "row"] ["self"] (defScope (sMk 2)) := ⟨rfl, rfl, rfl, by decide +kernel, rfl, by decide +kernel, by decide +kernel⟩
section
variable {P : Program} {w : World} {K : PySem.W.Frag} {mg : Str → Option Value} {base : Heap}
/-- what the class Market is -/
structure MkC (K : PySem.W.Frag) (C : Addr) : Prop where
  c : Cls K C
  n1 : NoAttr K C "_people"
  n2 : NoAttr K C "_rows"
theorem ok_people {f C0 : Addr} {fd : FuncData} (F : Fun K "people" "Market.people" (sMk 1) f fd) (MC : MkC K C0) (gL : mg "list" = none) : FnOk P w K mg base CX0 1 f fd ["self"] (fun vs H Q E => ∃ (m : Addr) (ns ys : List Str) (rw_ : Str → List Str), vs = [.ref m] ∧ MkAt H C0 m ns ys rw_ ∧ ∀ l, H l = none → Q (.ref l) (upd H l (.lst (ns.map V.str)))) := by
  refine F.ok scPeople (fun vs H Q E h => ?_) (fun cdv A outer s H vs Q E hr h => ?_)
  · obtain ⟨m, ns, ys, rw_, rfl, _⟩ := h
    rfl
  · obtain ⟨m, ns, ys, rw_, rfl, M, k⟩ := h
    obtain ⟨dx, pl, rd, hm, hp, hr2⟩ := M.ex
    refine ⟨_, pss_one (ps_ret (pe_callTy call_list_of rfl gL boot_list (pa_cons (pe_fld (pv 0) rfl) pa_nil))), ?_⟩
    exact ⟨_, rfl, m, C0, dx, _, _, rfl, hm, MC.c, MC.n1, rfl, pl, _, rfl, .inl (SqL.of hp), fun l hl => k l hl⟩
theorem ok_wishes {f C0 : Addr} {fd : FuncData} (F : Fun K "wishes" "Market.wishes" (sMk 2) f fd) (MC : MkC K C0) (gL : mg "list" = none) : FnOk P w K mg base CX0 1 f fd ["self"] (fun vs H Q E => ∃ (m : Addr) (ns ys : List Str) (rw_ : Str → List Str), vs = [.ref m] ∧ MkAt H C0 m ns ys rw_ ∧ ns.Nodup ∧ ns.length ≤ 63 ∧ ∀ (H' : Hp) (D : Addr) (bs : List Addr), Same H H' → RowsF H H' D ys rw_ bs → Q (.ref D) H') := by
  refine F.ok scWishes (fun vs H Q E h => ?_) (fun cdv A outer s H vs Q E hr h => ?_)
  · obtain ⟨m, ns, ys, rw_, rfl, _⟩ := h
    rfl
  · obtain ⟨m, ns, ys, rw_, rfl, M, hnod, hn, k⟩ := h
    obtain ⟨dx, pl, rd, hm, hp, as, ha, hrd, hrows⟩ := M.ex
    have hnd := scWishes.nd
    have ndY := M.pm.nodup_iff.mpr hnod
    have hly : ys.length ≤ 63 := by rw [M.pm.length_eq]; exact hn
    refine ⟨_, pss_one (ps_ret (pe_lock (pe_dc (own := [("name", 1), ("row", 2)]) (g := gTup K 2 (gCons (gName 1) (gCons (gName 2) gNil))) (tt := tYes) (tk := tVar 1) (tv := tCB (fun xs H Q => ∃ p ys, xs = [V.ref p] ∧ (SqL K H p ys ∨ SqT K H p ys) ∧ ∀ l, H l = none → Q (.ref l) (upd H l (.lst ys))) (tCons (tVar 2) tNil)) rfl hnd
      (pi_items (pe_fld (pv 0) rfl)) (blkOk_by (N := ["self", "name", "row"]) (sc := defScope (sMk 2)) (by decide +kernel))
      (fun _ _ _ _ _ => pg_tup rfl (pgs_cons (pg_name (i := 1) hnd rfl (Or.inl rfl)) (pgs_cons (pg_name (i := 2) hnd rfl (Or.inl rfl)) pgs_nil))) (fun _ _ _ _ _ => pts_nil) (fun _ _ _ _ _ => by exact pv 1)
      (fun _ _ _ _ _ => by exact pe_callTy call_list_of rfl gL boot_list (pa_cons (pv 2) pa_nil))))), ?_⟩
    refine ⟨rd, _, hrd, trivial, fun od => ?_⟩
    have nel : ∀ {b : Addr} {u : HO}, H b = some u → (∀ q, u ≠ .dK q) → b ≠ rd := fun {b u} e n z => by
      rw [z, hrd] at e
      exact n _ (Option.some.inj e).symm
    have keep : ∀ {b : Addr} {u : HO}, H b = some u → (∀ q, u ≠ .dK q) → upd H rd (.frz od (.dK ((ys.zip as).map fun p => (Sum.inr p.1, V.ref p.2)))) b = some u := fun {b u} e n => by
      rw [upd_ne (nel e n)]
      exact e
    refine ⟨_, rfl, m, C0, dx, _, _, rfl, keep hm (fun q z => by cases z), MC.c, MC.n2, rfl, rd, od, _, rfl, upd_same, fun D hD => ?_⟩
    have Dr : D ≠ rd := fun z => by
      rw [z, upd_same] at hD
      cases hD
    refine dc_it walk_items (fun i H' => ∃ bs, RowsB (upd H rd (.frz od (.dK ((ys.zip as).map fun p => (Sum.inr p.1, V.ref p.2))))) H' D ys rw_ i bs) ⟨[], .nil hD⟩ (fun i H' _ ⟨bs, B⟩ => B.s _ _ upd_same) ?_ ?_
    · rintro i x H2 H3 hi ⟨bs, B⟩ ⟨T0, x1, y1, rfl, nT0, rfl, e1, e2⟩
      rw [List.length_map, List.length_zip, ha, Nat.min_self] at hi
      obtain ⟨n, hnI⟩ : ∃ n, ys[i]? = some n := ⟨ys[i], List.getElem?_eq_getElem hi⟩
      obtain ⟨a, haI⟩ : ∃ a, as[i]? = some a := ⟨as[i]'(by omega), List.getElem?_eq_getElem _⟩
      have hz : ((ys.zip as).map fun p => ((Sum.inr p.1 : Key), V.ref p.2))[i]? = some (Sum.inr n, V.ref a) := by
        rw [List.getElem?_map, (List.getElem?_zip_eq_some (z := (n, a))).mpr ⟨hnI, haI⟩]
        rfl
      replace e1 : (((ys.zip as).map fun p => ((Sum.inr p.1 : Key), V.ref p.2))[i]?.map fun kv => kV kv.1) = some x1 := e1
      replace e2 : ((ys.zip as).map fun p => ((Sum.inr p.1 : Key), V.ref p.2))[i]?.map Prod.snd = some y1 := e2
      rw [hz] at e1 e2
      have e1' : V.str n = x1 := Option.some.inj e1
      have e2' : V.ref a = y1 := Option.some.inj e2
      subst e1' e2'
      have sT := sameUp (o := .tup [V.str n, V.ref a]) nT0
      have hrow := sT _ _ (B.s _ _ (keep (hrows i n a hnI haI) (fun q z => by cases z)))
      refine ⟨T0, _, rfl, SqT.of upd_same, rfl, _, _, rfl, _, _, rfl, rfl, rfl, ?_⟩
      refine ⟨_, rfl, _, rfl, a, _, rfl, .inl (SqL.of hrow), fun l hl => ?_⟩
      obtain ⟨kvs, q1, q2, q3⟩ := B.snoc ndY hly hD hnI sT hl
      exact ⟨kvs, Sum.inr n, rfl, q1, q2, _, q3⟩
    · rintro H2 ⟨bs, B⟩
      rw [List.length_map, List.length_zip, ha, Nat.min_self] at B
      have F2 := B.done hD
      have free : ∀ b, upd H rd (.frz od (.dK ((ys.zip as).map fun p => (Sum.inr p.1, V.ref p.2)))) b = none → H b = none := fun b z => by
        by_cases q : b = rd
        · rw [q, upd_same] at z
          cases z
        · rw [upd_ne q] at z
          exact z
      have brd : ∀ b, H b = none → b ≠ rd := fun b z q => by
        rw [q, hrd] at z
        cases z
      refine ⟨B.s _ _ upd_same, k _ D bs (fun b o e => ?_) ⟨F2.l, ?_, fun j n a h1 h2 => ?_, free _ F2.fD, fun b hb => free _ (F2.f b hb), F2.n⟩⟩
      · by_cases q : b = rd
        · rw [q, upd_same, ← hrd, ← q]
          exact e
        · rw [upd_ne q]
          exact B.s _ _ (by rw [upd_ne q]; exact e)
      · rw [upd_ne Dr]
        exact F2.d
      · rw [upd_ne (brd a (free _ (F2.f a (List.mem_of_getElem? h2))))]
        exact F2.r j n a h1 h2
end
end Mn
/-! Market.wants -/
namespace Mn
open PySem PySem.Spec PyProof.Rows L2 Md Me Ml LamX
theorem valV_zip {ys : List Str} {as : List Addr} (ha : as.length = ys.length) (nd : ys.Nodup) {i : Nat} {n : Str} {a : Addr} (h1 : ys[i]? = some n) (h2 : as[i]? = some a) : valV ((ys.zip as).map fun p => ((Sum.inr p.1 : Key), V.ref p.2)) (Sum.inr n) = some (.ref a) := by
  induction ys generalizing as i with
  | nil => simp at h1
  | cons y ys ih =>
    cases as with
    | nil => simp at ha
    | cons b as =>
      unfold valV
      rw [List.zip_cons_cons, List.map_cons, List.find?_cons]
      cases i with
      | zero =>
        have e1 : y = n := by simpa using h1
        have e2 : b = a := by simpa using h2
        subst e1 e2
        rw [decide_eq_true rfl]
        rfl
      | succ j =>
        have h1' : ys[j]? = some n := by simpa using h1
        have h2' : as[j]? = some a := by simpa using h2
        have ne : ¬ (Sum.inr y : Key) = Sum.inr n := fun z => by
          have e : y = n := Sum.inr.inj z
          rw [List.nodup_cons] at nd
          exact nd.1 (by rw [e]; exact List.mem_of_getElem? h1')
        rw [decide_eq_false ne]
        exact ih (by simpa using ha) (List.nodup_cons.mp nd).2 h1' h2'
theorem valV_zip_none {ys : List Str} {as : List Addr} {n : Str} (h : n ∉ ys) : valV ((ys.zip as).map fun p => ((Sum.inr p.1 : Key), V.ref p.2)) (Sum.inr n) = none := by
  unfold valV
  have e : ((ys.zip as).map fun p => ((Sum.inr p.1 : Key), V.ref p.2)).find? (fun kv => decide (kv.1 = Sum.inr n)) = none := by
    rw [List.find?_eq_none]
    intro kv hk z
    obtain ⟨⟨m, a⟩, hm, rfl⟩ := List.mem_map.mp hk
    have e : m = n := Sum.inr.inj (of_decide_eq_true z)
    rw [← e] at h
    exact h (List.of_mem_zip hm).1
  rw [e]
  rfl
theorem scWants : FnScope ["self", "person"] ["self", "person"] (defScope (sMk 3)) := ⟨rfl, rfl, rfl, by decide +kernel, rfl, by decide +kernel, by decide +kernel⟩
def spWants (K : PySem.W.Frag) (C0 : Addr) : Sp := fun vs H Q E => ∃ (m : Addr) (v : V) (ns ys : List Str) (rw_ : Str → List Str), vs = [.ref m, v] ∧ MkAt H C0 m ns ys rw_ ∧ ns.Nodup ∧
  ((∃ n, v = .str n ∧ n ∈ ns ∧ ∀ l, H l = none → Q (.ref l) (upd H l (.lst ((rw_ n).map V.str)))) ∨
   (((∃ x, v = .str x ∧ x ∉ ns) ∨ NoStr K H v) ∧ ∀ (H' : Hp) (d : Addr), Same H H' → H' d = some (.xd [("thing", v)]) → E (.ref (He.ga K "NoPerson")) (some d) H'))
section
variable {P : Program} {w : World} {K : PySem.W.Frag} {mg : Str → Option Value} {base : Heap}
theorem ok_wants {f fO C0 : Addr} {fd fdO fdN : FuncData} (F : Fun K "wants" "Market.wants" (sMk 3) f fd) (MC : MkC K C0) (GO : FnOk P w K mg base CX0 1 fO fdO ["thing", "names"] (spIsOne K)) (kO : PySem.W.keepIn K (.ref fO) = true) (bO : Binds K fdO ["thing", "names"] []) (gO : mg "is_one_of" = some (.ref fO))
    (BN : ExX K mg "NoPerson" "thing") (FN : FnOk P w K mg base CX0 1 (He.ma K (He.ga K "NoPerson") "__init__") fdN ["self", "thing"] (spI1 K "thing")) (bN : Binds K fdN ["self", "thing"] []) (gL : mg "list" = none) : FnOk P w K mg base (L2.CX P w) 3 f fd ["self", "person"] (spWants K C0) := by
  refine F.okX scWants (fun vs H Q E h => ?_) (fun cdv A outer s H vs Q E hr h => ?_)
  · obtain ⟨m, v, ns, ys, rw_, rfl, _⟩ := h
    rfl
  · obtain ⟨m, v, ns, ys, rw_, rfl, M, hnod, h⟩ := h
    have hu := hu_of hr
    obtain ⟨dx, pl, rd, hm, hp, as, ha, hrd, hrows⟩ := M.ex
    have ndY := M.pm.nodup_iff.mpr hnod
    refine ⟨_, pss_cons (ps_if (pt_not (pt_val (pe_call GO (hr.mono (by decide)) rfl gO kO bO .nil pass0 (pa_cons (pv 1) (pa_cons (pe_fld (pv 0) rfl) pa_nil))))) (pss_one (ps_raise rfl (takes_of rfl rfl rfl rfl) (pmk_oex BN.ox BN.iC BN.tI FN (hr.mono (by decide)) bN .nil pass0 rfl BN.g (pa_cons (pv 1) pa_nil)))) pss_nil)
      (pss_one (ps_ret (pe_callTy call_list_of rfl gL boot_list (pa_cons (pe_dget hu (pe_fld (pv 0) rfl) (pv 1) (fun _ _ => rfl)) pa_nil)))), ?_⟩
    rcases h with ⟨n, rfl, hn, k⟩ | ⟨hb, k⟩
    · obtain ⟨i, hi⟩ := List.getElem?_of_mem (M.pm.mem_iff.mpr hn)
      obtain ⟨a, haI⟩ : ∃ a, as[i]? = some a := ⟨as[i]'(by
        rcases Nat.lt_or_ge i ys.length with q | q
        · omega
        · rw [List.getElem?_eq_none q] at hi
          cases hi), List.getElem?_eq_getElem _⟩
      have hv := valV_zip ha ndY hi haI
      refine ⟨_, rfl, _, rfl, m, C0, dx, _, _, rfl, hm, MC.c, MC.n2, rfl, _, rd, rfl, .inl ⟨n, _, rfl, hrd, ?_⟩⟩
      rw [hv]
      refine ⟨true, rfl, iteF ?_⟩
      refine ⟨_, rfl, m, C0, dx, _, _, rfl, hm, MC.c, MC.n2, rfl, _, rfl, rd, .ref a, rfl, ?_, a, _, rfl, .inl (SqL.of (hrows i n a hi haI)), fun l hl => k l hl⟩
      rw [← hv]
      exact DGet.k (k := Sum.inr n) hrd
    · have fin : ∀ a, H a = none → spI1 K "thing" (.ref a :: ([v] ++ [])) (upd H a (exo a (He.ga K "NoPerson") none)) (fun u H2 => u = .non ∧ ∃ (d : Addr) (fs : List (Str × V)), H2 a = some (exo a (He.ga K "NoPerson") (some d)) ∧ H2 d = some (exd d fs) ∧ H d = none ∧ E (.ref (He.ga K "NoPerson")) (some d) (upd (del H2 a) d (.xd fs))) (fun _ _ _ => False) :=
        raised1 BN.ox BN.no fun H' d s n e => k H' d s e
      rcases hb with ⟨x, rfl, hx⟩ | hb
      · refine ⟨_, rfl, _, rfl, m, C0, dx, _, _, rfl, hm, MC.c, MC.n2, rfl, _, rd, rfl, .inl ⟨x, _, rfl, hrd, ?_⟩⟩
        rw [valV_zip_none (fun z => hx (M.pm.mem_iff.mp z))]
        exact ⟨false, rfl, iteT ⟨_, rfl, (show 1 ≤ 1000 by decide), fin⟩⟩
      · exact ⟨_, rfl, _, rfl, m, C0, dx, _, _, rfl, hm, MC.c, MC.n2, rfl, _, rd, rfl, .inr ⟨hb, false, rfl, iteT ⟨_, rfl, (show 1 ≤ 1000 by decide), fin⟩⟩⟩
end
end Mn
/-! Market.__eq__ -/
namespace Mn
open PySem PySem.Spec PyProof.Rows L2 Md Me Ml LamX
/-! ### lists of texts as data -/
theorem dp_strs {K : PySem.W.Frag} {H : Hp} : ∀ ns : List Str, DpAll K H (ns.map V.str) (ns.map PyData.str)
  | [] => .nil
  | n :: r => .cons (.str n) (dp_strs r)
def StrsOk (ns : List Str) : Prop := ∀ n ∈ ns, PyData.strOk n = true
theorem canLay_strs : ∀ ns : List Str, StrsOk ns → PyData.canLayAll0 (ns.map PyData.str) = true
  | [], _ => by simp [PyData.canLayAll0]
  | n :: r, h => by simp [PyData.canLayAll0, PyData.canLay0, canLay_strs r (fun m hm => h m (by simp [hm])), h n (by simp)]
theorem depth_strs : ∀ ns : List Str, PyData.depthAll (ns.map PyData.str) ≤ 1
  | [] => by simp [PyData.depthAll]
  | n :: r => by
    have := depth_strs r
    simp [PyData.depthAll, PyData.depth]
    omega
theorem shaped_strs {ns : List Str} (h : StrsOk ns) : SeqAt.shaped (.list (ns.map PyData.str)) = true := by
  have h1 := canLay_strs ns h
  have h2 := depth_strs ns
  simp [SeqAt.shaped, PyData.canLay0, PyData.depth, h1]
  omega
theorem eqvAll_strs : ∀ ns ms : List Str, PyData.eqvAll (ns.map PyData.str) (ms.map PyData.str) = decide (ns = ms)
  | [], [] => by simp [PyData.eqvAll]
  | [], m :: ms => by simp [PyData.eqvAll]
  | n :: ns, [] => by simp [PyData.eqvAll]
  | n :: ns, m :: ms => by
    have ih := eqvAll_strs ns ms
    simp only [List.map_cons, PyData.eqvAll, PyData.eqv, ih]
    by_cases h : n = m
    · by_cases h2 : ns = ms
      · simp [h, h2]
      · simp [h, h2]
    · simp [h]
theorem eqv_strs (ns ms : List Str) : PyData.eqv (.list (ns.map PyData.str)) (.list (ms.map PyData.str)) = decide (ns = ms) := by
  simp only [PyData.eqv]
  exact eqvAll_strs ns ms
/-! ### dicts of lists of texts compared -/
/-- the value of an entry against the other dict's -/
def RowEqB (H : Hp) (ls : List (Key × V)) (p : Key × V) (b : Bool) : Prop := ∃ (a q : Addr) (r r' : List Str), p.2 = .ref a ∧ valV ls p.1 = some (.ref q) ∧ H a = some (.lst (r.map V.str)) ∧ H q = some (.lst (r'.map V.str)) ∧ StrsOk r ∧ StrsOk r' ∧ b = decide (r = r')
def rEqRows : R2 := fun x y H Q => ∃ a b ks ls bs, x = .ref a ∧ y = .ref b ∧ H a = some (.dK ks) ∧ H b = some (.dK ls) ∧ ks.length = ls.length ∧ Paired (RowEqB H ls) ks bs ∧ Q (.bl (bs.all id)) H
section
variable {X : Cx}
theorem hits_rows {pins : List (Addr × Obj)} {σ : L2.St} {H : Hp} {s : Shared} (I : Inv X pins σ H s) (hu : X.A.in1.units + 64 < cLine) {ls : List (Key × V)} {vb : List (Key × Value)} (rb : KV ls vb) {ks : List (Key × V)} {va : List (Key × Value)} (ra : KV ks va) :
    ∀ {bs : List Bool}, Paired (RowEqB H ls) ks bs → PySem.W.KeqHitsP X.prog X.w X.A.in1 s vb va (bs.all id) := by
  unfold KV at ra
  induction ra with
  | nil =>
    intro bs hp
    cases hp
    exact .nil
  | @cons p q ps qs h t k =>
    intro bs hp
    cases hp with
    | @cons _ b _ bs hb hp =>
      obtain ⟨h1, h2⟩ := h
      obtain ⟨a, q', r, r', e1, e2, ha, hq, o1, o2, rfl⟩ := hb
      have rr : RelO (some (.ref q')) (valueAt vb p.1) := by
        rw [← e2]
        exact rb.val p.1
      obtain ⟨y, hy, ry⟩ := rr.some_of
      obtain ⟨key, v⟩ := q
      have h1' : p.1 = key := h1
      rw [h1'] at hy
      rw [List.all_cons]
      obtain ⟨as, r1⟩ := Dp.reads I _ _ v (.lst (SqL.of ha) (dp_strs r)) (by rw [← e1]; exact h2)
      obtain ⟨cs, r2⟩ := Dp.reads I _ _ y (.lst (SqL.of hq) (dp_strs r')) ry
      refine .hit hy (fun E Q hq => ?_) (k hp)
      have z := PySem.W.keq_at r1 r2 (shaped_strs o1) (shaped_strs o2) hu
      rw [eqv_strs] at z
      exact z X.prog X.w E Q hq
theorem op_eqRows (hu : X.A.units + 66 < cLine) : OpR X (compareOp .Eq) rEqRows := by
  intro pins s σ H x y v u Q I rx ry h
  obtain ⟨a, b, ks, ls, bs, rfl, rfl, ea, eb, hlen, hp, q⟩ := h
  obtain rfl : v = Value.ref a := rx
  obtain rfl : u = Value.ref b := ry
  obtain ⟨_, ya, va, ra, da⟩ := (show ObjOk X.prog X.w H s.heap a (.dK ks) from I.hok a _ ea)
  obtain ⟨_, yb, vb, rb, db⟩ := (show ObjOk X.prog X.w H s.heap b (.dK ls) from I.hok b _ eb)
  have hl : va.length = vb.length := by
    rw [← ra.length, ← rb.length]
    exact hlen
  refine PySem.W.rcP_dicts (knd := mixKind X.prog X.w) (r := bs.all id) ya yb da db (by omega) (fun _ => hits_rows I (by show X.A.units + 1 + 64 < cLine; omega) rb ra hp) _ _ ?_
  refine ⟨.bl (bs.all id), H, I, ?_, q⟩
  show _ = Value.bool (bs.all id)
  rw [hl]
  simp
end
end Mn
/-! Market.__eq__, ==, != -/
namespace Mn
open PySem PySem.Spec PyProof.Rows L2 Md Me Ml LamX
/-- what isinstance and == ask of the class Market -/
structure MkE (K : PySem.W.Frag) (C f : Addr) : Prop where
  c : MkC K C
  cc : PySem.W.findIn K (.ref C) "__class__" = some (some (.builtin "object.__class__"))
  gd : PySem.W.specialIn K (.builtin "object.__class__") "__get__" = some (some (.builtin "getset_descriptor.__get__"))
  tk : PySem.W.takesIn K (.builtin "object.__class__") = some true
  mo : PySem.W.mroIn K C (.type "object") = some true
  eq : PySem.W.findIn K (.ref C) "__eq__" = some (some (.ref f))
  fn : PySem.W.isFn K (.ref f) = true
  ne : PySem.W.findIn K (.ref C) "__ne__" = some (some (.builtin "object.__ne__"))
theorem MkE.ty {K : PySem.W.Frag} {C f a dx : Addr} {H : Hp} {fs : List (Str × V)} (M : MkE K C f) (h : H a = some (.ins C dx fs)) : TyX K H (.ref a) (.ref C) := .base (.ins h M.c.c M.cc M.gd M.tk M.mo)
theorem kit_self {K : PySem.W.Frag} {C : Addr} : PySem.W.kitOne K (.ref C) (.ref C) = some true := by
  unfold PySem.W.kitOne
  rw [if_pos (by simp)]
def eqM (ns : List Str) (rw1 : Str → List Str) (ns' : List Str) (rw2 : Str → List Str) : Bool := decide (ns = ns') && ns.all fun n => decide (rw1 n = rw2 n)
/-- names and rows that are texts of signs -/
structure MkOk (ns : List Str) (rw_ : Str → List Str) : Prop where
  nd : ns.Nodup
  ok : StrsOk ns
  rk : ∀ n ∈ ns, StrsOk (rw_ n)
def spEqM (K : PySem.W.Frag) (C0 : Addr) : Sp := fun vs H Q _ => ∃ (m : Addr) (y : V) (ns ys : List Str) (rw_ : Str → List Str), vs = [.ref m, y] ∧ MkAt H C0 m ns ys rw_ ∧ MkOk ns rw_ ∧
  ((∃ t, TyX K H y t ∧ PySem.W.kitOne K t (.ref C0) = some false ∧ Q (.bl false) H) ∨
   ∃ (m' : Addr) (ns' ys' : List Str) (rw' : Str → List Str), y = .ref m' ∧ MkAt H C0 m' ns' ys' rw' ∧ MkOk ns' rw' ∧ Q (.bl (eqM ns rw_ ns' rw')) H)
theorem scEq : FnScope ["self", "other"] ["self", "other"] (defScope (sMk 4)) := ⟨rfl, rfl, rfl, by decide +kernel, rfl, by decide +kernel, by decide +kernel⟩
theorem all_perm {α : Type} {p : α → Bool} {l1 l2 : List α} (h : l1.Perm l2) : l1.all p = l2.all p := by
  rw [Bool.eq_iff_iff, List.all_eq_true, List.all_eq_true]
  exact ⟨fun k x hx => k x (h.mem_iff.mpr hx), fun k x hx => k x (h.mem_iff.mp hx)⟩
theorem rows_paired {H : Hp} {ns ys' : List Str} {rw1 rw2 : Str → List Str} {as' : List Addr} (ha' : as'.length = ys'.length) (nd' : ys'.Nodup) (h' : ∀ (i : Nat) (n : Str) (a : Addr), ys'[i]? = some n → as'[i]? = some a → H a = some (.lst ((rw2 n).map V.str))) (ok : ∀ n ∈ ns, StrsOk (rw1 n) ∧ StrsOk (rw2 n)) :
    ∀ (ys : List Str) (as : List Addr), as.length = ys.length → (∀ n ∈ ys, n ∈ ns ∧ n ∈ ys') → (∀ (i : Nat) (n : Str) (a : Addr), ys[i]? = some n → as[i]? = some a → H a = some (.lst ((rw1 n).map V.str))) →
    Paired (RowEqB H ((ys'.zip as').map fun p => (Sum.inr p.1, V.ref p.2))) ((ys.zip as).map fun p => (Sum.inr p.1, V.ref p.2)) (ys.map fun n => decide (rw1 n = rw2 n))
  | [], [], _, _, _ => .nil
  | [], _ :: _, h, _, _ => by simp at h
  | _ :: _, [], h, _, _ => by simp at h
  | y :: ys, a :: as, ha, hm, hr => by
    refine .cons ?_ (rows_paired ha' nd' h' ok ys as (by simpa using ha) (fun n hn => hm n (by simp [hn])) fun i n b h1 h2 => hr (i + 1) n b (by simpa using h1) (by simpa using h2))
    obtain ⟨i, hi⟩ := List.getElem?_of_mem (hm y (by simp)).2
    have hil : i < ys'.length := by
      rcases Nat.lt_or_ge i ys'.length with q | q
      · exact q
      · rw [List.getElem?_eq_none q] at hi
        cases hi
    obtain ⟨q, hq⟩ : ∃ q, as'[i]? = some q := ⟨as'[i]'(by omega), List.getElem?_eq_getElem _⟩
    obtain ⟨o1, o2⟩ := ok y (hm y (by simp)).1
    exact ⟨a, q, rw1 y, rw2 y, rfl, valV_zip ha' nd' hi hq, hr 0 y a rfl rfl, h' i y q hi hq, o1, o2, rfl⟩
section
variable {P : Program} {w : World} {K : PySem.W.Frag} {mg : Str → Option Value} {base : Heap}
theorem ok_eq {f C0 : Addr} {fd : FuncData} (F : Fun K "__eq__" "Market.__eq__" (sMk 4) f fd) (M : MkE K C0 f) (gM : mg "Market" = some (.ref C0)) (gI : mg "isinstance" = none) : FnOk P w K mg base CX0 1 f fd ["self", "other"] (spEqM K C0) := by
  refine F.ok scEq (fun vs H Q E h => ?_) (fun cdv A outer s H vs Q E hr h => ?_)
  · obtain ⟨m, y, ns, ys, rw_, rfl, _⟩ := h
    rfl
  · obtain ⟨m, y, ns, ys, rw_, rfl, A1, ok1, h⟩ := h
    have hu66 : A.units + 3 + 66 < cLine := by
      have := hr.un
      exact Nat.lt_of_le_of_lt (by show A.units + 3 + 66 ≤ A.units + 3 + 16 * 0 + 200; omega) this
    have hu64 : A.units + 3 + 64 < cLine := by omega
    refine ⟨_, pss_one (ps_ret (pe_and (pe_callB call_isi (by rfl) gI boot_isinstance (pa_cons (pv 1) (pa_cons (pe_glob rfl gM (v := .ref C0) rfl) pa_nil)))
      (pe_and (pe_cmpR (op_eqD hu64) (pe_fld (pv 0) rfl) (pe_fld (pv 1) rfl) (nomark _)) (pe_one (pe_cmpR (op_eqRows hu66) (pe_fld (pv 0) rfl) (pe_fld (pv 1) rfl) (nomark _)))))), ?_⟩
    obtain ⟨dx, pl, rd, hm, hp, as, ha, hrd, hrows⟩ := A1.ex
    rcases h with ⟨t, ty, e, k⟩ | ⟨m', ns', ys', rw', rfl, A2, ok2, k⟩
    · exact ⟨_, rfl, _, _, _, _, false, rfl, .own _, ty, e, false, rfl, iteF k⟩
    · obtain ⟨dx', pl', rd', hm', hp', as', ha', hrd', hrows'⟩ := A2.ex
      refine ⟨_, rfl, _, _, _, _, true, rfl, .own _, M.ty hm', kit_self, true, rfl, iteT ?_⟩
      refine ⟨_, rfl, m, C0, dx, _, _, rfl, hm, M.c.c, M.c.n1, rfl, _, rfl, m', C0, dx', _, _, rfl, hm', M.c.c, M.c.n1, rfl, _, _, .lst (SqL.of hp) (dp_strs ns), .lst (SqL.of hp') (dp_strs ns'), shaped_strs ok1.ok, shaped_strs ok2.ok, _, rfl, ?_⟩
      rw [eqv_strs]
      by_cases hns : ns = ns'
      · subst hns
        rw [decide_eq_true rfl]
        refine iteT ⟨_, rfl, m, C0, dx, _, _, rfl, hm, M.c.c, M.c.n2, rfl, _, rfl, m', C0, dx', _, _, rfl, hm', M.c.c, M.c.n2, rfl, rd, rd', _, _, _, rfl, rfl, hrd, hrd', ?_,
          rows_paired (ns := ns) ha' (A2.pm.nodup_iff.mpr ok1.nd) hrows' (fun n hn => ⟨ok1.rk n hn, ok2.rk n hn⟩) ys as ha (fun n hn => ⟨A1.pm.mem_iff.mp hn, A2.pm.mem_iff.mpr (A1.pm.mem_iff.mp hn)⟩) hrows, ?_⟩
        · rw [List.length_map, List.length_map, List.length_zip, List.length_zip, ha, ha', Nat.min_self, Nat.min_self, A1.pm.length_eq, A2.pm.length_eq]
        · have e : (ys.map fun n => decide (rw_ n = rw' n)).all id = eqM ns rw_ ns rw' := by
            unfold eqM
            rw [decide_eq_true rfl, Bool.true_and, ← all_perm A1.pm, List.all_map]
            rfl
          rw [e]
          exact k
      · rw [decide_eq_false hns]
        have e : eqM ns rw_ ns' rw' = false := by
          unfold eqM
          rw [decide_eq_false hns]
          rfl
        rw [e] at k
        exact iteF k
end
/-! ### x == y, x != y -/
/-- the type of the right side -/
inductive TyR (H : Hp) : V → Value → Prop
  | lst {a : Addr} {xs : List V} (h : H a = some (.lst xs)) : TyR H (.ref a) (.type "list")
  | tup {a : Addr} {xs : List V} (h : H a = some (.tup xs)) : TyR H (.ref a) (.type "tuple")
  | dic {a : Addr} {xs : List (Key × V)} (h : H a = some (.dK xs)) : TyR H (.ref a) (.type "dict")
  | ins {a C dx : Addr} {fs : List (Str × V)} (h : H a = some (.ins C dx fs)) : TyR H (.ref a) (.ref C)
section
variable {X : Cx} {pins : List (Addr × Obj)} {σ : L2.St} {H : Hp} {s : Shared}
theorem TyR.looks {y : V} {t u : Value} (I : Inv X pins σ H s) (h : TyR H y t) (r : RelV y u) : PySem.W.Looks (model X.prog X.w) s.heap (typeOf u) t := by
  cases h with
  | @lst a xs h =>
    cases (show u = Value.ref a from r)
    obtain ⟨_, _, n, _, h1⟩ := (show ObjOk X.prog X.w H s.heap a (.lst xs) from I.hok a _ h)
    exact fun A Q E s k q => wpAny_typeOf_ref (k _ _ h1) q
  | @tup a xs h =>
    cases (show u = Value.ref a from r)
    obtain ⟨_, _, _, o, h1, h2, _⟩ := (show ObjOk X.prog X.w H s.heap a (.tup xs) from I.hok a _ h)
    exact fun A Q E s k q => wpAny_typeOf_ref (k _ _ h1) (by rw [h2]; exact q)
  | @dic a xs h =>
    cases (show u = Value.ref a from r)
    obtain ⟨_, _, vs, _, o, es, ep, h1, h2, _⟩ := (show ObjOk X.prog X.w H s.heap a (.dK xs) from I.hok a _ h)
    exact fun A Q E s k q => wpAny_typeOf_ref (k _ _ h1) (by rw [h2.1]; exact q)
  | @ins a C dx fs h =>
    cases (show u = Value.ref a from r)
    obtain ⟨mA, O, _⟩ := ins_get I.hok h
    obtain ⟨od, J, _⟩ := O.look
    exact J.type
end
end Mn
namespace Mn
open PySem PySem.Spec PyProof.Rows L2 Md Me Ml LamX
section
variable {M : Model} {prog : Program} {w : World} {A : Around} {E : Value → Shared → Prop} {s : Shared} {K : PySem.W.Frag} {x C f : Addr} {ox : Obj} {od : Option Obj}
theorem ifBound_objNe {args : List Value} {Q : Option Value → Shared → Prop} (X : K.In s.heap) (I : PySem.W.InstAt s.heap x ox C od) (hs : PySem.W.findIn K (.ref C) "__ne__" = some (some (.builtin "object.__ne__")))
    (h : wpAny M A (call (.builtin "object.__ne__") (.ref x :: args)) (fun v => Q (some v)) E s) : wpAny M A (callSpecialIfBound? (.ref x) "__ne__" args) Q E s := by
  simp only [callSpecialIfBound?, bindSpecialIfBound?]
  refine wpAny_holding (wpAny_bind (wpAny_bind (wpAny_bind (I.type.here ((PySem.W.looks_findIn X hs).here ?_)))))
  refine wpAny_bind (wpAny_askSetting (wpAny_ite ?_))
  have fin : wpAny M A (call (.builtin "object.__ne__") ([.ref x] ++ args) >>= fun v => pure (some v)) Q E s := wpAny_bind (wpAny_mono h (fun v s' h' => wpAny_pure h') fun _ _ h' => h')
  split
  · exact wpAny_bind (wpAny_of_eq (F.cmp_object.ne.bind _) (wpAny_pure (by exact fin)))
  · exact wpAny_tryCatch (wpAny_bind (wpAny_of_eq (F.cmp_object.ne.bind _) (wpAny_pure (by exact fin))))
theorem entry_ne {b : Value} {Q : Fin → Shared → Prop} (X : K.In s.heap) (I : PySem.W.InstAt s.heap x ox C od) (hs : PySem.W.findIn K (.ref C) "__eq__" = some (some (.ref f))) (hf : PySem.W.isFn K (.ref f) = true) (hu : A.units < cLine)
    (h : wpAny (model prog w) A (call (.ref f) [.ref x, b]) (fun v s' => ∃ k, v = .bool k ∧ Q (.done (.ret (.bool (!k)))) s') E s) : wpAny (model prog w) A (Builtin.«object.__ne__» ⟨[.ref x, b], []⟩) Q E s := by
  unfold Builtin.«object.__ne__»
  repeat (first
    | with_reducible refine wpAny_cRoomFor hu ?_
    | (refine wpAny_bind (m := callSpecialIfBound? (.ref x) (Str.ofString "__eq__") [b])
        (PySem.W.ifBound_K X I hs hf (wpAny_mono h (fun r s' hr => by
          obtain ⟨k, rfl, hq⟩ := hr
          repeat (first | exact hq | exact wpAny_pure hq | exact wpAny_truthy_bool hq | (refine wpAny_bind (m := truthy (.bool _)) (wpAny_truthy_bool ?_)) | wp_step)) fun _ _ e => e)))
    | wp_step)
theorem cmp_ne {h₀ : Heap} {L : Addr} {m : Str → Option Value} {b tb : Value} {Q : Value → Shared → Prop} (hu : A.units + 1 < cLine) (F0 : Fr h₀ L s.heap m) (X₀ : K.In h₀) (I : PySem.W.InstAt s.heap x ox C od) (hb : PySem.W.Looks (model prog w) s.heap (typeOf b) tb) (hn : PySem.W.notFirst K C tb = true)
    (hm : PySem.W.mroIn K C (.type "object") = some true) (hne : PySem.W.findIn K (.ref C) "__ne__" = some (some (.builtin "object.__ne__"))) (hs : PySem.W.findIn K (.ref C) "__eq__" = some (some (.ref f))) (hf : PySem.W.isFn K (.ref f) = true)
    (h : wpAny (model prog w) A.in1 (call (.ref f) [.ref x, b]) (fun v s' => ∃ k, v = .bool k ∧ Q (.bool (!k)) s') E s) : wpAny (model prog w) A (richCompare .NotEq (.ref x) b) Q E s := by
  have X := X₀.keeps F0.keep
  have one : wpAny (model prog w) A (tryCompare (.ref x) (cmpInfo .NotEq).2.1 b) (fun r s' => ∃ v, r = some v ∧ Q v s') E s := by
    unfold tryCompare
    refine wpAny_bind (ifBound_objNe X I hne (wpAny_call (codeAny_call_builtin F.cmp_object.ne.plain F.cmpEntry_ne (PySem.W.check_slot F.cmpKind_ne F.cmpSplit_ne (I.type.andThen (PySem.W.looks_mroIn X hm)) (F.cmpArgs_ne _ _)
      (entry_ne (A := A.in1) X I hs hf (by show A.units + 1 < cLine; exact hu) (wpAny_mono h (fun v s' hv => ?_) fun _ _ e => e))))))
    obtain ⟨k, rfl, hq⟩ := hv
    first | exact ⟨k, rfl, wpAny_pure ⟨_, rfl, hq⟩⟩ | exact ⟨k, rfl, _, rfl, hq⟩
  unfold richCompare
  simp only [oneThing_ref]
  refine wpAny_holding (wpAny_bind (wpAny_cRoomFor (Nat.lt_of_succ_lt hu) ?_))
  refine wpAny_bind (I.type.here (wpAny_bind (hb.here ?_)))
  split
  · rename_i q
    have e : PySem.W.subIn K tb (.ref C) = some false := by
      rcases Bool.or_eq_true_iff.mp hn with e | e
      · rw [beq_iff_eq.mp e] at q
        simp at q
      · exact beq_iff_eq.mp e
    refine wpAny_bind ((PySem.W.looks_subIn X e).here ?_)
    simp only [Bool.false_eq_true, if_false]
    refine wpAny_bind (wpAny_mono one (fun r s' z => ?_) fun _ _ e => e)
    obtain ⟨v, rfl, hq⟩ := z
    exact wpAny_pure hq
  · refine wpAny_bind (wpAny_pure ?_)
    simp only [Bool.false_eq_true, if_false]
    refine wpAny_bind (wpAny_mono one (fun r s' z => ?_) fun _ _ e => e)
    obtain ⟨v, rfl, hq⟩ := z
    exact wpAny_pure hq
end
def rOwn (K : PySem.W.Frag) (C0 : Addr) (neg : Bool) : R2 := fun x y H Q => ∃ (a dx : Addr) (fs : List (Str × V)) (tb : Value), x = .ref a ∧ H a = some (.ins C0 dx fs) ∧ TyR H y tb ∧ PySem.W.notFirst K C0 tb = true ∧
  spEqM K C0 [.ref a, y] H (fun v H' => ∃ b, v = .bl b ∧ Q (.bl (if neg then !b else b)) H') E0
section
variable {X : Cx} {C0 f : Addr} {fd : FuncData} {n : Nat}
theorem callEq (F : FnOk X.prog X.w X.K X.mg X.base CX0 n f fd ["self", "other"] (spEqM X.K C0)) (hb : Binds X.K fd ["self", "other"] []) {A : Around} {pins : List (Addr × Obj)} {σ : L2.St} {H : Hp} {s : Shared} {a : Addr} {y : V} {u : Value} {Qv : VK} (hr : Room n A) (hfr : A.frames = X.A.frames)
    (I : Inv X pins σ H s) (ry : RelV y u) (hsp : spEqM X.K C0 [.ref a, y] H Qv E0) : wpAny (model X.prog X.w) A (call (.ref f) [.ref a, u]) (EP X pins σ Qv) X.xe s := by
  have e0 : Env0 X.prog X.w X.K X.mg X.base A X.stack s H := by
    have e := I.env0
    exact ⟨by rw [hfr]; exact e.frames, e.mod, e.bs, e.bsz, e.funs, e.frf, e.hok, e.bare⟩
  have r2 : Vals [V.ref a, y] [Value.ref a, u] := .cons rfl (.cons ry .nil)
  refine wpAny_call (codeAny_mono (F.run A X.stack s H ⟨[.ref a, u], []⟩ [.ref a, u] [.ref a, y] Qv E0 hr e0 (by
    have := hb s [.ref a, u] I.kIn rfl
    simpa using this) r2 hsp) fun r s' hq => ?_)
  cases r with
  | error e => exact (show False from hq).elim
  | ok fl =>
    cases fl with
    | ret w => exact I.after hq
    | next => exact False.elim hq
    | brk => exact False.elim hq
    | cont => exact False.elim hq
theorem op_eqM (F : FnOk X.prog X.w X.K X.mg X.base CX0 n f fd ["self", "other"] (spEqM X.K C0)) (hb : Binds X.K fd ["self", "other"] []) (M : MkE X.K C0 f) (hr : Room n X.A) : OpR X (compareOp .Eq) (rOwn X.K C0 false) := by
  intro pins s σ H x y v u Q I rx ry h
  obtain ⟨a, dx, fs, tb, rfl, ha, ty, nf, hsp⟩ := h
  obtain rfl : v = Value.ref a := rx
  obtain ⟨mA, J, _⟩ := ins_get I.hok ha
  obtain ⟨od, J, _⟩ := J.look
  obtain ⟨m, hF⟩ := I.fr
  refine PySem.W.cmp_K (op := .Eq) (tb := tb) hr.units0 hF I.ok.mod.kin J (ty.looks I ry) nf M.eq M.fn ?_
  refine wpAny_mono (callEq F hb hr rfl I ry hsp) (fun r s' hq => ?_) fun _ _ e => e
  obtain ⟨z, H', I', rz, b, rfl, q⟩ := hq
  obtain rfl : r = Value.bool b := rz
  exact ⟨.bl b, H', I', rfl, q⟩
theorem op_neM (F : FnOk X.prog X.w X.K X.mg X.base CX0 n f fd ["self", "other"] (spEqM X.K C0)) (hb : Binds X.K fd ["self", "other"] []) (M : MkE X.K C0 f) (hr : Room (n + 1) X.A) : OpR X (compareOp .NotEq) (rOwn X.K C0 true) := by
  intro pins s σ H x y v u Q I rx ry h
  obtain ⟨a, dx, fs, tb, rfl, ha, ty, nf, hsp⟩ := h
  obtain rfl : v = Value.ref a := rx
  obtain ⟨mA, J, _⟩ := ins_get I.hok ha
  obtain ⟨od, J, _⟩ := J.look
  obtain ⟨m, hF⟩ := I.fr
  have hu := hu_of hr
  refine cmp_ne (tb := tb) hu hF I.ok.mod.kin J (ty.looks I ry) nf M.mo M.ne M.eq M.fn ?_
  refine wpAny_mono (callEq F hb hr.in1 rfl I ry hsp) (fun r s' hq => ?_) fun _ _ e => e
  obtain ⟨z, H', I', rz, b, rfl, q⟩ := hq
  obtain rfl : r = Value.bool b := rz
  exact ⟨b, rfl, .bl (!b), H', I', rfl, q⟩
end
end Mn
/-! _law_same -/
namespace Mn
open PySem PySem.Spec PyProof.Rows L2 Md Me Ml LamX
abbrev sSame : Stmt := top 45
/-- what isinstance tells of a value: list, tuple, dict, int, bool -/
structure Ans (K : PySem.W.Frag) (H : Hp) (v : V) (l t d i b : Bool) : Prop where
  ex : ∃ ty, TyX K H v ty ∧ PySem.W.kitOne K ty (.type "list") = some l ∧ PySem.W.kitOne K ty (.type "tuple") = some t ∧ PySem.W.kitOne K ty (.type "dict") = some d ∧ PySem.W.kitOne K ty (.type "int") = some i ∧ PySem.W.kitOne K ty (.type "bool") = some b
theorem kitAny2 {K : PySem.W.Frag} {ty c1 c2 : Value} {a b : Bool} (h1 : PySem.W.kitOne K ty c1 = some a) (h2 : PySem.W.kitOne K ty c2 = some b) : PySem.W.kitAny K ty [c1, c2] = some (a || b) :=
  kitAny_cons h1 (fun z => by subst z; exact kitAny_cons h2 (fun z => by subst z; rfl) (fun z => by rw [z]; rfl)) (fun z => by rw [z]; rfl)
theorem kitAny4 {K : PySem.W.Frag} {ty c1 c2 c3 c4 : Value} {a b c d : Bool} (h1 : PySem.W.kitOne K ty c1 = some a) (h2 : PySem.W.kitOne K ty c2 = some b) (h3 : PySem.W.kitOne K ty c3 = some c) (h4 : PySem.W.kitOne K ty c4 = some d) :
    PySem.W.kitAny K ty [c1, c2, c3, c4] = some (a || (b || (c || d))) :=
  kitAny_cons h1 (fun z => by
    subst z
    exact kitAny_cons h2 (fun z => by
      subst z
      exact (kitAny2 h3 h4 : _ = some (c || d))) (fun z => by rw [z]; rfl)) (fun z => by rw [z]; rfl)
/-- the class Market is none of these -/
structure MkT (K : PySem.W.Frag) (C : Addr) : Prop where
  l : PySem.W.kitOne K (.ref C) (.type "list") = some false
  t : PySem.W.kitOne K (.ref C) (.type "tuple") = some false
  d : PySem.W.kitOne K (.ref C) (.type "dict") = some false
  i : PySem.W.kitOne K (.ref C) (.type "int") = some false
  b : PySem.W.kitOne K (.ref C) (.type "bool") = some false
  s : PySem.W.kitOne K (.ref C) (.type "str") = some false
section
variable {K : PySem.W.Frag} {H : Hp}
theorem ans_non : Ans K H .non false false false false false := ⟨_, .base .non, kit_ty (by decide +kernel), kit_ty (by decide +kernel), kit_ty (by decide +kernel), kit_ty (by decide +kernel), kit_ty (by decide +kernel)⟩
theorem ans_str {x : Str} : Ans K H (.str x) false false false false false := ⟨_, .base (.str x), kit_ty (by decide +kernel), kit_ty (by decide +kernel), kit_ty (by decide +kernel), kit_ty (by decide +kernel), kit_ty (by decide +kernel)⟩
theorem ans_int {x : Int} : Ans K H (.int x) false false false true false := ⟨_, .base (.int x), kit_ty (by decide +kernel), kit_ty (by decide +kernel), kit_ty (by decide +kernel), kit_ty (by decide +kernel), kit_ty (by decide +kernel)⟩
theorem ans_bl {x : Bool} : Ans K H (.bl x) false false false true true := ⟨_, .base (.bl x), kit_ty (by decide +kernel), kit_ty (by decide +kernel), kit_ty (by decide +kernel), kit_ty (by decide +kernel), kit_ty (by decide +kernel)⟩
theorem ans_lst {a : Addr} {xs : List V} (h : H a = some (.lst xs)) : Ans K H (.ref a) true false false false false := ⟨_, .base (.lst h), kit_ty (by decide +kernel), kit_ty (by decide +kernel), kit_ty (by decide +kernel), kit_ty (by decide +kernel), kit_ty (by decide +kernel)⟩
theorem ans_tup {a : Addr} {xs : List V} (h : H a = some (.tup xs)) : Ans K H (.ref a) false true false false false := ⟨_, .base (.tup h), kit_ty (by decide +kernel), kit_ty (by decide +kernel), kit_ty (by decide +kernel), kit_ty (by decide +kernel), kit_ty (by decide +kernel)⟩
theorem ans_dK {a : Addr} {xs : List (Key × V)} (h : H a = some (.dK xs)) : Ans K H (.ref a) false false true false false := ⟨_, .base (.dK h), kit_ty (by decide +kernel), kit_ty (by decide +kernel), kit_ty (by decide +kernel), kit_ty (by decide +kernel), kit_ty (by decide +kernel)⟩
theorem ans_mk {a C f dx : Addr} {fs : List (Str × V)} (M : MkE K C f) (T : MkT K C) (h : H a = some (.ins C dx fs)) : Ans K H (.ref a) false false false false false := ⟨_, M.ty h, T.l, T.t, T.d, T.i, T.b⟩
end
/-- the type of a value, also of a dict of one odd key -/
inductive TyY (K : PySem.W.Frag) (H : Hp) : V → Value → Prop
  | x {v : V} {t : Value} (h : TyX K H v t) : TyY K H v t
  | od {d : Addr} {o : Obj} {k x : V} (h : H d = some (Mo.Od d o k x)) : TyY K H (.ref d) (.type "dict")
def rIsiY (K : PySem.W.Frag) : List V → Hp → VK → Prop := fun xs H Q => ∃ (x c : V) (t u : Value) (b : Bool), xs = [x, c] ∧ ClsV c u ∧ TyY K H x t ∧ PySem.W.kitOne K t u = some b ∧ Q (.bl b) H
def rIsiTY (K : PySem.W.Frag) : List V → Hp → VK → Prop := fun xs H Q => ∃ (x : V) (tp : Addr) (cs : List V) (t : Value) (us : List Value) (b : Bool), xs = [x, .ref tp] ∧ H tp = some (.tup cs) ∧ Paired ClsV cs us ∧ TyY K H x t ∧ PySem.W.kitAny K t us = some b ∧ Q (.bl b) H
theorem call_isiY {X : Cx} : CallR X (.builtin "isinstance") (rIsiY X.K) := by
  intro pins s σ H xs us Q I r h
  obtain ⟨x, c, t, u, b, e0, hc, ty, e, q⟩ := h
  cases ty with
  | x ty => exact call_isi pins s σ H xs us Q I r ⟨x, c, t, u, b, e0, hc, ty, e, q⟩
  | od hd => exact Mo.call_isiO pins s σ H xs us Q I r ⟨_, _, _, _, c, u, b, e0, hc, hd, e, q⟩
theorem call_isiTY {X : Cx} : CallR X (.builtin "isinstance") (rIsiTY X.K) := by
  intro pins s σ H xs us Q I r h
  obtain ⟨x, tp, cs, t, ws, b, e0, hT, hc, ty, e, q⟩ := h
  cases ty with
  | x ty => exact call_isiT pins s σ H xs us Q I r ⟨x, tp, cs, t, ws, b, e0, hT, hc, ty, e, q⟩
  | od hd => exact Mo.call_isiOT pins s σ H xs us Q I r ⟨_, _, _, _, tp, cs, ws, b, e0, hT, hc, hd, e, q⟩
/-- the same by looking: what _law_same finds to be the same -/
inductive Sm (C0 : Addr) (H : Hp) : Nat → V → V → Prop
  | non (n : Nat) : Sm C0 H n .non .non
  | int (n : Nat) (i : Int) : Sm C0 H n (.int i) (.int i)
  | bl (n : Nat) (b : Bool) : Sm C0 H n (.bl b) (.bl b)
  | str (n : Nat) (x : Str) : Sm C0 H n (.str x) (.str x)
  | mk (n : Nat) {m : Addr} {ns ys : List Str} {rw_ : Str → List Str} (h : MkAt H C0 m ns ys rw_) (ok : MkOk ns rw_) : Sm C0 H n (.ref m) (.ref m)
  | lst {n : Nat} {a b : Addr} {xs ys : List V} (ha : H a = some (.lst xs)) (hb : H b = some (.lst ys)) (hl : xs.length = ys.length) (hn : xs.length ≤ 1000) (h : ∀ (i : Nat) (x y : V), xs[i]? = some x → ys[i]? = some y → Sm C0 H n x y) : Sm C0 H (n + 1) (.ref a) (.ref b)
  | tup {n : Nat} {a b : Addr} {xs ys : List V} (ha : H a = some (.tup xs)) (hb : H b = some (.tup ys)) (hl : xs.length = ys.length) (hn : xs.length ≤ 1000) (h : ∀ (i : Nat) (x y : V), xs[i]? = some x → ys[i]? = some y → Sm C0 H n x y) : Sm C0 H (n + 1) (.ref a) (.ref b)
  | dic {n : Nat} {a b : Addr} {ks ls : List (Key × V)} (ha : H a = some (.dK ks)) (hb : H b = some (.dK ls)) (hl : ks.length = ls.length) (hn : ks.length ≤ 1000) (hk : ∀ (i : Nat) (p q : Key × V), ks[i]? = some p → ls[i]? = some q → p.1 = q.1) (h : ∀ (i : Nat) (p q : Key × V), ks[i]? = some p → ls[i]? = some q → Sm C0 H n p.2 q.2) : Sm C0 H (n + 3) (.ref a) (.ref b)
  | od {n : Nat} {d : Addr} {o : Obj} {k x : V} (h : H d = some (Mo.Od d o k x)) (hk : Sm C0 H n k k) (hx : Sm C0 H n x x) : Sm C0 H (n + 3) (.ref d) (.ref d)
theorem MkAt.ext {H H' : Hp} {C m : Addr} {ns ys : List Str} {rw_ : Str → List Str} (s : ExtN H H') (h : MkAt H C m ns ys rw_) : MkAt H' C m ns ys rw_ := by
  obtain ⟨⟨dx, pl, rd, h1, h2, as, h3, h4, h5⟩, h6, h7⟩ := h
  exact ⟨⟨dx, pl, rd, s _ _ h1 ntb_ins, s _ _ h2 ntb_lst, as, h3, s _ _ h4 ntb_dK, fun i n a e1 e2 => s _ _ (h5 i n a e1 e2) ntb_lst⟩, h6, h7⟩
theorem Sm.ext {C0 : Addr} {H H' : Hp} (s : ExtN H H') : ∀ {n : Nat} {x y : V}, Sm C0 H n x y → Sm C0 H' n x y := by
  intro n x y h
  induction h with
  | non n => exact .non n
  | int n i => exact .int n i
  | bl n b => exact .bl n b
  | str n x => exact .str n x
  | mk n h ok => exact .mk n (h.ext s) ok
  | lst ha hb hl hn _ ih => exact .lst (s _ _ ha ntb_lst) (s _ _ hb ntb_lst) hl hn ih
  | tup ha hb hl hn _ ih => exact .tup (s _ _ ha ntb_tup) (s _ _ hb ntb_tup) hl hn ih
  | dic ha hb hl hn hk _ ih => exact .dic (s _ _ ha ntb_dK) (s _ _ hb ntb_dK) hl hn hk ih
  | od h _ _ ih1 ih2 => exact .od (s _ _ h (fun ps z => by cases z)) ih1 ih2
def spSame (C0 : Addr) (n : Nat) : Sp := fun vs H Q _ => ∃ x y : V, vs = [x, y] ∧ Sm C0 H n x y ∧ ∀ H', Same H H' → Q (.bl true) H'
def spPrev (C0 : Addr) : Nat → Sp
  | 0 => fun _ _ _ _ => False
  | n + 1 => spSame C0 n
theorem scSame : FnScope ["_law_found", "_law_due", "_law_x", "_law_y"] ["_law_found", "_law_due"] (defScope sSame) := ⟨rfl, rfl, rfl, by decide +kernel, rfl, by decide +kernel, by decide +kernel⟩
theorem boot_dict2 : bootBuiltins "dict" = some (.type "dict") := by decide +kernel
theorem boot_int2 : bootBuiltins "int" = some (.type "int") := by decide +kernel
theorem boot_bool2 : bootBuiltins "bool" = some (.type "bool") := by decide +kernel
theorem ans_of_mk {K : PySem.W.Frag} {H : Hp} {C f m : Addr} {ns ys : List Str} {rw_ : Str → List Str} (M : MkE K C f) (T : MkT K C) (h : MkAt H C m ns ys rw_) : Ans K H (.ref m) false false false false false := by
  obtain ⟨⟨dx, pl, rd, hm, _⟩, _⟩ := h
  exact ans_mk M T hm
theorem walk_zipT {K : PySem.W.Frag} {a b : Addr} {xs ys : List V} {n : Nat} (hn : n = min xs.length ys.length) : Walk (RZ.ItzT K a b) n (fun H => SqT K H a xs ∧ SqT K H b ys) (YPair (fun i => xs[i]?) (fun i => ys[i]?)) := by
  subst hn
  refine ⟨fun i _ hi q => ?_, fun _ q => ⟨xs, ys, q.1, q.2, by omega⟩, fun i H v H' _ q y => ?_⟩
  · have h1 : i < xs.length := by omega
    have h2 : i < ys.length := by omega
    exact ⟨xs, ys, xs[i], ys[i], q.1, q.2, by simp [h1], by simp [h2]⟩
  · obtain ⟨T, x, y', h1, h2, h3, h4, h5⟩ := y
    exact ⟨T, x, y', h1, h2, h3, h4 xs q.1, h5 ys q.2⟩
section
variable {P : Program} {w : World} {K : PySem.W.Frag} {mg : Str → Option Value} {base : Heap}
theorem same_step {n : Nat} {f fE C0 : Addr} {fd fdE : FuncData} (F : Fun K "_law_same" "_law_same" sSame f fd) (bF : Binds K fd ["_law_found", "_law_due"] []) (gF : mg "_law_same" = some (.ref f)) (GP : FnOk P w K mg base CX0 (n + 2) f fd ["_law_found", "_law_due"] (spPrev C0 n))
    (GE : FnOk P w K mg base CX0 1 fE fdE ["self", "other"] (spEqM K C0)) (bE : Binds K fdE ["self", "other"] []) (M : MkE K C0 fE) (MT : MkT K C0)
    (gIs : mg "isinstance" = none) (gList : mg "list" = none) (gTuple : mg "tuple" = none) (gDict : mg "dict" = none) (gInt : mg "int" = none) (gBool : mg "bool" = none) (gLen : mg "len" = none) (gAll : mg "all" = none) (gZip : mg "zip" = none) :
    FnOk P w K mg base CX0 (n + 3) f fd ["_law_found", "_law_due"] (spSame C0 n) := by
  refine F.ok scSame (fun vs H Q E h => ?_) (fun cdv A outer s H vs Q E hr h => ?_)
  · obtain ⟨x, y, rfl, _⟩ := h
    rfl
  · obtain ⟨x, y, rfl, sm, k⟩ := h
    have nd := scSame.nd
    have hr1 := hr.mono (show 1 ≤ n + 2 by omega)
    have kP := F.kp
    have bP := bF
    have gP := gF
    refine ⟨_, pss_cons (ps_if (pt_val (pe_callB call_isiTY (by rfl) gIs boot_isinstance (pa_cons (pv 1) (pa_cons (pe_tup (pa_cons (pe_bltn (v := .ty "list") rfl gList boot_list2 rfl) (pa_cons (pe_bltn (v := .ty "tuple") rfl gTuple boot_tuple2 rfl) pa_nil))) pa_nil)))) (pss_cons (ps_if (PW.pt (pw_or (pt_cmpR op_ne (pe_callB call_isiY (by rfl) gIs boot_isinstance (pa_cons (pv 0) (pa_cons (pe_bltn (v := .ty "list") rfl gList boot_list2 rfl) pa_nil))) (pe_callB call_isiY (by rfl) gIs boot_isinstance (pa_cons (pv 1) (pa_cons (pe_bltn (v := .ty "list") rfl gList boot_list2 rfl) pa_nil))) (nomark _)) (pw_or1 (pt_cmpR op_ne (pe_callB call_isiY (by rfl) gIs boot_isinstance (pa_cons (pv 0) (pa_cons (pe_bltn (v := .ty "tuple") rfl gTuple boot_tuple2 rfl) pa_nil))) (pe_callB call_isiY (by rfl) gIs boot_isinstance (pa_cons (pv 1) (pa_cons (pe_bltn (v := .ty "tuple") rfl gTuple boot_tuple2 rfl) pa_nil))) (nomark _))))) (pss_one (ps_ret pe_bl)) pss_nil)
      (pss_one (ps_ret (pe_and (pe_cmpR op_eq (pe_callB call_len_seq (by rfl) gLen PySem.boot_len (pa_cons (pv 0) pa_nil)) (pe_callB call_len_seq (by rfl) gLen PySem.boot_len (pa_cons (pv 1) pa_nil)) (nomark _)) (pe_one (pe_callB (cr_all rfl) (by rfl) gAll (by decide +kernel) (pa_cons (pe_lc (own := [("_law_x", 2), ("_law_y", 3)]) (g := gTup K 2 (gCons (gName 2) (gCons (gName 3) gNil))) (tt := tYes) (te := tCall (spPrev C0 n) [] E0 (tCons (tVar 2) (tCons (tVar 3) tNil))) rfl nd (RZ.pi_zipA rfl gZip (pa_cons (pv 0) (pa_cons (pv 1) pa_nil))) (blkOk_by (N := ["_law_found", "_law_due", "_law_x", "_law_y"]) (sc := defScope sSame) (by decide +kernel)) (fun _ _ _ _ _ => pg_tup rfl (pgs_cons (pg_name (i := 2) nd rfl (Or.inl rfl)) (pgs_cons (pg_name (i := 3) nd rfl (Or.inl rfl)) pgs_nil))) (fun _ _ _ _ _ => pts_nil) (fun _ _ _ _ _ => by exact pe_call GP hr rfl gP kP bP .nil pass0 (pa_cons (pv 2) (pa_cons (pv 3) pa_nil)))) pa_nil))))))) pss_nil)
      (pss_cons (ps_if (pt_val (pe_callB call_isiY (by rfl) gIs boot_isinstance (pa_cons (pv 1) (pa_cons (pe_bltn (v := .ty "dict") rfl gDict boot_dict2 rfl) pa_nil)))) (pss_one (ps_ret (pe_and (pe_callB call_isiY (by rfl) gIs boot_isinstance (pa_cons (pv 0) (pa_cons (pe_bltn (v := .ty "dict") rfl gDict boot_dict2 rfl) pa_nil))) (pe_one (pe_call GP hr rfl gP kP bP .nil pass0 (pa_cons (pe_or2 (LiI.pe_listItems rfl (pv 0) rfl gList boot_list2) (Mo.pe_listItemsO rfl (pv 0) rfl gList boot_list2)) (pa_cons (pe_or2 (LiI.pe_listItems rfl (pv 1) rfl gList boot_list2) (Mo.pe_listItemsO rfl (pv 1) rfl gList boot_list2)) pa_nil))))))) pss_nil)
      (pss_cons (ps_if (pt_val (pe_callB call_isiY (by rfl) gIs boot_isinstance (pa_cons (pv 1) (pa_cons (pe_bltn (v := .ty "int") rfl gInt boot_int2 rfl) pa_nil)))) (pss_one (ps_ret (pe_and (pe_callB call_isiY (by rfl) gIs boot_isinstance (pa_cons (pv 0) (pa_cons (pe_bltn (v := .ty "int") rfl gInt boot_int2 rfl) pa_nil))) (pe_and (pe_cmpR op_eq (pe_callB call_isiY (by rfl) gIs boot_isinstance (pa_cons (pv 0) (pa_cons (pe_bltn (v := .ty "bool") rfl gBool boot_bool2 rfl) pa_nil))) (pe_callB call_isiY (by rfl) gIs boot_isinstance (pa_cons (pv 1) (pa_cons (pe_bltn (v := .ty "bool") rfl gBool boot_bool2 rfl) pa_nil))) (nomark _)) (pe_one (pe_cmpR op_eq (pv 0) (pv 1) (nomark _))))))) pss_nil)
      (pss_one (ps_ret (pe_and (pe_not (pe_callB call_isiTY (by rfl) gIs boot_isinstance (pa_cons (pv 0) (pa_cons (pe_tup (pa_cons (pe_bltn (v := .ty "int") rfl gInt boot_int2 rfl) (pa_cons (pe_bltn (v := .ty "list") rfl gList boot_list2 rfl) (pa_cons (pe_bltn (v := .ty "tuple") rfl gTuple boot_tuple2 rfl) (pa_cons (pe_bltn (v := .ty "dict") rfl gDict boot_dict2 rfl) pa_nil))))) pa_nil)))) (pe_one (pe_cmpR (op_eq.or (op_eqM GE bE M hr1)) (pv 0) (pv 1) (nomark _)))))))), ?_⟩
    cases sm with
    | non n =>
      obtain ⟨ty, t0, kl, kt, kd, ki, kb⟩ := (ans_non : Ans K H .non _ _ _ _ _)
      refine ⟨_, rfl, (show 2 ≤ sizeLine by decide), fun p1 np1 => ⟨_, p1, _, ty, _, _, rfl, upd_same, .cons (.ty _) (.cons (.ty _) .nil), .x (TyX.same (sameUp np1) t0), kitAny2 kl kt, _, rfl, iteF ?_⟩⟩
      have s1 := sameUp (o := .tup [.ty "list", .ty "tuple"]) np1
      have t1 := TyX.same s1 t0
      refine ⟨_, rfl, _, _, _, _, _, rfl, .ty _, .x t1, kd, _, rfl, iteF ?_⟩
      refine ⟨_, rfl, _, _, _, _, _, rfl, .ty _, .x t1, ki, _, rfl, iteF ?_⟩
      refine ⟨_, rfl, (show 4 ≤ sizeLine by decide), fun p2 np2 => ⟨_, p2, _, ty, _, _, rfl, upd_same, .cons (.ty _) (.cons (.ty _) (.cons (.ty _) (.cons (.ty _) .nil))), .x (TyX.same (sameUp np2) t1), kitAny4 ki kl kt kd, _, rfl, _, rfl, iteT ⟨_, rfl, _, rfl, ?_⟩⟩⟩
      have s2 := s1.trans (sameUp (o := .tup [.ty "int", .ty "list", .ty "tuple", .ty "dict"]) np2)
      refine .inl ⟨rfl, ?_⟩
      rw [decide_eq_true rfl]
      exact k _ s2
    | str n x =>
      obtain ⟨ty, t0, kl, kt, kd, ki, kb⟩ := (ans_str : Ans K H (.str x) _ _ _ _ _)
      refine ⟨_, rfl, (show 2 ≤ sizeLine by decide), fun p1 np1 => ⟨_, p1, _, ty, _, _, rfl, upd_same, .cons (.ty _) (.cons (.ty _) .nil), .x (TyX.same (sameUp np1) t0), kitAny2 kl kt, _, rfl, iteF ?_⟩⟩
      have s1 := sameUp (o := .tup [.ty "list", .ty "tuple"]) np1
      have t1 := TyX.same s1 t0
      refine ⟨_, rfl, _, _, _, _, _, rfl, .ty _, .x t1, kd, _, rfl, iteF ?_⟩
      refine ⟨_, rfl, _, _, _, _, _, rfl, .ty _, .x t1, ki, _, rfl, iteF ?_⟩
      refine ⟨_, rfl, (show 4 ≤ sizeLine by decide), fun p2 np2 => ⟨_, p2, _, ty, _, _, rfl, upd_same, .cons (.ty _) (.cons (.ty _) (.cons (.ty _) (.cons (.ty _) .nil))), .x (TyX.same (sameUp np2) t1), kitAny4 ki kl kt kd, _, rfl, _, rfl, iteT ⟨_, rfl, _, rfl, ?_⟩⟩⟩
      have s2 := s1.trans (sameUp (o := .tup [.ty "int", .ty "list", .ty "tuple", .ty "dict"]) np2)
      refine .inl ⟨rfl, ?_⟩
      rw [decide_eq_true rfl]
      exact k _ s2
    | @mk n m ns ys rw_ h ok =>
      obtain ⟨ty, t0, kl, kt, kd, ki, kb⟩ := ans_of_mk M MT h
      refine ⟨_, rfl, (show 2 ≤ sizeLine by decide), fun p1 np1 => ⟨_, p1, _, ty, _, _, rfl, upd_same, .cons (.ty _) (.cons (.ty _) .nil), .x (TyX.same (sameUp np1) t0), kitAny2 kl kt, _, rfl, iteF ?_⟩⟩
      have s1 := sameUp (o := .tup [.ty "list", .ty "tuple"]) np1
      have t1 := TyX.same s1 t0
      refine ⟨_, rfl, _, _, _, _, _, rfl, .ty _, .x t1, kd, _, rfl, iteF ?_⟩
      refine ⟨_, rfl, _, _, _, _, _, rfl, .ty _, .x t1, ki, _, rfl, iteF ?_⟩
      refine ⟨_, rfl, (show 4 ≤ sizeLine by decide), fun p2 np2 => ⟨_, p2, _, ty, _, _, rfl, upd_same, .cons (.ty _) (.cons (.ty _) (.cons (.ty _) (.cons (.ty _) .nil))), .x (TyX.same (sameUp np2) t1), kitAny4 ki kl kt kd, _, rfl, _, rfl, iteT ⟨_, rfl, _, rfl, ?_⟩⟩⟩
      have s2 := s1.trans (sameUp (o := .tup [.ty "int", .ty "list", .ty "tuple", .ty "dict"]) np2)
      have hM := h.ext (ExtN.of s2)
      obtain ⟨⟨dx, pl, rd, hm, _⟩, _⟩ := id hM
      have e1 : eqM ns rw_ ns rw_ = true := by
        unfold eqM
        rw [decide_eq_true rfl, Bool.true_and]
        exact List.all_eq_true.mpr fun n _ => decide_eq_true rfl
      refine .inr ⟨m, dx, _, .ref C0, rfl, hm, .ins hm, by simp [PySem.W.notFirst], m, _, ns, _, rw_, rfl, hM, ok, .inr ⟨m, ns, _, rw_, rfl, hM, ok, _, rfl, ?_⟩⟩
      rw [e1]
      exact k _ s2
    | int n i =>
      obtain ⟨ty, t0, kl, kt, kd, ki, kb⟩ := (ans_int : Ans K H (.int i) _ _ _ _ _)
      refine ⟨_, rfl, (show 2 ≤ sizeLine by decide), fun p1 np1 => ⟨_, p1, _, ty, _, _, rfl, upd_same, .cons (.ty _) (.cons (.ty _) .nil), .x (TyX.same (sameUp np1) t0), kitAny2 kl kt, _, rfl, iteF ?_⟩⟩
      have s1 := sameUp (o := .tup [.ty "list", .ty "tuple"]) np1
      have t1 := TyX.same s1 t0
      refine ⟨_, rfl, _, _, _, _, _, rfl, .ty _, .x t1, kd, _, rfl, iteF ?_⟩
      refine ⟨_, rfl, _, _, _, _, _, rfl, .ty _, .x t1, ki, _, rfl, iteT ?_⟩
      refine ⟨_, rfl, _, _, _, _, _, rfl, .ty _, .x t1, ki, _, rfl, iteT ?_⟩
      refine ⟨_, rfl, _, _, _, _, _, rfl, .ty _, .x t1, kb, _, rfl, _, _, _, _, _, rfl, .ty _, .x t1, kb, rfl, ?_⟩
      refine ⟨_, rfl, ?_⟩
      rw [decide_eq_true rfl]
      refine iteT ⟨_, rfl, _, rfl, rfl, ?_⟩
      rw [decide_eq_true rfl]
      exact k _ s1
    | bl n b =>
      obtain ⟨ty, t0, kl, kt, kd, ki, kb⟩ := (ans_bl : Ans K H (.bl b) _ _ _ _ _)
      refine ⟨_, rfl, (show 2 ≤ sizeLine by decide), fun p1 np1 => ⟨_, p1, _, ty, _, _, rfl, upd_same, .cons (.ty _) (.cons (.ty _) .nil), .x (TyX.same (sameUp np1) t0), kitAny2 kl kt, _, rfl, iteF ?_⟩⟩
      have s1 := sameUp (o := .tup [.ty "list", .ty "tuple"]) np1
      have t1 := TyX.same s1 t0
      refine ⟨_, rfl, _, _, _, _, _, rfl, .ty _, .x t1, kd, _, rfl, iteF ?_⟩
      refine ⟨_, rfl, _, _, _, _, _, rfl, .ty _, .x t1, ki, _, rfl, iteT ?_⟩
      refine ⟨_, rfl, _, _, _, _, _, rfl, .ty _, .x t1, ki, _, rfl, iteT ?_⟩
      refine ⟨_, rfl, _, _, _, _, _, rfl, .ty _, .x t1, kb, _, rfl, _, _, _, _, _, rfl, .ty _, .x t1, kb, rfl, ?_⟩
      refine ⟨_, rfl, ?_⟩
      rw [decide_eq_true rfl]
      refine iteT ⟨_, rfl, _, rfl, rfl, ?_⟩
      rw [decide_eq_true rfl]
      exact k _ s1
    | @lst n a b xs ys ha hb hl hn hs =>
      obtain ⟨ty, t0, kl, kt, kd, ki, kb⟩ := (ans_lst hb : Ans K H (.ref b) _ _ _ _ _)
      obtain ⟨ty', t0', kl', kt', kd', ki', kb'⟩ := (ans_lst ha : Ans K H (.ref a) _ _ _ _ _)
      refine ⟨_, rfl, (show 2 ≤ sizeLine by decide), fun p1 np1 => ⟨_, p1, _, ty, _, _, rfl, upd_same, .cons (.ty _) (.cons (.ty _) .nil), .x (TyX.same (sameUp np1) t0), kitAny2 kl kt, _, rfl, iteT ?_⟩⟩
      have s1 := sameUp (o := .tup [.ty "list", .ty "tuple"]) np1
      have t1 := TyX.same s1 t0
      have t1' := TyX.same s1 t0'
      refine ⟨_, rfl, _, _, _, _, _, rfl, .ty _, .x t1', kl', _, rfl, _, _, _, _, _, rfl, .ty _, .x t1, kl, rfl, _, rfl, ?_⟩
      rw [decide_eq_true rfl]
      refine iteF ?_
      refine ⟨_, rfl, _, _, _, _, _, rfl, .ty _, .x t1', kt', _, rfl, _, _, _, _, _, rfl, .ty _, .x t1, kt, rfl, _, rfl, ?_⟩
      rw [decide_eq_true rfl]
      refine iteF ?_
      have ha1 := s1 _ _ ha
      have hb1 := s1 _ _ hb
      refine ⟨_, rfl, a, xs, rfl, .inl (SqL.of ha1), _, rfl, b, ys, rfl, .inl (SqL.of hb1), rfl, ?_⟩
      rw [hl, decide_eq_true rfl]
      refine ⟨_, rfl, iteT ?_⟩
      refine ⟨_, rfl, _, rfl, a, b, xs, ys, rfl, .inl ⟨SqL.of ha1, SqL.of hb1, fun D hD => ?_⟩⟩
      refine lc_it (walk_zip (by rw [hl, Nat.min_self] : ys.length = min xs.length ys.length)) (fun i H' => Same (upd H p1 (.tup [.ty "list", .ty "tuple"])) H' ∧ H' D = some (.lst ((List.replicate i true).map V.bl))) ⟨sameUp hD, upd_same⟩ (fun i H' _ ⟨s, _⟩ => ⟨SqL.of (s _ _ ha1), SqL.of (s _ _ hb1)⟩) ?_ ?_
      · rintro i v H2 H3 hi ⟨s2, hD2⟩ ⟨T0, x1, y1, rfl, nT0, rfl, e1, e2⟩
        have s3 := s2.trans (sameUp (o := .tup [x1, y1]) nT0)
        refine ⟨T0, _, rfl, SqT.of upd_same, rfl, _, _, rfl, _, _, rfl, rfl, rfl, ?_⟩
        refine ⟨_, rfl, _, rfl, x1, y1, rfl, Sm.ext (ExtN.of (s1.trans s3)) (hs i x1 y1 e1 e2), fun H4 s4 => ?_⟩
        refine ⟨_, s4 _ _ ((sameUp (o := .tup [x1, y1]) nT0) _ _ hD2), ?_, fun b' o e => ?_, ?_⟩
        · rw [List.length_map, List.length_replicate]
          exact small1000 (by omega)
        · rw [upd_ne (ne_of_none e hD)]
          exact s4 _ _ (s3 _ _ e)
        · rw [upd_same, List.replicate_succ', List.map_append]
          rfl
      · rintro H2 ⟨s2, hD2⟩
        refine ⟨D, _, rfl, SqL.of hD2, ?_⟩
        have e : (List.replicate ys.length true).all id = true := List.all_eq_true.mpr fun z hz => by rw [(List.mem_replicate.mp hz).2]; rfl
        rw [e]
        exact k _ (s1.trans s2)
    | @tup n a b xs ys ha hb hl hn hs =>
      obtain ⟨ty, t0, kl, kt, kd, ki, kb⟩ := (ans_tup hb : Ans K H (.ref b) _ _ _ _ _)
      obtain ⟨ty', t0', kl', kt', kd', ki', kb'⟩ := (ans_tup ha : Ans K H (.ref a) _ _ _ _ _)
      refine ⟨_, rfl, (show 2 ≤ sizeLine by decide), fun p1 np1 => ⟨_, p1, _, ty, _, _, rfl, upd_same, .cons (.ty _) (.cons (.ty _) .nil), .x (TyX.same (sameUp np1) t0), kitAny2 kl kt, _, rfl, iteT ?_⟩⟩
      have s1 := sameUp (o := .tup [.ty "list", .ty "tuple"]) np1
      have t1 := TyX.same s1 t0
      have t1' := TyX.same s1 t0'
      refine ⟨_, rfl, _, _, _, _, _, rfl, .ty _, .x t1', kl', _, rfl, _, _, _, _, _, rfl, .ty _, .x t1, kl, rfl, _, rfl, ?_⟩
      rw [decide_eq_true rfl]
      refine iteF ?_
      refine ⟨_, rfl, _, _, _, _, _, rfl, .ty _, .x t1', kt', _, rfl, _, _, _, _, _, rfl, .ty _, .x t1, kt, rfl, _, rfl, ?_⟩
      rw [decide_eq_true rfl]
      refine iteF ?_
      have ha1 := s1 _ _ ha
      have hb1 := s1 _ _ hb
      refine ⟨_, rfl, a, xs, rfl, .inr (SqT.of ha1), _, rfl, b, ys, rfl, .inr (SqT.of hb1), rfl, ?_⟩
      rw [hl, decide_eq_true rfl]
      refine ⟨_, rfl, iteT ?_⟩
      refine ⟨_, rfl, _, rfl, a, b, xs, ys, rfl, .inr ⟨SqT.of ha1, SqT.of hb1, fun D hD => ?_⟩⟩
      refine lc_it (walk_zipT (by rw [hl, Nat.min_self] : ys.length = min xs.length ys.length)) (fun i H' => Same (upd H p1 (.tup [.ty "list", .ty "tuple"])) H' ∧ H' D = some (.lst ((List.replicate i true).map V.bl))) ⟨sameUp hD, upd_same⟩ (fun i H' _ ⟨s, _⟩ => ⟨SqT.of (s _ _ ha1), SqT.of (s _ _ hb1)⟩) ?_ ?_
      · rintro i v H2 H3 hi ⟨s2, hD2⟩ ⟨T0, x1, y1, rfl, nT0, rfl, e1, e2⟩
        have s3 := s2.trans (sameUp (o := .tup [x1, y1]) nT0)
        refine ⟨T0, _, rfl, SqT.of upd_same, rfl, _, _, rfl, _, _, rfl, rfl, rfl, ?_⟩
        refine ⟨_, rfl, _, rfl, x1, y1, rfl, Sm.ext (ExtN.of (s1.trans s3)) (hs i x1 y1 e1 e2), fun H4 s4 => ?_⟩
        refine ⟨_, s4 _ _ ((sameUp (o := .tup [x1, y1]) nT0) _ _ hD2), ?_, fun b' o e => ?_, ?_⟩
        · rw [List.length_map, List.length_replicate]
          exact small1000 (by omega)
        · rw [upd_ne (ne_of_none e hD)]
          exact s4 _ _ (s3 _ _ e)
        · rw [upd_same, List.replicate_succ', List.map_append]
          rfl
      · rintro H2 ⟨s2, hD2⟩
        refine ⟨D, _, rfl, SqL.of hD2, ?_⟩
        have e : (List.replicate ys.length true).all id = true := List.all_eq_true.mpr fun z hz => by rw [(List.mem_replicate.mp hz).2]; rfl
        rw [e]
        exact k _ (s1.trans s2)
    | @dic n a b ks ls ha hb hl hn hk hs =>
      obtain ⟨ty, t0, kl, kt, kd, ki, kb⟩ := (ans_dK hb : Ans K H (.ref b) _ _ _ _ _)
      obtain ⟨ty', t0', kl', kt', kd', ki', kb'⟩ := (ans_dK ha : Ans K H (.ref a) _ _ _ _ _)
      refine ⟨_, rfl, (show 2 ≤ sizeLine by decide), fun p1 np1 => ⟨_, p1, _, ty, _, _, rfl, upd_same, .cons (.ty _) (.cons (.ty _) .nil), .x (TyX.same (sameUp np1) t0), kitAny2 kl kt, _, rfl, iteF ?_⟩⟩
      have s1 := sameUp (o := .tup [.ty "list", .ty "tuple"]) np1
      have t1 := TyX.same s1 t0
      have t1' := TyX.same s1 t0'
      refine ⟨_, rfl, _, _, _, _, _, rfl, .ty _, .x t1, kd, _, rfl, iteT ?_⟩
      refine ⟨_, rfl, _, _, _, _, _, rfl, .ty _, .x t1', kd', _, rfl, iteT ?_⟩
      refine .inl ⟨_, rfl, a, ks, rfl, s1 _ _ ha, fun H2 q1 ts1 s2 nq1 fr1 nm1 hq1 pr1 => ?_⟩
      refine .inl ⟨_, rfl, b, ls, rfl, s2 _ _ (s1 _ _ hb), fun H3 q2 ts2 s3 nq2 fr2 nm2 hq2 pr2 => ?_⟩
      have sA := (s1.trans s2).trans s3
      refine ⟨_, _, rfl, .lst (s3 _ _ hq1) hq2 ?_ ?_ fun i x y h1 h2 => ?_, fun H4 s4 => k H4 (sA.trans s4)⟩
      · rw [List.length_map, List.length_map, Paired.length pr1, Paired.length pr2, hl]
      · rw [List.length_map, Paired.length pr1]
        exact hn
      · rw [List.getElem?_map] at h1 h2
        obtain ⟨t1, ht1, rfl⟩ := Option.map_eq_some_iff.mp h1
        obtain ⟨t2, ht2, rfl⟩ := Option.map_eq_some_iff.mp h2
        obtain ⟨p, hp, e1⟩ := LiI.paired_get pr1 ht1
        obtain ⟨q, hq, e2⟩ := LiI.paired_get pr2 ht2
        refine .tup (s3 _ _ e1) e2 rfl (show 2 ≤ 1000 by decide) fun j x y h1 h2 => ?_
        match j, h1, h2 with
        | 0, h1, h2 =>
          have e3 : kV p.1 = x := Option.some.inj h1
          have e4 : kV q.1 = y := Option.some.inj h2
          rw [← e3, ← e4, hk i p q hp hq]
          cases q.1 with
          | inl z => exact .int _ z
          | inr z => exact .str _ z
        | 1, h1, h2 =>
          have e3 : p.2 = x := Option.some.inj h1
          have e4 : q.2 = y := Option.some.inj h2
          rw [← e3, ← e4]
          exact Sm.ext (ExtN.of sA) (hs i p q hp hq)
        | j + 2, h1, _ => cases h1
    | @od n d o kk x hd hk hx =>
      have kl : PySem.W.kitOne K (.type "dict") (.type "list") = some false := kit_ty (by decide +kernel)
      have kt : PySem.W.kitOne K (.type "dict") (.type "tuple") = some false := kit_ty (by decide +kernel)
      refine ⟨_, rfl, (show 2 ≤ sizeLine by decide), fun p1 np1 => ⟨_, p1, _, _, _, _, rfl, upd_same, .cons (.ty _) (.cons (.ty _) .nil), .od (sameUp np1 _ _ hd), kitAny2 kl kt, _, rfl, iteF ?_⟩⟩
      have s1 := sameUp (o := .tup [.ty "list", .ty "tuple"]) np1
      refine ⟨_, rfl, _, _, _, _, _, rfl, .ty _, .od (s1 _ _ hd), kit_dictT, _, rfl, iteT ?_⟩
      refine ⟨_, rfl, _, _, _, _, _, rfl, .ty _, .od (s1 _ _ hd), kit_dictT, _, rfl, iteT ?_⟩
      refine .inr ⟨_, rfl, d, o, kk, x, rfl, s1 _ _ hd, fun q1 T1 nq1 nT1 ne1 => ?_⟩
      have two : ∀ {H0 : Hp} {q T : Addr}, H0 q = none → H0 T = none → q ≠ T → Same H0 (upd (upd H0 q (.lst [.ref T])) T (.tup [kk, x])) := fun {H0 q T} n1 n2 ne => (sameUp n1).trans (sameUp (by rw [upd_ne ne.symm]; exact n2))
      have s2 := s1.trans (two nq1 nT1 ne1)
      refine .inr ⟨_, rfl, d, o, kk, x, rfl, s2 _ _ hd, fun q2 T2 nq2 nT2 ne2 => ?_⟩
      have s3 := two nq2 nT2 ne2
      have sA := s2.trans s3
      refine ⟨_, _, rfl, .lst (xs := [.ref T1]) (ys := [.ref T2]) (s3 _ _ (by rw [upd_ne ne1, upd_same])) (by rw [upd_ne ne2, upd_same]) rfl (show 1 ≤ 1000 by decide) fun i u v h1 h2 => ?_, fun H4 s4 => k H4 (sA.trans s4)⟩
      match i, h1, h2 with
      | 0, h1, h2 =>
        have e3 : V.ref T1 = u := Option.some.inj h1
        have e4 : V.ref T2 = v := Option.some.inj h2
        rw [← e3, ← e4]
        refine .tup (xs := [kk, x]) (ys := [kk, x]) (s3 _ _ upd_same) upd_same rfl (show 2 ≤ 1000 by decide) fun j y z h1 h2 => ?_
        match j, h1, h2 with
        | 0, h1, h2 =>
          have e5 : kk = y := Option.some.inj h1
          have e6 : kk = z := Option.some.inj h2
          rw [← e5, ← e6]
          exact Sm.ext (ExtN.of sA) hk
        | 1, h1, h2 =>
          have e5 : x = y := Option.some.inj h1
          have e6 : x = z := Option.some.inj h2
          rw [← e5, ← e6]
          exact Sm.ext (ExtN.of sA) hx
        | j + 2, h1, _ => cases h1
      | i + 1, h1, _ => cases h1
theorem ok_same {f fE C0 : Addr} {fd fdE : FuncData} (F : Fun K "_law_same" "_law_same" sSame f fd) (bF : Binds K fd ["_law_found", "_law_due"] []) (gF : mg "_law_same" = some (.ref f))
    (GE : FnOk P w K mg base CX0 1 fE fdE ["self", "other"] (spEqM K C0)) (bE : Binds K fdE ["self", "other"] []) (M : MkE K C0 fE) (MT : MkT K C0)
    (gIs : mg "isinstance" = none) (gList : mg "list" = none) (gTuple : mg "tuple" = none) (gDict : mg "dict" = none) (gInt : mg "int" = none) (gBool : mg "bool" = none) (gLen : mg "len" = none) (gAll : mg "all" = none) (gZip : mg "zip" = none) :
    ∀ n, FnOk P w K mg base CX0 (n + 3) f fd ["_law_found", "_law_due"] (spSame C0 n)
  | 0 => same_step F bF gF ⟨fun _ _ _ _ h => h.elim, fun _ _ _ _ _ _ _ _ _ _ _ _ _ h => h.elim⟩ GE bE M MT gIs gList gTuple gDict gInt gBool gLen gAll gZip
  | n + 1 => same_step F bF gF (ok_same F bF gF GE bE M MT gIs gList gTuple gDict gInt gBool gLen gAll gZip n) GE bE M MT gIs gList gTuple gDict gInt gBool gLen gAll gZip
end
end Mn
/-! _law_draw by bounds, _law_loose -/
namespace Mn
open PySem PySem.Spec PyProof.Rows L2 Md Me Ml LamX
/-- the stream, at most B numbers drawn -/
def Stm (H : Hp) (a b : Addr) (B : Nat) : Prop := ∃ (ns : List Int) (p q r : Int), Strm H a b ns p q r ∧ q ≤ (B : Int)
theorem Stm.ha {H : Hp} {a b : Addr} {B : Nat} (S : Stm H a b B) : ∃ xs, H a = some (.lst xs) := by
  obtain ⟨ns, p, q, r, S, _⟩ := S
  exact ⟨_, S.ha⟩
theorem Stm.hb {H : Hp} {a b : Addr} {B : Nat} (S : Stm H a b B) : ∃ xs, H b = some (.lst xs) := by
  obtain ⟨ns, p, q, r, S, _⟩ := S
  exact ⟨_, S.hb⟩
theorem Stm.ext {H H' : Hp} {a b : Addr} {B : Nat} (e : ExtN H H') (S : Stm H a b B) : Stm H' a b B := by
  obtain ⟨ns, p, q, r, S, h⟩ := S
  exact ⟨ns, p, q, r, ⟨S.ne, e _ _ S.ha ntb_lst, e _ _ S.hb ntb_lst, S.p0, S.q0, S.r0, S.r1⟩, h⟩
theorem Stm.up {H : Hp} {a b : Addr} {B B' : Nat} (h : B ≤ B') (S : Stm H a b B) : Stm H a b B' := by
  obtain ⟨ns, p, q, r, S, hq⟩ := S
  exact ⟨ns, p, q, r, S, by omega⟩
theorem Stm.set {H : Hp} {a b c : Addr} {o : HO} {B : Nat} (S : Stm H a b B) (h1 : c ≠ a) (h2 : c ≠ b) : Stm (upd H c o) a b B := by
  obtain ⟨ns, p, q, r, S, h⟩ := S
  exact ⟨ns, p, q, r, S.other h1 h2, h⟩
def spDrawB : Sp := fun vs H Q _ => ∃ (a b : Addr) (B : Nat) (m : Int), vs = [.ref a, .int m] ∧ Stm H a b B ∧ B < 1000000000000 ∧ 0 < m ∧ m < 1073741824 ∧
  ∀ (H' : Hp) (d : Int), 0 ≤ d → d < m → Stm H' a b (B + 1) → KeepBut a b H H' → Q (.int d) H'
theorem drawB {P : Program} {w : World} {K : PySem.W.Frag} {mg : Str → Option Value} {base : Heap} {f : Addr} {fd : FuncData} (G : FnOk P w K mg base CX0 1 f fd ["_law_stream", "_law_many"] spDraw) : FnOk P w K mg base CX0 1 f fd ["_law_stream", "_law_many"] spDrawB :=
  G.imp fun vs H Q E ⟨a, b, B, m, e, ⟨ns, p, q, r, S, hq⟩, hB, h0, h1, k⟩ => ⟨a, b, ns, p, q, r, m, e, S, h0, h1, by omega, fun H' ns' p' r' d d0 d1 S' kb => k H' d d0 d1 ⟨ns', p', q + 1, r', S', by push_cast; omega⟩ kb⟩
/-! ### things loosened -/
inductive Tree where
  | leaf (v : V)
  | node (ts : List Tree)
inductive Dep : Nat → Tree → Prop
  | leaf (n : Nat) (v : V) : Dep n (.leaf v)
  | node {n : Nat} {ts : List Tree} (h : ∀ t ∈ ts, Dep n t) : Dep (n + 1) (.node ts)
mutual
inductive DatT (K : PySem.W.Frag) (H : Hp) (a b : Addr) : Tree → V → Prop
  | leaf {v : V} (h : NoSeq K H v) : DatT K H a b (.leaf v) v
  | node {ts : List Tree} {c : Addr} {xs : List V} (h1 : c ≠ a) (h2 : c ≠ b) (h : Seq H c xs) (hn : xs.length ≤ 200) (r : DatTs K H a b ts xs) : DatT K H a b (.node ts) (.ref c)
inductive DatTs (K : PySem.W.Frag) (H : Hp) (a b : Addr) : List Tree → List V → Prop
  | nil : DatTs K H a b [] []
  | cons {t : Tree} {ts : List Tree} {v : V} {vs : List V} (h : DatT K H a b t v) (r : DatTs K H a b ts vs) : DatTs K H a b (t :: ts) (v :: vs)
end
mutual
inductive OutT (H : Hp) : Tree → V → List Addr → Prop
  | leaf (v : V) : OutT H (.leaf v) v []
  | node {ts : List Tree} {p : Addr} {ys : List V} {S : List Addr} (h : Seq H p ys) (r : OutTs H ts ys S) (hp : p ∉ S) : OutT H (.node ts) (.ref p) (p :: S)
inductive OutTs (H : Hp) : List Tree → List V → List Addr → Prop
  | nil : OutTs H [] [] []
  | cons {t : Tree} {ts : List Tree} {v : V} {vs : List V} {S S' : List Addr} (h : OutT H t v S) (r : OutTs H ts vs S') (hd : ∀ s ∈ S, s ∉ S') : OutTs H (t :: ts) (v :: vs) (S ++ S')
end
theorem NoSeq.but {K : PySem.W.Frag} {H H' : Hp} {a b : Addr} {v : V} (k : KeepBut a b H H') (ha : ∃ xs, H a = some (.lst xs)) (hb : ∃ xs, H b = some (.lst xs)) (h : NoSeq K H v) : NoSeq K H' v := by
  obtain ⟨t, h1, h2⟩ := h
  obtain ⟨xs, ha⟩ := ha
  obtain ⟨ys, hb⟩ := hb
  have go : ∀ {c : Addr} {o : HO}, H c = some o → (∀ zs, o ≠ .lst zs) → H' c = some o := fun {c o} e n => k c o (fun z => by
    rw [z, ha] at e
    exact n _ (Option.some.inj e).symm) (fun z => by
    rw [z, hb] at e
    exact n _ (Option.some.inj e).symm) e
  refine ⟨t, ?_, h2⟩
  cases h1 with
  | base q =>
    cases q with
    | non => exact .base .non
    | bl y => exact .base (.bl y)
    | int i => exact .base (.int i)
    | str y => exact .base (.str y)
    | flt y => exact .base (.flt y)
    | lst e =>
      rw [kit_seqL] at h2
      cases h2
    | frz e => exact .base (.frz (go e (fun zs z => by cases z)))
    | tup e => exact .base (.tup (go e (fun zs z => by cases z)))
    | dK e => exact .base (.dK (go e (fun zs z => by cases z)))
    | dT e => exact .base (.dT (go e (fun zs z => by cases z)))
    | ins e cl hx hn htk hm => exact .base (.ins (go e (fun zs z => by cases z)) cl hx hn htk hm)
  | byt y => exact .byt y
  | set e => exact .set (go e (fun zs z => by cases z))
  | kList e c => exact .kList e c
  | kTuple e c => exact .kTuple e c
  | kDict e c => exact .kDict e c
  | fTuple e => exact .fTuple (go e (fun zs z => by cases z))
  | fDict e => exact .fDict (go e (fun zs z => by cases z))
theorem Seq.but {H H' : Hp} {a b c : Addr} {xs : List V} (k : KeepBut a b H H') (h1 : c ≠ a) (h2 : c ≠ b) (h : Seq H c xs) : Seq H' c xs := h.imp (k c _ h1 h2) (k c _ h1 h2)
section
variable {K : PySem.W.Frag} {H H' : Hp} {a b : Addr}
mutual
theorem DatT.but (k : KeepBut a b H H') (ha : ∃ xs, H a = some (.lst xs)) (hb : ∃ xs, H b = some (.lst xs)) : ∀ {t : Tree} {v : V}, DatT K H a b t v → DatT K H' a b t v
  | _, _, .leaf h => .leaf (h.but k ha hb)
  | _, _, .node h1 h2 h hn r => .node h1 h2 (h.but k h1 h2) hn (DatTs.but k ha hb r)
theorem DatTs.but (k : KeepBut a b H H') (ha : ∃ xs, H a = some (.lst xs)) (hb : ∃ xs, H b = some (.lst xs)) : ∀ {ts : List Tree} {vs : List V}, DatTs K H a b ts vs → DatTs K H' a b ts vs
  | _, _, .nil => .nil
  | _, _, .cons h r => .cons (DatT.but k ha hb h) (DatTs.but k ha hb r)
end
mutual
theorem OutT.keep : ∀ {t : Tree} {v : V} {S : List Addr}, (∀ s ∈ S, ∀ o, H s = some o → H' s = some o) → OutT H t v S → OutT H' t v S
  | _, _, _, _, .leaf v => .leaf v
  | _, _, _, k, .node h r hp => .node (h.imp (k _ (by simp) _) (k _ (by simp) _)) (OutTs.keep (fun s hs => k s (by simp [hs])) r) hp
theorem OutTs.keep : ∀ {ts : List Tree} {vs : List V} {S : List Addr}, (∀ s ∈ S, ∀ o, H s = some o → H' s = some o) → OutTs H ts vs S → OutTs H' ts vs S
  | _, _, _, _, .nil => .nil
  | _, _, _, k, .cons h r hd => .cons (OutT.keep (fun s hs => k s (by simp [hs])) h) (OutTs.keep (fun s hs => k s (by simp [hs])) r) hd
end
theorem OutTs.snoc {t : Tree} {v : V} {S' : List Addr} (h : OutT H t v S') : ∀ {ts : List Tree} {vs : List V} {S : List Addr}, OutTs H ts vs S → (∀ s ∈ S, s ∉ S') → ∃ S2, OutTs H (ts ++ [t]) (vs ++ [v]) S2 ∧ ∀ s, s ∈ S2 ↔ s ∈ S ∨ s ∈ S'
  | _, _, _, .nil, _ => ⟨S' ++ [], .cons h .nil (by simp), fun s => by simp⟩
  | _, _, _, @OutTs.cons _ t1 ts1 v1 vs1 S1 S2 h1 r1 hd1, hd => by
    obtain ⟨S3, h3, m3⟩ := OutTs.snoc h r1 (fun s hs => hd s (by simp [hs]))
    refine ⟨S1 ++ S3, .cons h1 h3 fun s hs z => ?_, fun s => ?_⟩
    · rcases (m3 s).mp z with q | q
      · exact hd1 s hs q
      · exact hd s (by simp [hs]) q
    · rw [List.mem_append, m3 s, List.mem_append, or_assoc]
mutual
theorem OutT.live : ∀ {t : Tree} {v : V} {S : List Addr}, OutT H t v S → ∀ s ∈ S, H s ≠ none
  | _, _, _, .leaf v, s, hs => by simp at hs
  | _, _, _, .node h r hp, s, hs => by
    rcases List.mem_cons.mp hs with e | e
    · subst e
      rcases h with h | h <;> (rw [h]; simp)
    · exact OutTs.live r s e
theorem OutTs.live : ∀ {ts : List Tree} {vs : List V} {S : List Addr}, OutTs H ts vs S → ∀ s ∈ S, H s ≠ none
  | _, _, _, .nil, s, hs => by simp at hs
  | _, _, _, .cons h r hd, s, hs => by
    rcases List.mem_append.mp hs with e | e
    · exact OutT.live h s e
    · exact OutTs.live r s e
end
theorem DatTs.len : ∀ {ts : List Tree} {vs : List V}, DatTs K H a b ts vs → ts.length = vs.length
  | _, _, .nil => rfl
  | _, _, .cons _ r => by rw [List.length_cons, List.length_cons, DatTs.len r]
theorem DatTs.at_ : ∀ {ts : List Tree} {vs : List V} {i : Nat} {v : V}, DatTs K H a b ts vs → vs[i]? = some v → ∃ t, ts[i]? = some t ∧ DatT K H a b t v
  | _, _, _, _, .nil, h => by simp at h
  | _, _, 0, _, .cons h r, e => ⟨_, rfl, by
    have e' := Option.some.inj (show some _ = some _ from e)
    rw [← e']
    exact h⟩
  | _, _, i + 1, _, .cons h r, e => DatTs.at_ (i := i) r (by simpa using e)
end
end Mn
/-! _law_loose -/
namespace Mn
open PySem PySem.Spec PyProof.Rows L2 Md Me Ml LamX
abbrev sLoose : Stmt := top 46
theorem kb_free {H H' : Hp} {a b s : Addr} (k : KeepBut a b H H') (ha : H' a ≠ none) (hb : H' b ≠ none) (h : H' s = none) : H s = none := by
  cases e : H s with
  | none => rfl
  | some o =>
    by_cases h1 : s = a
    · exact absurd (h1 ▸ h) ha
    · by_cases h2 : s = b
      · exact absurd (h2 ▸ h) hb
      · rw [k s o h1 h2 e] at h
        cases h
theorem Stm.na {H : Hp} {a b : Addr} {B : Nat} (S : Stm H a b B) : H a ≠ none ∧ H b ≠ none := by
  obtain ⟨xs, h1⟩ := S.ha
  obtain ⟨ys, h2⟩ := S.hb
  exact ⟨by rw [h1]; simp, by rw [h2]; simp⟩
theorem Stm.nd {H : Hp} {a b p : Addr} {B : Nat} (S : Stm H a b B) (h : H p = none) : p ≠ a ∧ p ≠ b := ⟨fun z => S.na.1 (z ▸ h), fun z => S.na.2 (z ▸ h)⟩
theorem KeepBut.same {H H' : Hp} {a b : Addr} (s : Same H H') : KeepBut a b H H' := fun c o _ _ e => s c o e
def spLoose (K : PySem.W.Frag) (n : Nat) : Sp := fun vs H Q _ => ∃ (a b : Addr) (B : Nat) (x : V) (t : Tree), vs = [.ref a, x] ∧ Stm H a b B ∧ B + 1000 ^ n ≤ 200000000000 ∧ DatT K H a b t x ∧ Dep n t ∧ n ≤ 3 ∧
  ∀ (H' : Hp) (x' : V) (S : List Addr), Stm H' a b (B + 1000 ^ n) → KeepBut a b H H' → OutT H' t x' S → (∀ s ∈ S, H s = none) → Q x' H'
def spPrevL (K : PySem.W.Frag) : Nat → Sp
  | 0 => fun _ _ _ _ => False
  | n + 1 => spLoose K n
theorem scLoose : FnScope ["_law_stream", "_law_thing", "_law_found", "_law_part"] ["_law_stream", "_law_thing"] (defScope sLoose) := ⟨rfl, rfl, rfl, by decide +kernel, rfl, by decide +kernel, by decide +kernel⟩
section
variable {P : Program} {w : World} {K : PySem.W.Frag} {mg : Str → Option Value} {base : Heap}
theorem loose_step {n : Nat} {f fD : Addr} {fd fdD : FuncData} (F : Fun K "_law_loose" "_law_loose" sLoose f fd) (bP : Binds K fd ["_law_stream", "_law_thing"] []) (gP : mg "_law_loose" = some (.ref f)) (GP : FnOk P w K mg base CX0 (n + 1) f fd ["_law_stream", "_law_thing"] (spPrevL K n))
    (GD : FnOk P w K mg base CX0 1 fD fdD ["_law_stream", "_law_many"] spDrawB) (kD : PySem.W.keepIn K (.ref fD) = true) (bD : Binds K fdD ["_law_stream", "_law_many"] []) (gD : mg "_law_draw" = some (.ref fD))
    (gIs : mg "isinstance" = none) (gList : mg "list" = none) (gTuple : mg "tuple" = none) : FnOk P w K mg base CX0 (n + 2) f fd ["_law_stream", "_law_thing"] (spLoose K n) := by
  refine F.ok scLoose (fun vs H Q E h => ?_) (fun cdv A outer s H vs Q E hr h => ?_)
  · obtain ⟨a, b, B, x, t, rfl, _⟩ := h
    rfl
  · obtain ⟨a, b, B, x, t, rfl, St, hB, dt, dp, hn3, k⟩ := h
    have nd := scLoose.nd
    have kP := F.kp
    refine ⟨_, pss_cons (ps_if (pt_not (pt_val (pe_callB call_isiT (by rfl) gIs boot_isinstance (pa_cons (pv 1) (pa_cons (pe_tup (pa_cons (pe_bltn (v := .ty "list") rfl gList boot_list2 rfl) (pa_cons (pe_bltn (v := .ty "tuple") rfl gTuple boot_tuple2 rfl) pa_nil))) pa_nil))))) (pss_one (ps_ret (pv 1))) pss_nil)
      (pss_cons (ps_setLc (i := 2) (own := [("_law_part", 3)]) (g := gName 3) (tt := tYes) (te := tCall (spPrevL K n) [] E0 (tCons (tVar 0) (tCons (tVar 3) tNil))) rfl nd rfl rfl (sw_true rfl rfl rfl (by decide +kernel)) (pi_or (pi_list (pv 1)) (pi_tup (pv 1))) (blkOk_by (N := ["_law_stream", "_law_thing", "_law_found", "_law_part"]) (sc := defScope sLoose) (by decide +kernel)) (fun _ _ _ _ _ => pg_name (i := 3) nd rfl (Or.inl rfl)) (fun _ _ _ _ _ => pts_nil) (fun _ _ _ _ _ => by exact pe_call GP hr rfl gP kP bP .nil pass0 (pa_cons (pv 0) (pa_cons (pv 3) pa_nil))))
      (pss_one (ps_ret (pe_ifExp (pt_cmpR op_eq (pe_call GD (hr.mono (by omega)) rfl gD kD bD .nil pass0 (pa_cons (pv 0) (pa_cons pe_int pa_nil))) pe_int (nomark _)) (pv 2) (pe_callTy call_tuple_of rfl gTuple boot_tuple2 (pa_cons (pv 2) pa_nil)))))), ?_⟩
    cases dt with
    | leaf hns =>
      obtain ⟨ty, t0, e⟩ := hns
      refine ⟨_, rfl, (show 2 ≤ sizeLine by decide), fun p1 np1 => ⟨_, p1, _, ty, _, _, rfl, upd_same, .cons (.ty _) (.cons (.ty _) .nil), TyX.same (sameUp np1) t0, e, _, rfl, iteT ⟨_, rfl, ?_⟩⟩⟩
      have s1 := sameUp (o := .tup [.ty "list", .ty "tuple"]) np1
      exact k _ _ [] ((St.ext (ExtN.of s1)).up (Nat.le_add_right _ _)) (KeepBut.same s1) (.leaf _) (fun s hs => by simp at hs)
    | @node ts c xs h1 h2 hq hlen dts =>
      obtain ⟨ty, t0, e⟩ := hq.ty (K := K)
      refine ⟨_, rfl, (show 2 ≤ sizeLine by decide), fun p1 np1 => ⟨_, p1, _, ty, _, _, rfl, upd_same, .cons (.ty _) (.cons (.ty _) .nil), TyX.same (sameUp np1) t0, e, _, rfl, iteF ?_⟩⟩
      have s1 := sameUp (o := .tup [.ty "list", .ty "tuple"]) np1
      cases dp with
      | @node n' _ hdep =>
        have hq1 := hq.same s1
        have wk : ∃ (J : It) (o : HO), upd H p1 (.tup [.ty "list", .ty "tuple"]) c = some o ∧ (∀ H', H' c = some o → Seq H' c xs) ∧ Walk J xs.length (fun H => H c = some o) (YAt xs) ∧
            ((upd H p1 (.tup [.ty "list", .ty "tuple"]) c = some (.lst xs) ∧ J = Itl K c) ∨ (upd H p1 (.tup [.ty "list", .ty "tuple"]) c = some (.tup xs) ∧ J = Itt K c)) := by
          rcases hq1 with h | h
          · exact ⟨Itl K c, .lst xs, h, fun H' e => .inl e, walk_list.mono (fun H e => SqL.of e) (fun _ _ _ _ _ _ y => y), .inl ⟨h, rfl⟩⟩
          · exact ⟨Itt K c, .tup xs, h, fun H' e => .inr e, walk_tup.mono (fun H e => SqT.of e) (fun _ _ _ _ _ _ y => y), .inr ⟨h, rfl⟩⟩
        obtain ⟨J, o, ho, hsq, wJ, hR⟩ := wk
        have St1 := St.ext (ExtN.of s1)
        have dts1 := DatTs.but (KeepBut.same s1) St.ha St.hb dts
        have pw : 1000 ^ (n' + 1) = 1000 ^ n' * 1000 := Nat.pow_succ ..
        have p0 : 0 < 1000 ^ n' := Nat.pow_pos (by decide)
        have p3 : 1000 ^ n' ≤ 1000 ^ 2 := Nat.pow_le_pow_right (by decide) (by omega)
        rcases hR with ⟨hc, rfl⟩ | ⟨hc, rfl⟩
        all_goals
          first | refine .inl ⟨_, rfl, c, rfl, ⟨_, SqL.of hc⟩, fun D hD => ?_⟩ | refine .inr ⟨_, rfl, c, rfl, ⟨_, SqT.of hc⟩, fun D hD => ?_⟩
          have hDH := s1.free hD
          obtain ⟨Da, Db⟩ := St1.nd hD
          refine lc_it wJ (fun i H' => ∃ (ys : List V) (S : List Addr), Stm H' a b (B + i * 1000 ^ n') ∧ KeepBut a b (upd H p1 (.tup [.ty "list", .ty "tuple"])) H' ∧ H' D = some (.lst ys) ∧ ys.length = i ∧ OutTs H' (ts.take i) ys S ∧ ∀ s ∈ S, H s = none ∧ s ≠ D) ?_ (fun i H' _ ⟨ys, S, _, kb, _⟩ => kb c o h1 h2 ho) ?_ ?_
          · exact ⟨[], [], (St1.set Da Db).up (by omega), KeepBut.new hD, upd_same, rfl, .nil, fun s hs => by simp at hs⟩
          · rintro i v H2 H3 hi ⟨ys, S, St2, kb, hD2, hly, ot, hS⟩ ⟨rfl, hv⟩
            obtain ⟨t1, ht1, dt1⟩ := DatTs.at_ dts1 hv
            refine ⟨rfl, _, rfl, _, rfl, a, b, B + i * 1000 ^ n', v, t1, rfl, St2, ?_, DatT.but kb St1.ha St1.hb dt1, hdep t1 (List.mem_of_getElem? ht1), by omega, fun H4 x' S' St4 kb4 ot4 hS' => ?_⟩
            · have h5 : (i + 1) * 1000 ^ n' ≤ 200 * 1000 ^ n' := Nat.mul_le_mul_right _ (by omega)
              have h6 : (i + 1) * 1000 ^ n' = i * 1000 ^ n' + 1000 ^ n' := Nat.succ_mul ..
              omega
            have hD4 := kb4 D _ Da Db hD2
            have kbA := (KeepBut.same s1).trans (kb.trans kb4)
            have fr : ∀ s ∈ S', H s = none ∧ s ≠ D := fun s hs => ⟨kb_free ((KeepBut.same s1).trans kb) St2.na.1 St2.na.2 (hS' s hs), fun z => by
              have := hS' s hs
              rw [z, hD2] at this
              cases this⟩
            have live : ∀ s ∈ S, H3 s ≠ none := OutTs.live ot
            have keepS : ∀ s ∈ S, ∀ o, H3 s = some o → upd H4 D (.lst (ys ++ [x'])) s = some o := fun s hs o e => by
              rw [upd_ne (hS s hs).2]
              exact kb4 s o (fun z => St.na.1 (z ▸ (hS s hs).1)) (fun z => St.na.2 (z ▸ (hS s hs).1)) e
            have ot4' : OutT (upd H4 D (.lst (ys ++ [x']))) t1 x' S' := OutT.keep (fun s hs o e => by
              rw [upd_ne (fr s hs).2]
              exact e) ot4
            obtain ⟨S2, ot2, m2⟩ := OutTs.snoc ot4' (OutTs.keep keepS ot) (fun s hs z => live s hs (hS' s z))
            refine ⟨ys, hD4, small1000 (by omega), ys ++ [x'], S2, (St4.set Da Db).up ?_, (kb.trans kb4).un hD, upd_same, by rw [List.length_append, hly]; rfl, ?_, fun s hs => ?_⟩
            · have : (i + 1) * 1000 ^ n' = i * 1000 ^ n' + 1000 ^ n' := Nat.succ_mul ..
              omega
            · rw [List.take_add_one, ht1]
              exact ot2
            · rcases (m2 s).mp hs with z | z
              · exact hS s z
              · exact fr s z
          · rintro H2 ⟨ys, S, St2, kb, hD2, hly, ot, hS⟩
            have lts := DatTs.len dts
            rw [List.take_of_length_le (by omega)] at ot
            have b1 : xs.length * 1000 ^ n' ≤ 200 * 1000 ^ n' := Nat.mul_le_mul_right _ hlen
            have b2 : 200 * 1000 ^ n' ≤ 200 * 1000 ^ 2 := Nat.mul_le_mul_left _ p3
            refine ⟨_, rfl, a, b, B + xs.length * 1000 ^ n', 3, rfl, St2, by omega, by decide, by decide, fun H3 d d0 d1 St3 kb3 => ?_⟩
            have hD3 := kb3 D _ Da Db hD2
            have keepS : ∀ s ∈ S, ∀ o, H2 s = some o → H3 s = some o := fun s hs o e => kb3 s o (fun z => St.na.1 (z ▸ (hS s hs).1)) (fun z => St.na.2 (z ▸ (hS s hs).1)) e
            have ot3 := OutTs.keep keepS ot
            have kbA := (KeepBut.same s1).trans (kb.trans kb3)
            refine ⟨rfl, _, rfl, ite2 (fun hz => ?_) (fun hz => ?_)⟩
            · refine ⟨_, rfl, k H3 _ (D :: S) (St3.up (by omega)) kbA (.node (.inl hD3) ot3 (fun z => (hS D z).2 rfl)) fun s hs => ?_⟩
              rcases List.mem_cons.mp hs with z | z
              · rw [z]
                exact hDH
              · exact (hS s z).1
            · refine ⟨_, rfl, D, _, rfl, .inl ⟨SqL.of hD3, fun l hl => ?_⟩⟩
              have sl := sameUp (o := .tup ys) hl
              refine k _ _ (l :: S) ((St3.ext (ExtN.of sl)).up (by omega)) (kbA.trans (KeepBut.same sl)) (.node (.inr upd_same) (OutTs.keep (fun s hs o e => sl s o e) ot3) (fun z => OutTs.live ot3 l z hl)) fun s hs => ?_
              rcases List.mem_cons.mp hs with z | z
              · rw [z]
                exact kb_free kbA St3.na.1 St3.na.2 hl
              · exact (hS s z).1
theorem ok_loose {f fD : Addr} {fd fdD : FuncData} (F : Fun K "_law_loose" "_law_loose" sLoose f fd) (bP : Binds K fd ["_law_stream", "_law_thing"] []) (gP : mg "_law_loose" = some (.ref f))
    (GD : FnOk P w K mg base CX0 1 fD fdD ["_law_stream", "_law_many"] spDrawB) (kD : PySem.W.keepIn K (.ref fD) = true) (bD : Binds K fdD ["_law_stream", "_law_many"] []) (gD : mg "_law_draw" = some (.ref fD))
    (gIs : mg "isinstance" = none) (gList : mg "list" = none) (gTuple : mg "tuple" = none) : ∀ n, FnOk P w K mg base CX0 (n + 2) f fd ["_law_stream", "_law_thing"] (spLoose K n)
  | 0 => loose_step F bP gP ⟨fun _ _ _ _ h => h.elim, fun _ _ _ _ _ _ _ _ _ _ _ _ _ h => h.elim⟩ GD kD bD gD gIs gList gTuple
  | n + 1 => loose_step F bP gP (ok_loose F bP gP GD kD bD gD gIs gList gTuple n) GD kD bD gD gIs gList gTuple
end
end Mn
/-! _law_pick, _law_a_name, _law_a_names -/
namespace Mn
open PySem PySem.Spec PyProof.Rows L2 Md Me Ml LamX
abbrev sPick : Stmt := top 43
abbrev sName : Stmt := top 31
abbrev sNames : Stmt := top 32
def goodNm (x : Str) : Bool := isNm x && (PyData.strOk x && (decide (x.length ≤ 8) && !decide (x = "nobody")))
theorem goodNm.nm {x : Str} (h : goodNm x = true) : isNm x = true := (Bool.and_eq_true_iff.mp h).1
theorem goodNm.ok {x : Str} (h : goodNm x = true) : PyData.strOk x = true := (Bool.and_eq_true_iff.mp (Bool.and_eq_true_iff.mp h).2).1
theorem goodNm.len {x : Str} (h : goodNm x = true) : x.length ≤ 8 := of_decide_eq_true (Bool.and_eq_true_iff.mp (Bool.and_eq_true_iff.mp (Bool.and_eq_true_iff.mp h).2).2).1
theorem goodNm.no {x : Str} (h : goodNm x = true) : x ≠ "nobody" := of_decide_eq_false (by
  have := (Bool.and_eq_true_iff.mp (Bool.and_eq_true_iff.mp (Bool.and_eq_true_iff.mp h).2).2).2
  simpa using this)
/-- a name that is drawn: it is not the one that the law adds -/
def goodNm2 (x : Str) : Bool := goodNm x && !decide (x = "extra1")
theorem goodNm2.good {x : Str} (h : goodNm2 x = true) : goodNm x = true := (Bool.and_eq_true_iff.mp h).1
theorem goodNm2.ne {x : Str} (h : goodNm2 x = true) : x ≠ "extra1" := of_decide_eq_false (by
  have := (Bool.and_eq_true_iff.mp h).2
  simpa using this)
def some14 : List Str := ["ann", "bo", "cy", "an", "a", "b", "x9", "n0", "annabel", "eightsgn", "zz9", "rules", "persona", "r"]
theorem some14_good : ∀ x ∈ some14, goodNm2 x = true := by decide +kernel
def pn (k : Nat) : Str := "p" ++ toString (k : Int)
theorem pn_good : ∀ k, k < 100 → goodNm2 (pn k) = true := by decide +kernel
theorem pn_nodup : ((List.range 100).map pn).Nodup := by decide +kernel
theorem pn_inj {i j : Nat} (hi : i < 100) (hj : j < 100) (h : pn i = pn j) : i = j := by
  have e : ((List.range 100).map pn)[i]? = ((List.range 100).map pn)[j]? := by
    rw [List.getElem?_map, List.getElem?_map, List.getElem?_range hi, List.getElem?_range hj]
    exact congrArg some h
  exact (List.getElem?_inj (by simpa using hi) pn_nodup).mp e
theorem pigeon {α : Type} [DecidableEq α] : ∀ {l1 l2 : List α}, l1.Nodup → (∀ x ∈ l1, x ∈ l2) → l1.length ≤ l2.length
  | [], _, _, _ => Nat.zero_le _
  | x :: l1, l2, nd, h => by
    have hx := h x (by simp)
    have ih := pigeon (l1 := l1) (l2 := l2.erase x) (List.nodup_cons.mp nd).2 fun y hy => (List.mem_erase_of_ne (fun z => (List.nodup_cons.mp nd).1 (by rw [← z]; exact hy))).mpr (h y (by simp [hy]))
    rw [List.length_erase_of_mem hx] at ih
    have : 0 < l2.length := List.length_pos_of_mem hx
    simp
    omega
def spPick (K : PySem.W.Frag) : Sp := fun vs H Q _ => ∃ (a b c : Addr) (B : Nat) (xs : List V), vs = [.ref a, .ref c] ∧ Stm H a b B ∧ B < 1000000000000 ∧ c ≠ a ∧ c ≠ b ∧ H c = some (.lst xs) ∧ 0 < xs.length ∧ xs.length ≤ 1000 ∧
  ∀ (H' : Hp) (x : V), x ∈ xs → Stm H' a b (B + 1) → KeepBut a b H H' → Q x H'
def spName (K : PySem.W.Frag) : Sp := fun vs H Q _ => ∃ (a b c : Addr) (B : Nat) (ns : List Str), vs = [.ref a, .ref c] ∧ Stm H a b B ∧ B < 1000000000000 ∧ c ≠ a ∧ c ≠ b ∧ H c = some (.lst (ns.map V.str)) ∧ ns.length ≤ 63 ∧
  ∀ (H' : Hp) (x : Str), x ∉ ns → goodNm2 x = true → Stm H' a b (B + 1) → KeepBut a b H H' → Q (.str x) H'
def spNames (K : PySem.W.Frag) : Sp := fun vs H Q _ => ∃ (a b : Addr) (B m : Nat), vs = [.ref a, .int m] ∧ Stm H a b B ∧ B + 100 < 1000000000000 ∧ m ≤ 63 ∧
  ∀ (H' : Hp) (l : Addr) (ns : List Str), ns.length = m → ns.Nodup → (∀ x ∈ ns, goodNm2 x = true) → H l = none → H' l = some (.lst (ns.map V.str)) → Stm H' a b (B + 100) → KeepBut a b H H' → Q (.ref l) H'
theorem flat_strs (ns : List Str) : (ns.map V.str).all flatV = true := List.all_eq_true.mpr fun v hv => by
  obtain ⟨n, _, rfl⟩ := List.mem_map.mp hv
  rfl
theorem inV_strs {x : Str} : ∀ {ns : List Str}, inV (.str x) (ns.map V.str) = decide (x ∈ ns)
  | [] => by simp [inV]
  | n :: r => by
    have ih := inV_strs (x := x) (ns := r)
    unfold inV at ih ⊢
    rw [List.map_cons, List.any_cons, ih]
    have e : eqV (V.str n) (V.str x) = decide (n = x) := rfl
    rw [e]
    by_cases h1 : n = x
    · subst h1
      simp
    · have h2 : ¬ x = n := fun z => h1 z.symm
      rw [decide_eq_false h1]
      by_cases h3 : x ∈ r
      · rw [decide_eq_true h3, decide_eq_true (by simp [h3])]
        rfl
      · rw [decide_eq_false h3, decide_eq_false (by simp [h2, h3])]
        rfl
section
variable {P : Program} {w : World} {K : PySem.W.Frag} {mg : Str → Option Value} {base : Heap}
theorem scPick : FnScope ["_law_stream", "_law_some"] ["_law_stream", "_law_some"] (defScope sPick) := ⟨rfl, rfl, rfl, by decide +kernel, rfl, by decide +kernel, by decide +kernel⟩
theorem scName : FnScope ["_law_stream", "_law_taken", "_law_some", "_law_name", "_law_number"] ["_law_stream", "_law_taken"] (defScope sName) := ⟨rfl, rfl, rfl, by decide +kernel, rfl, by decide +kernel, by decide +kernel⟩
theorem scNames : FnScope ["_law_stream", "_law_many", "_law_found", "_law_k"] ["_law_stream", "_law_many"] (defScope sNames) := ⟨rfl, rfl, rfl, by decide +kernel, rfl, by decide +kernel, by decide +kernel⟩
theorem ok_pick {f fD : Addr} {fd fdD : FuncData} (F : Fun K "_law_pick" "_law_pick" sPick f fd) (GD : FnOk P w K mg base CX0 1 fD fdD ["_law_stream", "_law_many"] spDrawB) (kD : PySem.W.keepIn K (.ref fD) = true) (bD : Binds K fdD ["_law_stream", "_law_many"] []) (gD : mg "_law_draw" = some (.ref fD)) (gLen : mg "len" = none) : FnOk P w K mg base CX0 2 f fd ["_law_stream", "_law_some"] (spPick K) := by
  refine F.ok scPick (fun vs H Q E h => ?_) (fun cdv A outer s H vs Q E hr h => ?_)
  · obtain ⟨a, b, c, B, xs, rfl, _⟩ := h
    rfl
  · obtain ⟨a, b, c, B, xs, rfl, S, hB, ca, cb, hc, h0, hn, k⟩ := h
    refine ⟨_, pss_one (ps_ret (pe_ix ix_list (pv 1) (pe_call GD (hr) rfl gD kD bD .nil pass0 (pa_cons (pv 0) (pa_cons (pe_callB call_len_seq (by rfl) gLen PySem.boot_len (pa_cons (pv 1) pa_nil)) pa_nil))) (fun _ _ => rfl))), ?_⟩
    refine ⟨_, rfl, _, rfl, _, rfl, c, xs, rfl, .inl (SqL.of hc), a, b, B, _, rfl, S, hB, by omega, by omega, fun H2 d d0 d1 S2 kb => ?_⟩
    obtain ⟨i, rfl⟩ := Int.eq_ofNat_of_zero_le d0
    have hlt : i < xs.length := by omega
    exact ⟨c, xs, (i : Int), xs[i], rfl, rfl, SqL.of (kb c _ ca cb hc), atI_nat (by simp [hlt]), k _ _ (List.getElem_mem hlt) S2 kb⟩
theorem ok_name {f fK : Addr} {fd fdK : FuncData} (F : Fun K "_law_a_name" "_law_a_name" sName f fd) (GK : FnOk P w K mg base CX0 2 fK fdK ["_law_stream", "_law_some"] (spPick K)) (kK : PySem.W.keepIn K (.ref fK) = true) (bK : Binds K fdK ["_law_stream", "_law_some"] []) (gK : mg "_law_pick" = some (.ref fK))
    (gStr : mg "str" = none) : FnOk P w K mg base CX0 3 f fd ["_law_stream", "_law_taken"] (spName K) := by
  refine F.ok scName (fun vs H Q E h => ?_) (fun cdv A outer s H vs Q E hr h => ?_)
  · obtain ⟨a, b, c, B, ns, rfl, _⟩ := h
    rfl
  · obtain ⟨a, b, c, B, ns, rfl, S, hB, ca, cb, hc, hn, k⟩ := h
    have nd := scName.nd
    refine ⟨_, pss_cons (ps_set (i := 2) nd rfl (Or.inl rfl) (pe_lst (pa_cons pe_str (pa_cons pe_str (pa_cons pe_str (pa_cons pe_str (pa_cons pe_str (pa_cons pe_str (pa_cons pe_str (pa_cons pe_str (pa_cons pe_str (pa_cons pe_str (pa_cons pe_str (pa_cons pe_str (pa_cons pe_str (pa_cons pe_str pa_nil))))))))))))))))
      (pss_cons (ps_par (i := 3) (j := 4) rfl nd rfl rfl (by decide) rfl rfl (pa_cons (pe_call GK hr rfl gK kK bK .nil pass0 (pa_cons (pv 0) (pa_cons (pv 2) pa_nil))) (pa_cons pe_int pa_nil)) rfl)
      (pss_cons (ps_while PassesOwn.never (pt_cmpR op_in_seq (pv 3) (pv 1) (by with_unfolding_all rfl)) (pss_one (ps_par (i := 3) (j := 4) rfl nd rfl rfl (by decide) rfl rfl (pa_cons (pe_op op_add_str pe_str (pe_callTy call_str_int rfl gStr boot_str2 (pa_cons (pv 4) pa_nil))) (pa_cons (pe_op op_add (pv 4) pe_int) pa_nil)) rfl)))
      (pss_one (ps_ret (pv 3))))), ?_⟩
    refine ⟨show 14 ≤ sizeLine by decide, fun p np => ?_⟩
    have S1 := S.ext (ExtN.of (sameUp (o := .lst (some14.map V.str)) np))
    obtain ⟨pa, pb⟩ := S.nd np
    refine ⟨_, rfl, _, rfl, a, b, p, B, some14.map V.str, rfl, S1, hB, pa, pb, upd_same, by decide, by decide, fun H2 x hx S2 kb => ?_⟩
    obtain ⟨n0, hn0, rfl⟩ := List.mem_map.mp hx
    have kb2 : KeepBut a b H H2 := (KeepBut.same (sameUp np)).trans kb
    have hc2 := kb2 c _ ca cb hc
    refine ⟨_, _, rfl, ?_⟩
    refine while_by2 (fun σ H' => H' = H2 ∧ ∃ (j : Nat) (x : Str), σ = [some (.ref a), some (.ref c), some (.ref p), some (.str x), some (.int (j : Int))] ∧ goodNm2 x = true ∧ (∀ i, i + 1 < j → pn i ∈ ns) ∧ j ≤ ns.length + 1 ∧ (0 < j → x = pn (j - 1)))
      (fun σ _ => match σ with
        | [_, _, _, _, some (.int j)] => ns.length + 1 - j.toNat
        | _ => 0) (fun σ H' => H' = H2 ∧ ∃ (x : Str) (o : Option V), σ = [some (.ref a), some (.ref c), some (.ref p), some (.str x), o] ∧ goodNm2 x = true ∧ x ∉ ns) ?_ ?_ ?_ ?_
    · exact ⟨rfl, 0, n0, rfl, some14_good _ hn0, fun i h => by omega, by omega, fun h => by omega⟩
    · rintro σ H3 ⟨rfl, j, x, rfl, gx, hj, hl, hx2⟩
      refine ⟨_, rfl, _, rfl, c, ns.map V.str, rfl, .inl (SqL.of hc2), rfl, flat_strs ns, ?_⟩
      refine ⟨_, rfl, ?_⟩
      show (if inV (.str x) (ns.map V.str) = true then _ else _)
      rw [inV_strs]
      refine ite2 (fun h => ?_) (fun h => ?_)
      · have hx3 : x ∈ ns := of_decide_eq_true h
        have all : ∀ i, i < j → pn i ∈ ns := fun i hi => by
          by_cases z : i + 1 < j
          · exact hj i z
          · have e : i = j - 1 := by omega
            rw [e, ← hx2 (by omega)]
            exact hx3
        have hj2 : j ≤ ns.length := by
          have := pigeon (l1 := (List.range j).map pn) (l2 := ns) (by
            rw [List.nodup_iff_pairwise_ne, List.pairwise_map]
            exact List.nodup_range.imp_of_mem fun {x y} hx hy n z => n (pn_inj (by have := List.mem_range.mp hx; omega) (by have := List.mem_range.mp hy; omega) z)) fun y hy => by
            obtain ⟨i, hi, rfl⟩ := List.mem_map.mp hy
            exact all i (List.mem_range.mp hi)
          simpa using this
        have gp := pn_good j (by omega)
        have gp := pn_good j (by omega)
        refine ⟨_, rfl, _, rfl, ?_, "p", _, rfl, rfl, ?_, _, rfl, _, _, rfl, rfl, _, _, rfl, ?_⟩
        · show (j : Int).natAbs.log2 < 1920
          have h1 : (j : Int).natAbs.log2 ≤ (j : Int).natAbs := Nat.log2_le_self _
          omega
        · have h1 : ∀ j : Nat, j < 100 → ("p" : Str).length + (toString (j : Int) : Str).length ≤ 10 := by decide +kernel
          exact Nat.le_trans (h1 j (by omega)) (by decide)
        · refine ⟨⟨rfl, j + 1, pn j, rfl, gp, fun i hi => all i (by omega), by omega, fun _ => rfl⟩, ?_⟩
          show ns.length + 1 - ((j : Int) + 1).toNat < ns.length + 1 - (j : Int).toNat
          omega
      · exact ⟨rfl, x, _, rfl, gx, of_decide_eq_false (Bool.eq_false_iff.mpr h)⟩
    · rintro σ H Q Q' hq ⟨v, e1, u, e2, p, xs, e3, e4, e5, e6, z, e7, h⟩
      exact ⟨v, e1, u, e2, p, xs, e3, e4, e5, e6, z, e7, hq _ _ h⟩
    · rintro σ H3 ⟨rfl, x, o, rfl, gx, hx3⟩
      exact ⟨_, rfl, k _ x hx3 gx S2 kb2⟩
theorem ok_names {f fN : Addr} {fd fdN : FuncData} (F : Fun K "_law_a_names" "_law_a_names" sNames f fd) (GN : FnOk P w K mg base CX0 3 fN fdN ["_law_stream", "_law_taken"] (spName K)) (kN : PySem.W.keepIn K (.ref fN) = true) (bN : Binds K fdN ["_law_stream", "_law_taken"] []) (gN : mg "_law_a_name" = some (.ref fN))
    (gRange : mg "range" = none) : FnOk P w K mg base CX0 4 f fd ["_law_stream", "_law_many"] (spNames K) := by
  refine F.ok scNames (fun vs H Q E h => ?_) (fun cdv A outer s H vs Q E hr h => ?_)
  · obtain ⟨a, b, B, m, rfl, _⟩ := h
    rfl
  · obtain ⟨a, b, B, m, rfl, S, hB, hm, k⟩ := h
    have nd := scNames.nd
    refine ⟨_, pss_cons (ps_set (i := 2) nd rfl (Or.inl rfl) (pe_lst pa_nil))
      (pss_cons (ps_for PassesOwn.never rfl (pi_range1 rfl gRange (pa_cons (pv 1) pa_nil)) (pg_name (i := 3) nd rfl (Or.inl rfl)) (pss_one (ps_expr (pe_bm PySem.F.plainAttrs_list PySem.F.slot_list_append PySem.F.type_list_append mt_append (pv 2) (pa_cons (pe_call GN hr rfl gN kN bN .nil pass0 (pa_cons (pv 0) (pa_cons (pv 2) pa_nil))) pa_nil)))))
      (pss_one (ps_ret (pv 2)))), ?_⟩
    refine ⟨Nat.zero_le _, fun p np => ?_⟩
    obtain ⟨pa, pb⟩ := S.nd np
    refine ⟨_, rfl, _, rfl, by omega, by omega, ?_⟩
    have e0 : ((m : Int)).toNat = m := by omega
    rw [e0]
    refine for_it walk_range (fun i σ H' => ∃ (ns : List Str) (o : Option V), σ = [some (.ref a), some (.int m), some (.ref p), o] ∧ ns.length = i ∧ ns.Nodup ∧ (∀ x ∈ ns, goodNm2 x = true) ∧ H' p = some (.lst (ns.map V.str)) ∧ Stm H' a b (B + i) ∧ KeepBut a b H H') ?_ (fun _ _ _ _ _ => trivial) ?_ ?_
    · exact ⟨[], none, rfl, rfl, by simp, by simp, upd_same, S.ext (ExtN.of (sameUp np)), KeepBut.new np⟩
    · rintro i v σ H2 H3 hi ⟨ns, o, rfl, hl, hnd, hg, hp, S2, kb⟩ ⟨rfl, e⟩
      refine ⟨_, rfl, .inl ⟨rfl, _, SqL.of hp⟩, _, rfl, _, rfl, a, b, p, B + i, ns, rfl, S2, by omega, pa, pb, hp, by omega, fun H4 x hx gx S4 kb4 => ?_⟩
      have hp4 := kb4 p _ pa pb hp
      refine ⟨p, _, _, rfl, rfl, hp4, small1000 (by rw [List.length_map]; omega), ns ++ [x], _, rfl, ?_, ?_, ?_, ?_, ?_, ?_⟩
      · rw [List.length_append, hl]
        rfl
      · rw [List.nodup_append]
        exact ⟨hnd, by simp, fun y hy z hz e => hx (by
          have e2 : z = x := by simpa using hz
          rw [← e2, ← e]
          exact hy)⟩
      · intro y hy
        rcases List.mem_append.mp hy with z | z
        · exact hg y z
        · have e2 : y = x := by simpa using z
          rw [e2]
          exact gx
      · rw [upd_same, List.map_append]
        rfl
      · exact (S4.set pa pb).up (by omega)
      · exact (kb.trans kb4).un np
    · rintro σ H2 ⟨ns, o, rfl, hl, hnd, hg, hp, S2, kb⟩
      exact ⟨_, rfl, k H2 p ns hl hnd hg np hp (S2.up (by omega)) kb⟩
end
end Mn
/-! _law_a_rows -/
namespace Mn
open PySem PySem.Spec PyProof.Rows L2 Md Me Ml LamX
abbrev sARows : Stmt := top 33
/-! ### rows by lists -/
def rwOf (ys : List Str) (rs : List (List Str)) (n : Str) : List Str := match (ys.zip rs).find? (fun p => decide (p.1 = n)) with
  | some p => p.2
  | none => []
theorem rwOf_at : ∀ {ys : List Str} {rs : List (List Str)} {j : Nat} {n : Str} {r : List Str}, ys.Nodup → ys[j]? = some n → rs[j]? = some r → rwOf ys rs n = r
  | [], _, _, _, _, _, h, _ => by simp at h
  | _ :: _, [], _, _, _, _, _, h => by simp at h
  | y :: ys, r0 :: rs, 0, n, r, nd, h1, h2 => by
    have e1 : y = n := by simpa using h1
    have e2 : r0 = r := by simpa using h2
    subst e1 e2
    unfold rwOf
    rw [List.zip_cons_cons, List.find?_cons, decide_eq_true rfl]
  | y :: ys, r0 :: rs, j + 1, n, r, nd, h1, h2 => by
    have h1' : ys[j]? = some n := by simpa using h1
    have h2' : rs[j]? = some r := by simpa using h2
    have ne : ¬ y = n := fun z => (List.nodup_cons.mp nd).1 (by rw [z]; exact List.mem_of_getElem? h1')
    have ih := rwOf_at (List.nodup_cons.mp nd).2 h1' h2'
    unfold rwOf at ih ⊢
    rw [List.zip_cons_cons, List.find?_cons, decide_eq_false ne]
    exact ih
structure GoodRow (ys : List Str) (n : Str) (r : List Str) : Prop where
  nd : r.Nodup
  ne : n ∉ r
  sub : ∀ x ∈ r, x ∈ ys
def GoodRows (ys : List Str) (rw_ : Str → List Str) : Prop := ∀ n ∈ ys, GoodRow ys n (rw_ n)
/-- new rows by lists, laid one after the other, while the stream is drawn from -/
structure RowsK (a b : Addr) (H0 H1 : Hp) (D : Addr) (ys : List Str) (rs : List (List Str)) (i : Nat) (bs : List Addr) : Prop where
  k : KeepBut a b H0 H1
  l : bs.length = i
  lr : rs.length = i
  d : H1 D = some (.dK (((ys.take i).zip bs).map fun p => (Sum.inr p.1, V.ref p.2)))
  r : ∀ (j : Nat) (r : List Str) (c : Addr), rs[j]? = some r → bs[j]? = some c → H1 c = some (.lst (r.map V.str))
  f : ∀ c ∈ bs, H0 c = none
  n : bs.Nodup
  g : ∀ (j : Nat) (r : List Str) (n : Str), rs[j]? = some r → ys[j]? = some n → GoodRow ys n r
theorem RowsK.nil {a b : Addr} {H0 : Hp} {D : Addr} {ys : List Str} (h : H0 D = none) : RowsK a b H0 (upd H0 D (.dK [])) D ys [] 0 [] := ⟨KeepBut.new h, rfl, rfl, upd_same, fun j r c h1 _ => by simp at h1, fun b hb => absurd hb (by simp), by simp, fun j r n h1 _ => by simp at h1⟩
theorem lt_of_get {α : Type} {xs : List α} {i : Nat} {x : α} (h : xs[i]? = some x) : i < xs.length := by
  rcases Nat.lt_or_ge i xs.length with q | q
  · exact q
  · rw [List.getElem?_eq_none q] at h
    cases h
theorem snoc_get {α : Type} {xs : List α} {x y : α} {j : Nat} (h : (xs ++ [x])[j]? = some y) : (j < xs.length ∧ xs[j]? = some y) ∨ (j = xs.length ∧ y = x) := by
  by_cases hj : j < xs.length
  · rw [List.getElem?_append_left hj] at h
    exact .inl ⟨hj, h⟩
  · have hl := lt_of_get h
    have e : j = xs.length := by
      simp at hl
      omega
    subst e
    rw [List.getElem?_append_right (Nat.le_refl _)] at h
    simp at h
    exact .inr ⟨rfl, h.symm⟩
theorem KeepBut.free {H0 H1 : Hp} {a b c : Addr} (S : ∃ B, Stm H1 a b B) (k : KeepBut a b H0 H1) (h : H1 c = none) : H0 c = none := by
  obtain ⟨B, S⟩ := S
  exact kb_free k S.na.1 S.na.2 h
theorem RowsK.snoc {a b : Addr} {H0 H1 H2 : Hp} {D l : Addr} {ys : List Str} {rs : List (List Str)} {i : Nat} {bs : List Addr} {n : Str} {r : List Str} {B : Nat} (R : RowsK a b H0 H1 D ys rs i bs) (nd : ys.Nodup) (hl : ys.length ≤ 63) (hD : H0 D = none) (Da : D ≠ a) (Db : D ≠ b) (hn : ys[i]? = some n) (k2 : KeepBut a b H1 H2)
    (S0 : ∃ B, Stm H0 a b B) (S2 : Stm H2 a b B) (hl2 : H2 l = none) (hg : GoodRow ys n r) :
    ∃ kvs, upd H2 l (.lst (r.map V.str)) D = some (.dK kvs) ∧ kvs.length < sizeLine ∧ RowsK a b H0 (upd (upd H2 l (.lst (r.map V.str))) D (.dK (putK kvs (Sum.inr n) (.ref l)))) D ys (rs ++ [r]) (i + 1) (bs ++ [l]) := by
  have s3 := sameUp (o := .lst (r.map V.str)) hl2
  have hD2 := k2 D _ Da Db R.d
  have hD3 := s3 _ _ hD2
  have lD : l ≠ D := (ne_of_none hD2 hl2).symm
  have hil := lt_of_get hn
  have kA := R.k.trans (k2.trans (KeepBut.same s3))
  obtain ⟨B0, S0⟩ := S0
  refine ⟨_, hD3, ?_, ⟨kA.un hD, ?_, ?_, ?_, fun j r' c h1 h2 => ?_, fun c hc => ?_, ?_, fun j r' m h1 h2 => ?_⟩⟩
  · rw [List.length_map, List.length_zip]
    refine Nat.lt_of_le_of_lt (Nat.min_le_right _ _) ?_
    rw [R.l]
    exact small1000 (by omega)
  · rw [List.length_append, R.l]
    rfl
  · rw [List.length_append, R.lr]
    rfl
  · rw [upd_same, putK_new, zip_snoc R.l hn, List.map_append]
    · rfl
    · intro kv hk z
      obtain ⟨⟨m, c⟩, hm, rfl⟩ := List.mem_map.mp hk
      have e3 : m = n := Sum.inr.inj z
      subst e3
      have hm2 := (List.of_mem_zip hm).1
      obtain ⟨j, hj⟩ := List.getElem?_of_mem hm2
      have hji : j < i := by
        rcases Nat.lt_or_ge j i with q | q
        · exact q
        · rw [List.getElem?_take, if_neg (by omega)] at hj
          cases hj
      rw [List.getElem?_take_of_lt hji] at hj
      have := (List.getElem?_inj (by omega) nd).mp (hj.trans hn.symm)
      omega
  · rcases snoc_get h1 with ⟨q1, h1⟩ | ⟨e1, rfl⟩
    · rcases snoc_get h2 with ⟨_, h2⟩ | ⟨e2, _⟩
      · have h4 := R.r j r' c h1 h2
        have cD : c ≠ D := fun z => by
          have hd := R.d
          rw [z, hd] at h4
          cases h4
        have h0 := R.f c (List.mem_of_getElem? h2)
        obtain ⟨ca, cb⟩ := S0.nd h0
        rw [upd_ne cD]
        exact s3 _ _ (k2 c _ ca cb h4)
      · have e3 := R.l
        have e4 := R.lr
        omega
    · rcases snoc_get h2 with ⟨q2, _⟩ | ⟨_, rfl⟩
      · have e3 := R.l
        have e4 := R.lr
        omega
      · rw [upd_ne lD, upd_same]
  · rcases List.mem_append.mp hc with z | z
    · exact R.f c z
    · have e : c = l := by simpa using z
      rw [e]
      exact kb_free (R.k.trans k2) S2.na.1 S2.na.2 hl2
  · rw [List.nodup_append]
    refine ⟨R.n, by simp, fun c hc d hd z => ?_⟩
    have e : d = l := by simpa using hd
    rw [z, e] at hc
    obtain ⟨j, hj⟩ := List.getElem?_of_mem hc
    have hjl := lt_of_get hj
    obtain ⟨r', hr'⟩ : ∃ r', rs[j]? = some r' := ⟨rs[j]'(by have := R.l; have := R.lr; omega), List.getElem?_eq_getElem _⟩
    have h0 := R.f l (List.mem_of_getElem? hj)
    obtain ⟨ca, cb⟩ := S0.nd h0
    have h4 := k2 l _ ca cb (R.r j r' l hr' hj)
    rw [hl2] at h4
    cases h4
  · rcases snoc_get h1 with ⟨_, h1⟩ | ⟨e1, rfl⟩
    · exact R.g j r' m h1 h2
    · have e4 := R.lr
      have e5 : j = i := by omega
      rw [e5, hn] at h2
      rw [← Option.some.inj h2]
      exact hg
/-- new rows, the stream drawn from -/
structure RowsN (H0 H1 : Hp) (D : Addr) (ys : List Str) (rw_ : Str → List Str) (bs : List Addr) : Prop extends RowsF H0 H1 D ys rw_ bs where
  g : GoodRows ys rw_
theorem RowsK.done {a b : Addr} {H0 H1 : Hp} {D : Addr} {ys : List Str} {rs : List (List Str)} {bs : List Addr} (nd : ys.Nodup) (hD : H0 D = none) (R : RowsK a b H0 H1 D ys rs ys.length bs) : RowsN H0 H1 D ys (rwOf ys rs) bs := by
  have rat : ∀ {j : Nat} {n : Str}, ys[j]? = some n → ∃ r, rs[j]? = some r ∧ rwOf ys rs n = r := fun {j n} h => by
    have hj := lt_of_get h
    obtain ⟨r, hr⟩ : ∃ r, rs[j]? = some r := ⟨rs[j]'(by have := R.lr; omega), List.getElem?_eq_getElem _⟩
    exact ⟨r, hr, rwOf_at nd h hr⟩
  refine ⟨⟨R.l, by have h := R.d; rw [List.take_length] at h; exact h, fun j n c h1 h2 => ?_, hD, R.f, R.n⟩, fun n hn => ?_⟩
  · obtain ⟨r, hr, e⟩ := rat h1
    rw [e]
    exact R.r j r c hr h2
  · obtain ⟨j, hj⟩ := List.getElem?_of_mem hn
    obtain ⟨r, hr, e⟩ := rat hj
    rw [e]
    exact R.g j r n hr hj
theorem perm_strs {ys : List V} {ns : List Str} (h : ys.Perm (ns.map V.str)) : ∃ ms : List Str, ms.Perm ns ∧ ys = ms.map V.str := by
  refine ⟨ys.map fun v => match v with | .str x => x | _ => "", ?_, ?_⟩
  · have h2 := h.map fun v => match v with | .str x => x | _ => ("" : Str)
    rw [List.map_map] at h2
    have e : (ns.map ((fun v => match v with | .str x => x | _ => ("" : Str)) ∘ V.str)) = ns := by
      conv => rhs; rw [← List.map_id ns]
      rfl
    rw [e] at h2
    exact h2
  · rw [List.map_map]
    conv => lhs; rw [← List.map_id ys]
    refine List.map_congr_left fun v hv => ?_
    obtain ⟨n, _, rfl⟩ := List.mem_map.mp (h.subset hv)
    rfl
def spMixedB (K : PySem.W.Frag) : Sp := fun vs H Q _ => ∃ (a b c : Addr) (B : Nat) (xs : List V), vs = [.ref a, .ref c] ∧ Stm H a b B ∧ (SqL K H c xs ∨ SqT K H c xs) ∧ xs.length ≤ 1000 ∧ B + 1000 ≤ 1000000000000 ∧
  ∀ (H' : Hp) (l : Addr) (ys : List V), Stm H' a b (B + 1000) → KeepBut a b H H' → H l = none → H' l = some (.lst ys) → ys.Perm xs → Q (.ref l) H'
def spARows (K : PySem.W.Frag) : Sp := fun vs H Q _ => ∃ (a b c : Addr) (B m : Nat) (ns : List Str), vs = [.ref a, .ref c, .int m] ∧ Stm H a b B ∧ c ≠ a ∧ c ≠ b ∧ H c = some (.lst (ns.map V.str)) ∧ ns.Nodup ∧ ns.length ≤ 63 ∧ m ≤ 63 ∧ B + 200000 ≤ 1000000000000 ∧
  ∀ (H' : Hp) (D : Addr) (rw_ : Str → List Str) (bs : List Addr), Stm H' a b (B + 200000) → KeepBut a b H H' → RowsN H H' D ns rw_ bs → Q (.ref D) H'
section
variable {P : Program} {w : World} {K : PySem.W.Frag} {mg : Str → Option Value} {base : Heap}
theorem mixedB {f : Addr} {fd : FuncData} (G : FnOk P w K mg base CX0 2 f fd ["_law_stream", "_law_some"] (spMixed K)) : FnOk P w K mg base CX0 2 f fd ["_law_stream", "_law_some"] (spMixedB K) :=
  G.imp fun vs H Q E ⟨a, b, c, B, xs, e, ⟨ns, p, q, r, S, hq⟩, hc, hn, hB, k⟩ => ⟨a, b, c, ns, p, q, r, xs, e, S, hc, hn, by omega, fun H' ns' p' r' l ys S' kb h1 h2 pm => k H' l ys ⟨ns', p', q + xs.length, r', S', by push_cast; omega⟩ kb h1 h2 pm⟩
theorem scARows : FnScope ["_law_stream", "_law_people", "_law_most", "_law_found", "_law_person", "_law_others", "_law_one"] ["_law_stream", "_law_people", "_law_most"] (defScope sARows) := ⟨rfl, rfl, rfl, by decide +kernel, rfl, by decide +kernel, by decide +kernel⟩
theorem ok_aRows {f fD fX : Addr} {fd fdD fdX : FuncData} (F : Fun K "_law_a_rows" "_law_a_rows" sARows f fd) (GD : FnOk P w K mg base CX0 1 fD fdD ["_law_stream", "_law_many"] spDrawB) (kD : PySem.W.keepIn K (.ref fD) = true) (bD : Binds K fdD ["_law_stream", "_law_many"] []) (gD : mg "_law_draw" = some (.ref fD)) (GX : FnOk P w K mg base CX0 2 fX fdX ["_law_stream", "_law_some"] (spMixedB K)) (kX : PySem.W.keepIn K (.ref fX) = true) (bX : Binds K fdX ["_law_stream", "_law_some"] []) (gX : mg "_law_mixed" = some (.ref fX)) (gLen : mg "len" = none) (gMin : mg "min" = none) : FnOk P w K mg base CX0 3 f fd ["_law_stream", "_law_people", "_law_most"] (spARows K) := by
  refine F.ok scARows (fun vs H Q E h => ?_) (fun cdv A outer s H vs Q E hr h => ?_)
  · obtain ⟨a, b, c, B, m, ns, rfl, _⟩ := h
    rfl
  · obtain ⟨a, b, c, B, m, ns, rfl, S, ca, cb, hc, hnd, hn, hm, hB, k⟩ := h
    have nd := scARows.nd
    have hu := hu_of hr
    refine ⟨_, pss_cons (ps_set (i := 3) nd rfl (Or.inl rfl) pe_dnewK)
      (pss_cons (ps_for PassesOwn.never rfl (pi_list (pv 1)) (pg_name (i := 4) nd rfl (Or.inr rfl)) (pss_cons (ps_set (i := 5) nd rfl (Or.inl rfl) (pe_call GX hr rfl gX kX bX .nil pass0 (pa_cons (pv 0) (pa_cons (pe_lc (own := [("_law_one", 6)]) (g := gName 6) (tt := tTest (tOp rNe (tVar 6) (tVar 4))) (te := tVar 6) rfl nd (pi_list (pv 1)) (blkOk_by (N := ["_law_stream", "_law_people", "_law_most", "_law_found", "_law_person", "_law_others", "_law_one"]) (sc := defScope sARows) (by decide +kernel)) (fun _ _ _ _ _ => pg_name (i := 6) nd rfl (Or.inl rfl)) (fun _ _ _ _ _ => pts_one (pt_cmpR op_ne (pv 6) (pv 4) (nomark _))) (fun _ _ _ _ _ => by exact pv 6)) pa_nil))))
      (pss_one (ps_asg (pe_slice sl_list (pv 5) po_none (po_some (pe_call GD (hr.mono (by decide)) rfl gD kD bD .nil pass0 (pa_cons (pv 0) (pa_cons (pe_op op_add (pe_callB (call_min2 rfl) (by rfl) gMin (by decide +kernel) (pa_cons (pv 2) (pa_cons (pe_callB call_len_seq (by rfl) gLen PySem.boot_len (pa_cons (pv 5) pa_nil)) pa_nil))) pe_int) pa_nil))))) (pg_sub (pv 3) (pv 4) (set_dict hu))))))
      (pss_one (ps_ret (pv 3)))), ?_⟩
    refine fun D nD => ?_
    obtain ⟨Da, Db⟩ := S.nd nD
    have hc1 : upd H D (.dK []) c = some (.lst (ns.map V.str)) := sameUp nD _ _ hc
    refine ⟨_, rfl, c, rfl, ⟨_, SqL.of hc1⟩, ?_⟩
    refine for_it (walk_list (xs := ns.map V.str)) (fun i σ H' => ∃ (rs : List (List Str)) (bs : List Addr) (o4 o5 : Option V), σ = [some (.ref a), some (.ref c), some (.int m), some (.ref D), o4, o5, none] ∧ RowsK a b H H' D ns rs i bs ∧ Stm H' a b (B + i * 3000)) ?_ (fun i σ H' _ ⟨_, _, _, _, _, R, _⟩ => SqL.of (R.k c _ ca cb hc)) ?_ ?_
    · exact ⟨[], [], none, none, rfl, .nil nD, (S.ext (ExtN.of (sameUp nD))).up (by omega)⟩
    · rintro i v σ H2 H3 hi ⟨rs, bs, o4, o5, rfl, R, S2⟩ ⟨rfl, hv⟩
      rw [List.length_map] at hi
      rw [List.getElem?_map] at hv
      obtain ⟨n, hnI, rfl⟩ := Option.map_eq_some_iff.mp hv
      have hc2 := R.k c _ ca cb hc
      refine ⟨_, rfl, _, rfl, c, rfl, ⟨_, SqL.of hc2⟩, fun L hL => ?_⟩
      have sL := sameUp (o := .lst []) hL
      refine lc_it (walk_list (xs := ns.map V.str)) (fun j H' => Same H3 H' ∧ H' L = some (.lst (((ns.take j).filter fun x => !decide (x = n)).map V.str))) ⟨sL, upd_same⟩ (fun j H' _ ⟨s, _⟩ => SqL.of (s _ _ hc2)) ?_ ?_
      · rintro j v H4 H5 hj ⟨s4, hL4⟩ ⟨rfl, hv2⟩
        rw [List.length_map] at hj
        rw [List.getElem?_map] at hv2
        obtain ⟨x, hx, rfl⟩ := Option.map_eq_some_iff.mp hv2
        have ed : (!decide (V.str x = V.str n)) = !decide (x = n) := by
          by_cases z : x = n
          · rw [decide_eq_true z, decide_eq_true (congrArg V.str z)]
          · rw [decide_eq_false z, decide_eq_false (fun e => z (V.str.inj e))]
        have et : (ns.take (j + 1)).filter (fun x => !decide (x = n)) = (ns.take j).filter (fun x => !decide (x = n)) ++ if (!decide (x = n)) = true then [x] else [] := by
          rw [List.take_add_one, hx, List.filter_append]
          congr 1
          rw [show (some x).toList = [x] from rfl, List.filter_cons]
          cases (!decide (x = n)) <;> rfl
        refine ⟨rfl, _, rfl, _, rfl, rfl, _, rfl, ?_⟩
        rw [ed]
        refine ite2 (fun hz => ?_) (fun hz => ?_)
        · refine ⟨_, rfl, _, hL4, small1000 ?_, fun b' o e => ?_, ?_⟩
          · rw [List.length_map]
            have := List.length_filter_le (fun x => !decide (x = n)) (ns.take j)
            rw [List.length_take] at this
            omega
          · rw [upd_ne (ne_of_none e hL)]
            exact s4 _ _ e
          · rw [upd_same, et, if_pos hz, List.map_append]
            rfl
        · rw [et, if_neg hz, List.append_nil]
          exact ⟨s4, hL4⟩
      · rintro H4 ⟨s4, hL4⟩
        rw [List.length_map, List.take_length] at hL4
        have S4 := S2.ext (ExtN.of s4)
        have bl : B + i * 3000 + 3000 ≤ B + 189000 := by omega
        refine ⟨a, b, L, _, _, rfl, S4, .inl (SqL.of hL4), ?_, by omega, fun H5 l ys S5 kb5 hl5 hl5' pm => ?_⟩
        · rw [List.length_map]
          have := List.length_filter_le (fun x => !decide (x = n)) ns
          omega
        obtain ⟨ms, pm2, rfl⟩ := perm_strs pm
        have k5 : KeepBut a b H3 H5 := (KeepBut.same s4).trans kb5
        have hl5H : H3 l = none := s4.free hl5
        obtain ⟨la, lb⟩ := S2.nd hl5H
        refine ⟨_, rfl, _, rfl, _, rfl, _, rfl, l, _, rfl, .inl (SqL.of hl5'), _, _, rfl, _, _, rfl, rfl, a, b, _, _, rfl, S5, ?_, ?_, ?_, fun H6 d d0 d1 S6 kb6 => ?_⟩
        · omega
        · show 0 < (if ((ms.map V.str).length : Int) < (m : Int) then ((ms.map V.str).length : Int) else (m : Int)) + 1
          split <;> omega
        · have hml : ms.length ≤ 63 := by
            rw [pm2.length_eq]
            exact Nat.le_trans (List.length_filter_le _ _) hn
          show (if ((ms.map V.str).length : Int) < (m : Int) then ((ms.map V.str).length : Int) else (m : Int)) + 1 < 1073741824
          split <;> omega
        obtain ⟨e, rfl⟩ := Int.eq_ofNat_of_zero_le d0
        have hl6 := kb6 l _ la lb hl5'
        refine ⟨_, rfl, l, _, rfl, SqL.of hl6, fun p hp => ?_⟩
        have hcut : cutV (ms.map V.str) none (some (e : Int)) = (ms.take e).map V.str := by
          unfold cutV
          rw [HT.sIx_none, HT.sIx_nat, List.drop_zero, Nat.sub_zero, List.map_take]
          by_cases hle : e ≤ (ms.map V.str).length
          · rw [Nat.min_eq_left hle]
          · rw [Nat.min_eq_right (by omega), List.take_of_length_le (Nat.le_refl _), List.take_of_length_le (by omega)]
        rw [hcut]
        have gr : GoodRow ns n (ms.take e) := by
          have hmem : ∀ x ∈ ms.take e, x ∈ ns.filter fun x => !decide (x = n) := fun x hx => pm2.subset (List.mem_of_mem_take hx)
          refine ⟨((pm2.nodup_iff.mpr (hnd.filter _))).sublist (List.take_sublist _ _), fun hx => ?_, fun x hx => (List.mem_filter.mp (hmem x hx)).1⟩
          have := (List.mem_filter.mp (hmem n hx)).2
          simp at this
        obtain ⟨kvs, q1, q2, q3⟩ := R.snoc hnd hn nD Da Db hnI (k5.trans kb6) ⟨B, S⟩ S6 hp gr
        refine ⟨_, rfl, _, rfl, D, _, rfl, .inl ⟨kvs, Sum.inr n, q1, rfl, q2, rfl⟩, _, _, _, _, rfl, q3, ?_⟩
        refine (((S6.ext (ExtN.of (sameUp hp))).set Da Db).up ?_)
        have : (i + 1) * 3000 = i * 3000 + 3000 := Nat.succ_mul ..
        omega
    · rintro σ H2 ⟨rs, bs, o4, o5, rfl, R, S2⟩
      rw [List.length_map] at R S2
      exact ⟨_, rfl, k H2 D _ bs (S2.up (by omega)) R.k (R.done hnd nD)⟩
end
end Mn
/-! [.. for pair in d.items() ..], the pair under one name -/
namespace Mi
open PySem PySem.Spec PyProof.Rows L2
def stN (it d : Addr) (n ep : Nat) : Option Addr → Nat → Heap → Prop
  | none, i, h => i = 0 ∧ ∃ ok ov, IsItemIter h it d 0 n ep ok ov
  | some a, i, h => a ≠ it ∧ ∃ ok ov f, PySem.W.KdxIt h it d i n ep ok ov a f
theorem stN.get {it d : Addr} {n ep i : Nat} {g : Option Addr} {h : Heap} (s : stN it d n ep g i h) : ∃ o, h.get? it = some o ∧ (∀ v, o.data ≠ Data.cell v) ∧ ∀ h', h'.get? it = some o → stN it d n ep g i h' := by
  cases g with
  | none =>
    obtain ⟨e, ok, ov, q⟩ := s
    exact ⟨_, q, (by intro v z; cases z), fun h' e' => ⟨e, ok, ov, e'⟩⟩
  | some a =>
    obtain ⟨e, ok, ov, f, q⟩ := s
    exact ⟨_, q, (by intro v z; cases z), fun h' e' => ⟨e, ok, ov, f, e'⟩⟩
theorem stN.keep {it d : Addr} {n ep i : Nat} {g : Option Addr} {h h' : Heap} (s : stN it d n ep g i h) (k : ∀ o, h.get? it = some o → h'.get? it = some o) : stN it d n ep g i h' := by
  obtain ⟨o, e, _, q⟩ := s.get
  exact q h' (k o e)
section
variable {X : Cx} {pins : List (Addr × Obj)} {s : Shared} {σ : L2.St} {H : Hp} {it d : Addr} {o : Obj} {kvs : List (Key × V)} {i : Nat} {g : Option Addr}
theorem item_N {E : Value → Shared → Prop} {k : Key} {v : V} {es : Array DictEntry} {ep : Nat} {y : Str} {py : Pos} (I : Inv X pins σ H s) (f : FpOk X pins H it) (hd : H d = some (.frz o (.dK kvs))) (hod : o.data = .dict es ep) (hi : kvs[i]? = some (k, v))
    (st : stN it d kvs.length ep g i s.heap) (ha : ∀ a, g = some a → ∃ xs, H a = some (.tup xs)) :
    wpAny (model X.prog X.w) X.A (pyNext (.ref it)) (fun r s1 => ∃ u, r = some u ∧ wpAny (model X.prog X.w) X.A (letOwnedTupleGo (.Name y py) (.ref it) u) (fun _ s2 => ∃ T, H T = none ∧ Inv X pins σ (upd H T (.tup [kV k, v])) s2 ∧ RelV (.ref T) u ∧
      stN it d kvs.length ep (some (g.getD T)) (i + 1) s2.heap ∧ upd H T (.tup [kV k, v]) it = none) E s1) E s := by
  obtain ⟨hs, hgd, hx, es', ep', vs, hdt, hsz, kv, hm⟩ := I.frzK hd
  obtain ⟨rfl, rfl⟩ := dict_ep hod hdt
  obtain ⟨u, hu, ru⟩ := kv_get kv hi
  have hl : kvs.length = vs.length := Paired.length kv
  obtain ⟨oi, hoi, _, _⟩ := st.get
  have hlt : it < s.heap.objs.size := Heap.lt_size hoi
  have fin : ∀ (key : Value) (h' : Heap), keyIs k key = true → h'.get? s.heap.objs.size = some { cls := .type "tuple", data := .seq #[key, u] } → (∀ b o, b ≠ it → s.heap.get? b = some o → h'.get? b = some o) →
      stN it d kvs.length ep' (some (g.getD s.heap.objs.size)) (i + 1) h' → ∃ z, (some (Value.ref s.heap.objs.size) : Option Value) = some z ∧ wpAny (model X.prog X.w) X.A (letOwnedTupleGo (.Name y py) (.ref it) z) (fun _ s2 => ∃ T, H T = none ∧ Inv X pins σ (upd H T (.tup [kV k, v])) s2 ∧ RelV (.ref T) z ∧
      stN it d kvs.length ep' (some (g.getD T)) (i + 1) s2.heap ∧ upd H T (.tup [kV k, v]) it = none) E { s with heap := h' } := by
    intro key h' hkey hT hk st'
    have new : ObjOk X.prog X.w (upd H s.heap.objs.size (.tup [kV k, v])) h' s.heap.objs.size (.tup [kV k, v]) :=
      ⟨by show 2 ≤ sizeLine; decide, [key, u], .cons (relV_key hkey) (.cons ru .nil), ⟨_, hT, rfl, _, rfl⟩⟩
    have I1 : Inv X pins σ (upd H s.heap.objs.size (.tup [kV k, v])) { s with heap := h' } :=
      I.turnedNew (t' := s.toks) (ch := [it]) (fun b ob hb e => hk b ob (by simpa using hb) e) (fun b hb => by
        have e : b = it := by simpa using hb
        rw [e]
        exact f) (Nat.le_refl _) new
    refine ⟨_, rfl, ?_⟩
    unfold letOwnedTupleGo
    refine wpAny_pure ⟨s.heap.objs.size, I.hok.fresh (Nat.le_refl _), I1, rfl, st', ?_⟩
    rw [upd_ne (Nat.ne_of_lt hlt)]
    exact f.1
  cases g with
  | none =>
    obtain ⟨rfl, ok, ov, he⟩ := st
    rw [hl] at he
    exact wpAny_pyNext_items_item he hm hu fun key h' hkey ho hT hz hk => fin key h' hkey hT hk ⟨Nat.ne_of_gt hlt, key, u, false, by rw [hl]; exact ho⟩
  | some a =>
    obtain ⟨hne, ok, ov, fl, he⟩ := st
    rw [hl] at he
    obtain ⟨xs, hxs⟩ := ha a rfl
    obtain ⟨_, _, _, oa, hoa, _⟩ := (show ObjOk X.prog X.w H s.heap a (.tup xs) from I.hok a _ hxs)
    exact PySem.W.kdx_next_out he hoa hne hm hu fun key h' hkey ho hT hz hk => fin key h' hkey hT hk ⟨hne, ok, ov, true, by rw [hl]; exact ho⟩
theorem done_N {E : Value → Shared → Prop} {es : Array DictEntry} {ep : Nat} (hc : X.calm = true) (I : Inv X pins σ H s) (f : FpOk X pins H it) (hd : H d = some (.frz o (.dK kvs))) (hod : o.data = .dict es ep) (hi : kvs.length ≤ i) (st : stN it d kvs.length ep g i s.heap) :
    wpAny (model X.prog X.w) X.A (pyNext (.ref it)) (fun r s1 => r = none ∧ Inv X pins σ H s1) E s := by
  obtain ⟨f0, f1, f2, f3, f4, f5⟩ := f
  obtain ⟨hs, hgd, hx, es', ep', vs, hdt, hsz, kv, hm⟩ := I.frzK hd
  obtain ⟨rfl, rfl⟩ := dict_ep hod hdt
  have hl : kvs.length = vs.length := Paired.length kv
  cases g with
  | none =>
    obtain ⟨rfl, ok, ov, he⟩ := st
    rw [hl] at he
    exact wpAny_pyNext_items_end (I.ok.hd hc) he hm (List.getElem?_eq_none (by omega)) fun h' eb => ⟨rfl, I.turned (t' := s.toks) (fun b ob hb e => eb b ob hb e) f0 f1 f3 f4 f5⟩
  | some a =>
    obtain ⟨hne, ok, ov, fl, he⟩ := st
    rw [hl] at he
    exact PySem.W.kdx_end_out (I.ok.hd hc) he hm (List.getElem?_eq_none (by omega)) fun h' eb => ⟨rfl, I.turned (t' := s.toks) (fun b ob hb e => eb b ob hb e) f0 f1 f3 f4 f5⟩
end
theorem self_N {P : Program} {w : World} {A : Around} {s : Shared} {it d : Addr} {n ep : Nat} {Q : Value → Shared → Prop} {E : Value → Shared → Prop} (st : stN it d n ep none 0 s.heap) (h : Q (.ref it) s) : wpAny (model P w) A (pyIter (.ref it)) Q E s := by
  obtain ⟨_, ok, ov, e⟩ := st
  exact PySem.W.kcp_self e h
/-- an iterator over the pairs of a locked dict has come -/
def PIN (X : Cx) (pins : List (Addr × Obj)) (σ : L2.St) (R : Addr → Obj → List (Key × V) → Hp → Prop) (itv : Value) (s2 : Shared) : Prop :=
  ∃ (it d : Addr) (o : Obj) (kvs : List (Key × V)) (H' : Hp) (es : Array DictEntry) (ep : Nat), itv = .ref it ∧ Inv X pins σ H' s2 ∧ H' d = some (.frz o (.dK kvs)) ∧ o.data = .dict es ep ∧ stN it d kvs.length ep none 0 s2.heap ∧ FpOk X pins H' it ∧ R d o kvs H'
def RN (g : TG) (tt : TT) (te : TE) (vs : List Nat) (σ : L2.St) (Q : VK) (d : Addr) (o : Obj) (kvs : List (Key × V)) (H1 : Hp) : Prop := ∀ D, H1 D = none → ∃ W : Option Addr → Nat → Hp → Prop, W none 0 (upd H1 D (.lst [])) ∧
  (∀ g0 i H, W g0 i H → H d = some (.frz o (.dK kvs)) ∧ ∀ a, g0 = some a → ∃ xs, H a = some (.tup xs)) ∧
  (∀ g0 i H k v T, kvs[i]? = some (k, v) → W g0 i H → H T = none → g (.ref T) (wipe σ vs) (upd H T (.tup [kV k, v])) fun σ2 H2 => wipe σ2 vs = wipe σ vs ∧ tt σ2 H2 fun b H3 =>
    if b = true then te σ2 H3 fun y H4 => ∃ acc, H4 D = some (.lst acc) ∧ acc.length < sizeLine ∧ W (some (g0.getD T)) (i + 1) (upd H4 D (.lst (acc ++ [y]))) else W (some (g0.getD T)) (i + 1) H3) ∧
  ∀ g0 H, W g0 kvs.length H → Q (.ref D) H
def tLcN (td : TE) (g : TG) (tt : TT) (te : TE) (vs : List Nat) : TE := fun σ H Q => td σ H fun x H1 => ∃ d o kvs, x = .ref d ∧ H1 d = some (.frz o (.dK kvs)) ∧ RN g tt te vs σ Q d o kvs H1
section
variable {X : Cx}
theorem lc_coreN {pins : List (Addr × Obj)} {s : Shared} {σ : L2.St} {H : Hp} {Q : VK} {elt iter : Expr} {y0 : Str} {py0 : Pos} {ifs : List Expr} {scope : Scope} {own : List (Str × Nat)} {pos pos' : Pos} {td : TE} {g : TG} {tt : TT} {te : TE} {use : Option (Value → Sem Unit)} {Qf : Value → Shared → Prop}
    (hc : X.calm = true) (hN : X.N.Nodup) (I : Inv X pins σ H s)
    (hi : ∀ (pins : List (Addr × Obj)) (s : Shared) (σ : L2.St) (H : Hp) (R : Addr → Obj → List (Key × V) → Hp → Prop), Inv X pins σ H s → (td σ H fun x H1 => ∃ d o kvs, x = .ref d ∧ H1 d = some (.frz o (.dK kvs)) ∧ R d o kvs H1) →
      wpAny (model X.prog X.w) X.A (eval iter X.env) (fun v s1 => wpAny (model X.prog X.w) X.A (pyIter v) (PIN X pins σ R) X.xe s1) X.xe s) (ok : BlkOk X.N X.env.scope scope own)
    (hg : ∀ (s : Shared) (H : Hp) (C : Addr) (cl : List (Str × Addr)) (fp : List Addr), PG (X.blk s H scope (compEnvC scope cl C X.env) fp) (.Name y0 py0) g) (ht : ∀ (s : Shared) (H : Hp) (C : Addr) (cl : List (Str × Addr)) (fp : List Addr), PTs (X.blk s H scope (compEnvC scope cl C X.env) fp) ifs tt)
    (he : ∀ (s : Shared) (H : Hp) (C : Addr) (cl : List (Str × Addr)) (fp : List Addr), PE (X.blk s H scope (compEnvC scope cl C X.env) fp) elt te) (hs : ∀ x, foldedSetIterable iter X.env x = pure x)
    (h : td σ H fun x H1 => ∃ d o kvs, x = .ref d ∧ H1 d = some (.frz o (.dK kvs)) ∧ RN g tt te (own.map (·.2)) σ Q d o kvs H1)
    (hRR : ∀ D C s' m H', Inv X pins σ H' s' → Q (.ref D) H' → s'.heap.Ns C m → FpOk X pins H' C → compPost (model X.prog X.w) X.A X.xe use Qf (.ref D) C (.ok .next) s') :
    wpAny (model X.prog X.w) X.A (comprehension (.ListComp elt [⟨.Name y0 py0, iter, ifs, 0⟩] scope pos) scope X.env pos' (newList []) false (eval iter X.env) use) Qf X.xe s := by
  have hfree : ∀ y ∈ scope.names, y.2 = .free → ∃ c, X.env.cells.lookup y.1 = some c := fun y hy e => by
    rcases ok.free y hy e with k | k
    · exact I.ok.has _ (.inl k)
    · exact I.ok.has _ (.inr k)
  refine wpAny_comprehension_free (use := use) rfl hs (closure_ok hfree) ok.kind (fun y hy e => by rw [ok.uniq y hy, e])
    (thn (hi pins s σ H _ I h) fun xv s1 hx => thn hx fun itv s2 h2 => ?_)
  obtain ⟨it, d, o0, kvs, H2, es, ep, e, I2, hd2, hod, st2, f2', q⟩ := h2
  subst e
  generalize hfp : [it] = fp at *
  have hfpi : ∀ b ∈ fp, b = it := fun b hb => by rw [← hfp] at hb; simpa using hb
  have hitf : it ∈ fp := by rw [← hfp]; simp
  have f2 : ∀ b ∈ fp, FpOk X pins H2 b := fun b hb => by rw [hfpi b hb]; exact f2'
  refine wpAny_newObj_type (newEnv_comp ?_) (by show 0 ≤ sizeLine; decide)
  generalize hD : s2.heap.objs.size = D
  have hDn : H2 D = none := I2.hok.fresh (Nat.le_of_eq hD)
  obtain ⟨W, w0, wr, turn, stopp⟩ := q D hDn
  -- the new list
  generalize hs3 : ({ s2 with heap := s2.heap.push { cls := .type "list", data := .seq ([] : List Value).toArray } } : Shared) = s3
  have I3 : Inv X pins σ (upd H2 D (.lst [])) s3 := by
    rw [← hs3]
    refine I2.laid (t' := s2.toks) (fun b o e => Heap.get?_push_of_some _ e) (Nat.le_of_eq hD) ⟨Nat.zero_le _, [], 0, .nil, ?_⟩
    rw [← hD]
    exact Heap.get?_push_size _ rfl
  have h3 : s3.heap = s2.heap.push { cls := .type "list", data := .seq ([] : List Value).toArray } := by rw [← hs3]
  have sz : ∀ b ∈ fp, b < s2.heap.objs.size := fun b hb => by
    obtain ⟨o, e, _⟩ := st2.get
    rw [hfpi b hb]
    exact Heap.lt_size e
  have f3 : ∀ b ∈ fp, FpOk X pins (upd H2 D (.lst [])) b ∧ b < s3.heap.objs.size := fun b hb => by
    have hlt := sz b hb
    refine ⟨⟨?_, (f2 b hb).2⟩, by rw [h3, Heap.size_push]; exact Nat.lt_succ_of_lt hlt⟩
    rw [upd_ne (by rw [← hD]; exact Nat.ne_of_lt hlt)]
    exact (f2 b hb).1
  have st3 : stN it d kvs.length ep none 0 s3.heap := st2.keep fun o e => by rw [h3]; exact Heap.get?_push_of_some _ e
  have I4 := block_start I3 ok hN f3
  have pg := hg s3 (upd H2 D (.lst [])) s3.heap.objs.size (cellsFrom (s3.heap.objs.size + 1) scope.names (cloFrom X.env.cells scope.names [])) fp
  have pt := ht s3 (upd H2 D (.lst [])) s3.heap.objs.size (cellsFrom (s3.heap.objs.size + 1) scope.names (cloFrom X.env.cells scope.names [])) fp
  have pe := he s3 (upd H2 D (.lst [])) s3.heap.objs.size (cellsFrom (s3.heap.objs.size + 1) scope.names (cloFrom X.env.cells scope.names [])) fp
  show codeAny _ _ (.compStart (.ListComp elt [⟨.Name y0 py0, iter, ifs, 0⟩] scope pos) 0 (.ref it) (.ref D) (compEnvC scope (cellsFrom (s3.heap.objs.size + 1) scope.names (cloFrom X.env.cells scope.names [])) s3.heap.objs.size X.env)) (compPost (model X.prog X.w) X.A X.xe use Qf (.ref D) s3.heap.objs.size) { s3 with heap := pushCells (s3.heap.push { cls := .type "dict", data := .dict #[] }) scope.names }
  have nfp : ∀ b ∈ fp, (upd H2 D (.lst [])) b = none := fun b hb => (f3 b hb).1.1
  generalize hce : compEnvC scope (cellsFrom (s3.heap.objs.size + 1) scope.names (cloFrom X.env.cells scope.names [])) s3.heap.objs.size X.env = ce at I4 pg pt pe ⊢
  have cL : ce.locals = s3.heap.objs.size := by subst hce; rfl
  generalize hH3 : upd H2 D (.lst []) = H3 at I3 I4 pg pt pe w0 nfp f3
  generalize hs4 : ({ s3 with heap := pushCells (s3.heap.push { cls := .type "dict", data := .dict #[] }) scope.names } : Shared) = s4 at I4 ⊢
  have st4 : stN it d kvs.length ep none 0 s4.heap := st3.keep fun o e => by rw [← hs4]; exact pushCells_keeps _ _ _ _ (Heap.get?_push_of_some _ e)
  have stat : ∀ {σ' : L2.St} {H' : Hp} {s' : Shared}, Inv (X.blk s3 H3 scope ce fp) [] σ' H' s' → (∀ b ∈ fp, H' b = none) → ∀ b ∈ fp, FpOk (X.blk s3 H3 scope ce fp) [] H' b := fun {σ' H' s'} I' hn b hb =>
    ⟨hn b hb, (I'.ok.exf b hb).1, I'.ok.exfs b hb, .inl hb, fun x c e => (I'.ok.exf b hb).2 x c e, fun p hp => absurd (show p ∈ ([] : List (Addr × Obj)) ++ [] from hp) (by simp)⟩
  have loop : codeAny (model X.prog X.w) X.A (.compLoop (.ListComp elt [⟨.Name y0 py0, iter, ifs, 0⟩] scope pos) 0 (.ref it) (.ref D) ce) (compPost (model X.prog X.w) X.A X.xe use Qf (.ref D) s3.heap.objs.size) s4 := by
    refine compLoop_any (fun n s' => ∃ g i H', n = kvs.length - i ∧ i ≤ kvs.length ∧ Inv (X.blk s3 H3 scope ce fp) [] (wipe σ (own.map (·.2))) H' s' ∧ stN it d kvs.length ep g i s'.heap ∧ (∀ b ∈ fp, H' b = none) ∧ W g i H') ?_ _ ⟨none, 0, H3, rfl, Nat.zero_le _, I4, st4, nfp, w0⟩
    rintro n s5 ⟨g0, i, H5, hni, hile, I5, st5, n5, w5⟩
    obtain ⟨hd5, ha5⟩ := wr g0 i H5 w5
    by_cases hlt : i < kvs.length
    rotate_left
    · have hie : i = kvs.length := by omega
      have qq : Q (.ref D) H5 := stopp g0 H5 (by rw [← hie]; exact w5)
      have td := done_N (X := X.blk s3 H3 scope ce fp) (E := fun _ _ => False) hc I5 (stat I5 n5 it hitf) hd5 hod (by omega) st5
      refine thnF td fun r s6 ⟨hr, I6⟩ => ?_
      subst hr
      -- back in the def's context
      have I7 : Inv X pins σ H5 s6 := I3.call' (ch := fp) I6.os I6.base I6.hok I6.bare fun b hb => ⟨(f3 b hb).1.2.2.2.1, (f3 b hb).1.2.1, (f3 b hb).1.2.2.2.2.1, (f3 b hb).1.2.2.2.2.2⟩
      have nC : H5 s3.heap.objs.size = none := by
        have z : H5 ce.locals = none := I6.free
        rw [cL] at z
        exact z
      obtain ⟨m, hn, _⟩ := I6.loc
      have hn : s6.heap.Ns ce.locals m := hn
      rw [cL] at hn
      exact hRR D s3.heap.objs.size s6 m H5 I7 qq hn (I3.fpOk (Nat.le_refl _) nC)
    · obtain ⟨⟨k0, v0⟩, hkv⟩ : ∃ p, kvs[i]? = some p := ⟨kvs[i], List.getElem?_eq_getElem hlt⟩
      have ti := item_N (X := X.blk s3 H3 scope ce fp) (E := fun _ _ => False) (y := y0) (py := py0) I5 (stat I5 n5 it hitf) hd5 hod hkv st5 ha5
      refine thnF ti fun r s6 ⟨u, hr, h6⟩ => ?_
      subst hr
      refine thnF h6 fun _ s7 ⟨T0, hT0, I7, r7, st7, n7'⟩ => ?_
      have n7 : ∀ b ∈ fp, upd H5 T0 (.tup [kV k0, v0]) b = none := fun b hb => by rw [hfpi b hb]; exact n7'
      have tobj : ∀ b ∈ fp, ∃ o, s7.heap.get? b = some o ∧ ∀ v, o.data ≠ .cell v := fun b hb => by
        obtain ⟨o, e, e2, _⟩ := st7.get
        rw [hfpi b hb]
        exact ⟨o, e, e2⟩
      have I7' := I7.pinned (stat I7 n7) tobj
      refine thnF (pg.run _ s7 _ _ (.ref T0) u _ I7' r7 (turn g0 i H5 k0 v0 T0 hkv w5 hT0)) fun _ s8 ⟨σ8, H8, I8, hw8, q8⟩ => ?_
      refine thnF (pt.run _ s8 σ8 H8 _ I8 q8) fun b s9 ⟨H9, I9, q9⟩ => ?_
      -- the turn's end
      have fin : ∀ {s' : Shared} {H' : Hp}, Inv (X.blk s3 H3 scope ce fp) ([] ++ pinsAt fp s7.heap) σ8 H' s' → W (some (g0.getD T0)) (i + 1) H' → ∃ m, m < n ∧ ∃ g i H', m = kvs.length - i ∧ i ≤ kvs.length ∧ Inv (X.blk s3 H3 scope ce fp) [] (wipe σ (own.map (·.2))) H' s' ∧ stN it d kvs.length ep g i s'.heap ∧ (∀ b ∈ fp, H' b = none) ∧ W g i H' := fun {s' H'} I' w' => by
        have pin' : ∀ b ∈ fp, ∀ o, s7.heap.get? b = some o → s'.heap.get? b = some o ∧ H' b = none := fun b hb o e =>
          let z := I'.pin (b, o) (List.mem_append_right _ (List.mem_append_right _ (mem_pinsAt hb e)))
          ⟨z.1, z.2.1⟩
        have hl : (wipe σ (own.map (·.2))).length = σ8.length := by rw [← hw8, wipe_length]
        refine ⟨kvs.length - (i + 1), by omega, some (g0.getD T0), i + 1, H', rfl, by omega, (I'.unpinned (pins := [])).weak hl (fun j v e => ?_), st7.keep fun o e => (pin' it hitf o e).1, fun b hb => ?_, w'⟩
        · rw [← hw8] at e
          exact (wipe_some e).1
        · obtain ⟨o, e, _⟩ := tobj b hb
          exact (pin' b hb o e).2
      cases b with
      | false =>
        simp only [Bool.false_eq_true, if_false] at q9 ⊢
        exact fin I9 q9
      | true =>
        simp only [if_true] at q9 ⊢
        refine thnF (pe.run _ s9 σ8 H9 _ I9 q9) fun z s10 ⟨yv, H10, I10, r10, acc, hD10, hz10, nx⟩ => ?_
        exact app_ok (X := X.blk s3 H3 scope ce fp) I10 hD10 hz10 r10 fun s11 I11 => fin I11 nx
  exact codeAny_compStart_list loop (self_N (A := X.A) st4 loop)
theorem pi_itemsN {e : Expr} {td : TE} {apos cpos : Pos} (he : PE X e td) (hbase : attributeBase e "items" X.env (eval e X.env) = eval e X.env := by rfl) (hline : (apos.endLine == cpos.line) = true := by rfl) :
    ∀ (pins : List (Addr × Obj)) (s : Shared) (σ : L2.St) (H : Hp) (R : Addr → Obj → List (Key × V) → Hp → Prop), Inv X pins σ H s → (td σ H fun x H1 => ∃ d o kvs, x = .ref d ∧ H1 d = some (.frz o (.dK kvs)) ∧ R d o kvs H1) →
      wpAny (model X.prog X.w) X.A (eval (.Call (.Attribute e "items" apos) [] [] cpos) X.env) (fun v s1 => wpAny (model X.prog X.w) X.A (pyIter v) (PIN X pins σ R) X.xe s1) X.xe s := by
  intro pins s σ H R I h
  refine wpAny_Call_method (T := "dict") (id := "dict.items") hbase rfl hline F.plainAttrs_dict F.slot_dict_items F.type_dict_items (thn (he.run pins s σ H _ I h) fun u s1 ⟨x, H1, I1, rx, d, o, kvs, ex, hd, q⟩ => ?_)
  subst ex
  obtain rfl : u = Value.ref d := rx
  obtain ⟨hs, hgd, hx, es, ep, vs, hdt, hsz, kv, hm⟩ := I1.frzK hd
  have hl : kvs.length = vs.length := Paired.length kv
  refine ⟨hm.dictOf.typeIs, hm.dictOf.mapOf.noDict, ?_⟩
  have I2 : Inv X pins σ H1 { s1 with heap := s1.heap.push { cls := .type "dict_items", data := .fields #[.ref d] } } := I1.kept (t' := s1.toks) fun b ob q => Heap.get?_push_of_some _ q
  have fin : wpAny (model X.prog X.w) X.A (pyIter (.ref s1.heap.objs.size)) (PIN X pins σ R) X.xe { s1 with heap := s1.heap.push { cls := .type "dict_items", data := .fields #[.ref d] } } := by
    refine wpAny_pyIter_items (d := d) (knd := mixKind X.prog X.w) ⟨_, Heap.get?_push_size _ rfl, rfl, rfl⟩ (hm.push _) ?_
    refine ⟨_, d, o, kvs, H1, es, ep, rfl, I2.kept fun b ob e => Heap.get?_push_of_some _ e, hd, hdt, ⟨rfl, .none, .none, ?_⟩, I2.fpOk (Nat.le_refl _) (I2.hok.fresh (Nat.le_refl _)), q⟩
    rw [hl]
    exact Heap.get?_push_size _ rfl
  show wpAny _ _ (callWith cpos (.builtin "dict.items") [.ref d] [] []) _ X.xe s1
  exact method_meetsIn F.slot_dict_items F.entry_dict_items rfl (PySem.evalArgs_none ⟨rfl, hm.dictOf.typeIs, F.args_dict_items_1 _, _, meets_dict_items (mixKind X.prog X.w) d hs, ⟨vs, hm.dictOf⟩, fin⟩)
/-- name = [..] on one line, the name a local -/
theorem ps_setLcN {i : Nat} {y : Str} {py : Pos} {elt iter : Expr} {y0 : Str} {py0 : Pos} {ifs : List Expr} {scope : Scope} {own : List (Str × Nat)} {pos spos : Pos} {td : TE} {g : TG} {tt : TT} {te : TE} (hc : X.calm = true) (hN : X.N.Nodup) (hy : X.N[i]? = some y) (hyl : X.env.scope.names.lookup y = some .local)
    (hsw : swapsWith (.ListComp elt [⟨.Name y0 py0, iter, ifs, 0⟩] scope pos) (some (.Name y py)) spos.line X.env = pure true) (hi : ∀ (pins : List (Addr × Obj)) (s : Shared) (σ : L2.St) (H : Hp) (R : Addr → Obj → List (Key × V) → Hp → Prop), Inv X pins σ H s → (td σ H fun x H1 => ∃ d o kvs, x = .ref d ∧ H1 d = some (.frz o (.dK kvs)) ∧ R d o kvs H1) →
      wpAny (model X.prog X.w) X.A (eval iter X.env) (fun v s1 => wpAny (model X.prog X.w) X.A (pyIter v) (PIN X pins σ R) X.xe s1) X.xe s) (ok : BlkOk X.N X.env.scope scope own)
    (hg : ∀ (s : Shared) (H : Hp) (C : Addr) (cl : List (Str × Addr)) (fp : List Addr), PG (X.blk s H scope (compEnvC scope cl C X.env) fp) (.Name y0 py0) g) (ht : ∀ (s : Shared) (H : Hp) (C : Addr) (cl : List (Str × Addr)) (fp : List Addr), PTs (X.blk s H scope (compEnvC scope cl C X.env) fp) ifs tt)
    (he : ∀ (s : Shared) (H : Hp) (C : Addr) (cl : List (Str × Addr)) (fp : List Addr), PE (X.blk s H scope (compEnvC scope cl C X.env) fp) elt te) (hs : ∀ x, foldedSetIterable iter X.env x = pure x := by intro _; rfl) :
    PS X (.Assign [.Name y py] (.ListComp elt [⟨.Name y0 py0, iter, ifs, 0⟩] scope pos) spos) (tAsg (tLcN td g tt te (own.map (·.2))) (gName i)) := by
  refine ⟨fun pins s σ H D I h => ?_⟩
  rw [exec_Assign_Name_used _ _ _ _ hsw]
  refine wpAny_bind (wpAny_standAt (wpAny_bind ?_))
  show wpAny _ X.A (do let _ ← comprehension (.ListComp elt [⟨.Name y0 py0, iter, ifs, 0⟩] scope pos) scope X.env (firstIterPos [⟨.Name y0 py0, iter, ifs, 0⟩] pos) (newList []) false (eval iter X.env) (some (assign (.Name y py) X.env))) _ _ s
  have h : td σ H fun x H1 => ∃ d o kvs, x = .ref d ∧ H1 d = some (.frz o (.dK kvs)) ∧ RN g tt te (own.map (·.2)) σ (fun x H1 => gName i x σ H1 D.nx) d o kvs H1 := h
  refine wpAny_bind (thn (lc_coreN (Qf := fun _ s' => SP X pins D .next s') hc hN I hi ok hg ht he hs h fun L C s' m H' I' q hn f => ?_) fun _ s' hq => wpAny_pure (wpAny_pure hq))
  show wpAny _ _ (assign (.Name y py) X.env (.ref L)) _ _ _
  refine wpAny_assign_Name (store_ok2 (v := V.ref L) I' hN hy (.inl hyl) rfl (fun s2 I2 ⟨a, sb, ha⟩ => ?_) (.inr hyl))
  obtain ⟨f0, f1, f2, f3, f4, f5⟩ := f
  have haC : C ≠ a := by
    rcases ha with z | z
    · rw [z]; exact f1
    · exact fun e => f4 y a z e.symm
  refine ⟨m, hn.sameBut sb haC, fun h3 sb3 => ?_⟩
  exact ⟨_, H', I2.turned (t' := s2.toks) (fun b o hb e => (sb3.2 b hb).trans e) f0 f1 f3 f4 f5, q⟩
end
end Mi
/-! _law_a_loose_wishes -/
namespace Mn
open PySem PySem.Spec PyProof.Rows L2 Md Me Ml LamX Mi
abbrev sLw : Stmt := top 36
/-- rows that stand apart from the stream -/
structure RowsS (a b : Addr) (H : Hp) (D : Addr) (ys : List Str) (rw_ : Str → List Str) (as : List Addr) : Prop where
  l : as.length = ys.length
  d : H D = some (.dK ((ys.zip as).map fun p => (Sum.inr p.1, V.ref p.2)))
  r : ∀ (i : Nat) (n : Str) (c : Addr), ys[i]? = some n → as[i]? = some c → H c = some (.lst ((rw_ n).map V.str))
  na : ∀ c ∈ as, c ≠ a ∧ c ≠ b
  nD : D ≠ a ∧ D ≠ b
theorem RowsS.keep {a b : Addr} {H H' : Hp} {D : Addr} {ys : List Str} {rw_ : Str → List Str} {as : List Addr} (k : KeepBut a b H H') (R : RowsS a b H D ys rw_ as) : RowsS a b H' D ys rw_ as :=
  ⟨R.l, k _ _ R.nD.1 R.nD.2 R.d, fun i n c h1 h2 => by
    obtain ⟨q1, q2⟩ := R.na c (List.mem_of_getElem? h2)
    exact k _ _ q1 q2 (R.r i n c h1 h2), R.na, R.nD⟩
/-- wishes loosely written: which names stand, where their rows are -/
structure Loosed (H0 H : Hp) (D : Addr) (ys : List Str) (rw_ : Str → List Str) (ps : List (Str × Addr)) : Prop where
  d : H D = some (.dK (ps.map fun p => (Sum.inr p.1, V.ref p.2)))
  nd : (ps.map Prod.fst).Nodup
  mem : ∀ p ∈ ps, p.1 ∈ ys
  out : ∀ n ∈ ys, n ∉ ps.map Prod.fst → rw_ n = []
  r : ∀ p ∈ ps, Seq H p.2 ((rw_ p.1).map V.str)
  f : ∀ p ∈ ps, H0 p.2 = none
  n : (ps.map Prod.snd).Nodup
  fD : H0 D = none
/-- the pairs chosen so far -/
structure Chos (a b : Addr) (H0 H : Hp) (L : Addr) (zs : List (Str × Addr)) (rw_ : Str → List Str) (ts : List (Str × Addr × Addr)) : Prop where
  k : KeepBut a b H0 H
  L : H L = some (.lst (ts.map fun t => .ref t.2.2))
  t : ∀ t ∈ ts, H t.2.2 = some (.tup [.str t.1, .ref t.2.1])
  sub : (ts.map fun t => (t.1, t.2.1)).Sublist zs
  out : ∀ p ∈ zs, p ∉ (ts.map fun t => (t.1, t.2.1)) → rw_ p.1 = []
theorem Chos.take {a b : Addr} {H0 H H1 : Hp} {L T : Addr} {zs : List (Str × Addr)} {rw_ : Str → List Str} {ts : List (Str × Addr × Addr)} {n : Str} {c : Addr} {B : Nat} (C : Chos a b H0 H L zs rw_ ts) (S : Stm H a b B) (hT : H T = none) (hL0 : H0 L = none) (Lab : L ≠ a ∧ L ≠ b) (k : KeepBut a b (upd H T (.tup [.str n, .ref c])) H1) :
    H1 L = some (.lst (ts.map fun t => .ref t.2.2)) ∧ Chos a b H0 (upd H1 L (.lst ((ts.map fun t => .ref t.2.2) ++ [.ref T]))) L (zs ++ [(n, c)]) rw_ (ts ++ [(n, c, T)]) := by
  have s := sameUp (o := .tup [.str n, .ref c]) hT
  have nab : ∀ {q : Addr} {xs : List V}, H q = some (.tup xs) → q ≠ a ∧ q ≠ b := fun {q xs} e => by
    obtain ⟨_, h1⟩ := S.ha
    obtain ⟨_, h2⟩ := S.hb
    exact ⟨fun z => (by rw [z, h1] at e; cases e), fun z => (by rw [z, h2] at e; cases e)⟩
  obtain ⟨Ta, Tb⟩ := S.nd hT
  have hL1 := C.L
  have h1 := k L _ Lab.1 Lab.2 (s _ _ C.L)
  have TL : T ≠ L := (ne_of_none C.L hT).symm
  refine ⟨h1, ((C.k.trans (KeepBut.same s)).trans k).un hL0, ?_, fun t ht => ?_, ?_, fun p hp hn => ?_⟩
  · rw [upd_same, List.map_append]
    rfl
  · rcases List.mem_append.mp ht with z | z
    · have e := C.t t z
      obtain ⟨q1, q2⟩ := nab e
      rw [upd_ne (fun y => by rw [y, C.L] at e; cases e)]
      exact k _ _ q1 q2 (s _ _ e)
    · have e : t = (n, c, T) := by simpa using z
      subst e
      rw [upd_ne TL]
      exact k _ _ Ta Tb upd_same
  · rw [List.map_append]
    exact C.sub.append (List.Sublist.refl _)
  · rw [List.map_append] at hn
    rcases List.mem_append.mp hp with z | z
    · exact C.out p z (fun q => hn (List.mem_append_left _ q))
    · exact absurd (List.mem_append_right _ z) hn
theorem Chos.skip {a b : Addr} {H0 H H1 : Hp} {L T : Addr} {zs : List (Str × Addr)} {rw_ : Str → List Str} {ts : List (Str × Addr × Addr)} {n : Str} {c : Addr} {B : Nat} (C : Chos a b H0 H L zs rw_ ts) (S : Stm H a b B) (hT : H T = none) (hL : L ≠ a ∧ L ≠ b) (k : KeepBut a b (upd H T (.tup [.str n, .ref c])) H1) (hr : rw_ n = []) :
    Chos a b H0 H1 L (zs ++ [(n, c)]) rw_ ts := by
  have s := sameUp (o := .tup [.str n, .ref c]) hT
  have nab : ∀ {q : Addr} {xs : List V}, H q = some (.tup xs) → q ≠ a ∧ q ≠ b := fun {q xs} e => by
    obtain ⟨_, h1⟩ := S.ha
    obtain ⟨_, h2⟩ := S.hb
    exact ⟨fun z => (by rw [z, h1] at e; cases e), fun z => (by rw [z, h2] at e; cases e)⟩
  refine ⟨(C.k.trans (KeepBut.same s)).trans k, k L _ hL.1 hL.2 (s _ _ C.L), fun t ht => ?_, C.sub.trans (List.sublist_append_left _ _), fun p hp hn => ?_⟩
  · obtain ⟨q1, q2⟩ := nab (C.t t ht)
    exact k _ _ q1 q2 (s _ _ (C.t t ht))
  · rcases List.mem_append.mp hp with z | z
    · exact C.out p z hn
    · have e : p = (n, c) := by simpa using z
      rw [e]
      exact hr
theorem perm_map {α β : Type} {f : α → β} {l : List α} {ys zs : List β} (h : ys.Perm zs) (e : zs = l.map f) : ∃ l' : List α, l'.Perm l ∧ ys = l'.map f := by
  induction h generalizing l with
  | nil =>
    cases l with
    | nil => exact ⟨[], List.Perm.refl _, rfl⟩
    | cons a l => cases e
  | cons x _ ih =>
    cases l with
    | nil => cases e
    | cons a l =>
      rw [List.map_cons] at e
      obtain ⟨e1, e2⟩ := List.cons.inj e
      obtain ⟨l', p, q⟩ := ih e2
      exact ⟨a :: l', p.cons a, by rw [List.map_cons, ← q, e1]⟩
  | swap x y t =>
    cases l with
    | nil => cases e
    | cons a l =>
      cases l with
      | nil => cases (List.cons.inj e).2
      | cons b l =>
        rw [List.map_cons, List.map_cons] at e
        obtain ⟨e1, e2⟩ := List.cons.inj e
        obtain ⟨e2, e3⟩ := List.cons.inj e2
        exact ⟨b :: a :: l, List.Perm.swap a b l, by rw [List.map_cons, List.map_cons, ← e1, ← e2, ← e3]⟩
  | trans _ _ ih1 ih2 =>
    obtain ⟨l2, p2, q2⟩ := ih2 e
    obtain ⟨l1, p1, q1⟩ := ih1 q2
    exact ⟨l1, p1.trans p2, q1⟩
theorem nodup_mapI {α β : Type} {f : α → β} (inj : ∀ x y, f x = f y → x = y) {l : List α} (h : l.Nodup) : (l.map f).Nodup := by
  rw [List.nodup_iff_pairwise_ne, List.pairwise_map]
  exact (List.nodup_iff_pairwise_ne.mp h).imp fun n z => n (inj _ _ z)
theorem mergeK_new : ∀ (kvs acc : List (Key × V)), ((acc ++ kvs).map Prod.fst).Nodup → mergeK acc kvs = acc ++ kvs
  | [], acc, _ => by simp [mergeK]
  | p :: r, acc, h => by
    have hne : ∀ kv ∈ acc, kv.1 ≠ p.1 := fun kv hk z => by
      rw [List.map_append, List.nodup_append] at h
      exact h.2.2 kv.1 (List.mem_map_of_mem hk) p.1 (by simp) z
    have e : mergeK acc (p :: r) = mergeK (putK acc p.1 p.2) r := rfl
    rw [e, putK_new hne]
    have e2 : acc ++ [(p.1, p.2)] = acc ++ [p] := rfl
    rw [e2, mergeK_new r (acc ++ [p]) (by rw [List.append_assoc]; exact h), List.append_assoc]
    rfl
theorem noSeq_str {K : PySem.W.Frag} {H : Hp} {x : Str} : NoSeq K H (.str x) := by
  obtain ⟨ty, t0, h1, h2, _⟩ := (ans_str : Ans K H (.str x) _ _ _ _ _)
  exact ⟨ty, t0, kitAny2 h1 h2⟩
def rowT (r : List Str) : Tree := .node (r.map fun x => .leaf (.str x))
theorem datTs_strs {K : PySem.W.Frag} {H : Hp} {a b : Addr} : ∀ r : List Str, DatTs K H a b (r.map fun x => .leaf (.str x)) (r.map V.str)
  | [] => .nil
  | x :: r => .cons (.leaf noSeq_str) (datTs_strs r)
theorem dat_row {K : PySem.W.Frag} {H : Hp} {a b c : Addr} {r : List Str} (ca : c ≠ a) (cb : c ≠ b) (h : Seq H c (r.map V.str)) (hn : r.length ≤ 200) : DatT K H a b (rowT r) (.ref c) := .node ca cb h (by rw [List.length_map]; exact hn) (datTs_strs r)
theorem dep_row {n : Nat} (r : List Str) : Dep (n + 1) (rowT r) := .node fun t ht => by
  obtain ⟨x, _, rfl⟩ := List.mem_map.mp ht
  exact .leaf _ _
theorem outTs_strs {H : Hp} : ∀ {r : List Str} {ts : List Tree} {ys : List V} {S : List Addr}, ts = (r.map fun x => .leaf (.str x)) → OutTs H ts ys S → ys = r.map V.str ∧ S = []
  | [], _, _, _, e, .nil => ⟨rfl, rfl⟩
  | _ :: _, _, _, _, e, .nil => by cases e
  | [], _, _, _, e, .cons _ _ _ => by cases e
  | x :: r, _, _, _, e, .cons h q hd => by
    rw [List.map_cons] at e
    obtain ⟨e1, e2⟩ := List.cons.inj e
    subst e1
    obtain ⟨q1, q2⟩ := outTs_strs e2 q
    cases h
    exact ⟨by rw [q1]; rfl, by rw [q2]; rfl⟩
theorem out_row {H : Hp} {r : List Str} {v : V} {S : List Addr} (h : OutT H (rowT r) v S) : ∃ p, v = .ref p ∧ Seq H p (r.map V.str) ∧ S = [p] := by
  unfold rowT at h
  cases h with
  | node hs hr hp =>
    obtain ⟨e1, e2⟩ := outTs_strs rfl hr
    subst e1 e2
    exact ⟨_, rfl, hs, rfl⟩
/-- rows made loose so far: name, the new row, the pair -/
structure Lws (a b : Addr) (H0 H4 H : Hp) (L : Addr) (rw_ : Str → List Str) (ns : List Str) (es : List (Str × Addr × Addr)) : Prop where
  k : KeepBut a b H4 H
  hL : H L = some (.lst (es.map fun e => .ref e.2.2))
  nm : es.map (fun e => e.1) = ns
  r : ∀ e ∈ es, Seq H e.2.1 ((rw_ e.1).map V.str)
  t : ∀ e ∈ es, H e.2.2 = some (.tup [.str e.1, .ref e.2.1])
  f : ∀ e ∈ es, H0 e.2.1 = none
  n : (es.map fun e => e.2.1).Nodup
  nL : ∀ e ∈ es, e.2.1 ≠ L
theorem Lws.snoc {a b : Addr} {H0 H4 H H1 : Hp} {L T p : Addr} {rw_ : Str → List Str} {ns : List Str} {es : List (Str × Addr × Addr)} {n : Str} (W : Lws a b H0 H4 H L rw_ ns es) (Lab : L ≠ a ∧ L ≠ b) (hL4 : H4 L = none) (hab : ∀ e ∈ es, (e.2.1 ≠ a ∧ e.2.1 ≠ b ∧ e.2.1 ≠ L) ∧ (e.2.2 ≠ a ∧ e.2.2 ≠ b))
    (k : KeepBut a b H H1) (hp0 : H0 p = none) (hpH : H p = none) (hp : Seq H1 p ((rw_ n).map V.str)) (hT : H1 T = none) :
    H1 L = some (.lst (es.map fun e => .ref e.2.2)) ∧ Lws a b H0 H4 (upd (upd H1 T (.tup [.str n, .ref p])) L (.lst ((es.map fun e => .ref e.2.2) ++ [.ref T]))) L rw_ (ns ++ [n]) (es ++ [(n, p, T)]) := by
  have s := sameUp (o := .tup [.str n, .ref p]) hT
  have hL1 := k L _ Lab.1 Lab.2 W.hL
  have TL : T ≠ L := (ne_of_none hL1 hT).symm
  have pL : p ≠ L := fun z => by
    rw [z, W.hL] at hpH
    cases hpH
  refine ⟨hL1, (((W.k.trans k).trans (KeepBut.same s))).un hL4, ?_, ?_, fun e he => ?_, fun e he => ?_, fun e he => ?_, ?_, fun e he => ?_⟩
  · rw [upd_same, List.map_append]
    rfl
  · rw [List.map_append, W.nm]
    rfl
  · rcases List.mem_append.mp he with z | z
    · obtain ⟨⟨q1, q2, q3⟩, _⟩ := hab e z
      exact (W.r e z).imp (fun h => by rw [upd_ne q3]; exact s _ _ (k _ _ q1 q2 h)) (fun h => by rw [upd_ne q3]; exact s _ _ (k _ _ q1 q2 h))
    · have e1 : e = (n, p, T) := by simpa using z
      subst e1
      exact hp.imp (fun h => by rw [upd_ne pL]; exact s _ _ h) (fun h => by rw [upd_ne pL]; exact s _ _ h)
  · rcases List.mem_append.mp he with z | z
    · obtain ⟨_, q1, q2⟩ := hab e z
      have e0 := W.t e z
      rw [upd_ne (fun y => by rw [y, W.hL] at e0; cases e0)]
      exact s _ _ (k _ _ q1 q2 e0)
    · have e1 : e = (n, p, T) := by simpa using z
      subst e1
      rw [upd_ne TL]
      exact upd_same
  · rcases List.mem_append.mp he with z | z
    · exact W.f e z
    · have e1 : e = (n, p, T) := by simpa using z
      subst e1
      exact hp0
  · rw [List.map_append, List.nodup_append]
    refine ⟨W.n, by simp, fun x hx y hy z => ?_⟩
    have e1 : y = p := by simpa using hy
    obtain ⟨e, he, rfl⟩ := List.mem_map.mp hx
    have h1 := W.r e he
    rw [z, e1] at h1
    rcases h1 with h1 | h1 <;> (rw [hpH] at h1; cases h1)
  · rcases List.mem_append.mp he with z | z
    · exact W.nL e z
    · have e1 : e = (n, p, T) := by simpa using z
      subst e1
      exact pL
def spLw (K : PySem.W.Frag) : Sp := fun vs H Q _ => ∃ (a b D : Addr) (B : Nat) (ys : List Str) (rw_ : Str → List Str) (as : List Addr), vs = [.ref a, .ref D] ∧ Stm H a b B ∧ RowsS a b H D ys rw_ as ∧ ys.Nodup ∧ ys.length ≤ 63 ∧ (∀ n ∈ ys, StrsOk (rw_ n) ∧ (rw_ n).length ≤ 63) ∧ B + 100000 ≤ 1000000000 ∧
  ∀ (H' : Hp) (D' : Addr) (ps : List (Str × Addr)), Stm H' a b (B + 100000) → KeepBut a b H H' → Loosed H H' D' ys rw_ ps → Q (.ref D') H'
theorem kb_unlock {a b d : Addr} {od : Obj} {u : HO} {H H' : Hp} (hd : H d = some u) (k : KeepBut a b (upd H d (.frz od u)) H') : KeepBut a b H (upd H' d u) := fun c o h1 h2 e => by
  by_cases z : c = d
  · rw [z, upd_same, ← e, z, hd]
  · rw [upd_ne z]
    exact k c o h1 h2 (by rw [upd_ne z]; exact e)
theorem hu64_of {k : Nat} {A : Around} (hr : Room k A) : A.units + 64 < cLine := by
  have := hr.un
  omega
section
variable {P : Program} {w : World} {K : PySem.W.Frag} {mg : Str → Option Value} {base : Heap}
theorem scLw : FnScope ["_law_stream", "_law_wishes", "_law_some", "_law_pair", "_law_person", "_law_row"] ["_law_stream", "_law_wishes"] (defScope sLw) := ⟨rfl, rfl, rfl, by decide +kernel, rfl, by decide +kernel, by decide +kernel⟩
theorem ok_lw {f fD fX fL : Addr} {fd fdD fdX fdL : FuncData} (F : Fun K "_law_a_loose_wishes" "_law_a_loose_wishes" sLw f fd) (GD : FnOk P w K mg base CX0 1 fD fdD ["_law_stream", "_law_many"] spDrawB) (kD : PySem.W.keepIn K (.ref fD) = true) (bD : Binds K fdD ["_law_stream", "_law_many"] []) (gD : mg "_law_draw" = some (.ref fD)) (GX : FnOk P w K mg base CX0 2 fX fdX ["_law_stream", "_law_some"] (spMixedB K)) (kX : PySem.W.keepIn K (.ref fX) = true) (bX : Binds K fdX ["_law_stream", "_law_some"] []) (gX : mg "_law_mixed" = some (.ref fX)) (GL : FnOk P w K mg base CX0 3 fL fdL ["_law_stream", "_law_thing"] (spLoose K 1)) (kL : PySem.W.keepIn K (.ref fL) = true) (bL : Binds K fdL ["_law_stream", "_law_thing"] []) (gL : mg "_law_loose" = some (.ref fL)) (gDict : mg "dict" = none) : FnOk P w K mg base CX0 4 f fd ["_law_stream", "_law_wishes"] (spLw K) := by
  refine F.ok scLw (fun vs H Q E h => ?_) (fun cdv A outer s H vs Q E hr h => ?_)
  · obtain ⟨a, b, D, B, ys, rw_, as, rfl, _⟩ := h
    rfl
  · obtain ⟨a, b, D, B, ys, rw_, as, rfl, S, R, hnd, hn, hrw, hB, k⟩ := h
    have nd := scLw.nd
    have hu64 := hu64_of hr
    refine ⟨_, pss_cons (ps_lock (ps_setLcN (i := 2) (own := [("_law_pair", 3)]) (g := gName 3) (tt := tOr (tTest (tOp (rNeD K) (tOp (rIxT K) (tVar 3) (tC (.int 1))) (tLst tNil))) (tTest (tOp rEq (tCall spDrawB [] E0 (tCons (tVar 0) (tCons (tC (.int 2)) tNil))) (tC (.int 0))))) (te := tVar 3) rfl nd rfl rfl (sw_true rfl rfl rfl (by decide +kernel)) (pi_itemsN (pv 1)) (blkOk_by (N := ["_law_stream", "_law_wishes", "_law_some", "_law_pair", "_law_person", "_law_row"]) (sc := defScope sLw) (by decide +kernel)) (fun _ _ _ _ _ => pg_name (i := 3) nd rfl (Or.inl rfl)) (fun _ _ _ _ _ => pts_one (PW.pt (pw_or (pt_cmpR ((op_neD hu64)) (pe_ix ix_tup (pv 3) pe_int (fun _ _ => rfl)) (pe_lst pa_nil) (nomark _)) (pw_or1 (pt_cmpR op_eq (pe_call GD (hr.mono (by decide)) rfl gD kD bD .nil pass0 (pa_cons (pv 0) (pa_cons pe_int pa_nil))) pe_int (nomark _)))))) (fun _ _ _ _ _ => by exact pv 3)))
      (pss_one (ps_ret (pe_callTy (call_dictP rfl) rfl gDict boot_dict2 (pa_cons (pe_lc (own := [("_law_person", 4), ("_law_row", 5)]) (g := gTup K 2 (gCons (gName 4) (gCons (gName 5) gNil))) (tt := tYes) (te := tTup (tCons (tVar 4) (tCons (tCall (spLoose K 1) [] E0 (tCons (tVar 0) (tCons (tVar 5) tNil))) tNil))) rfl nd (pi_list (pe_call GX (hr.mono (by decide)) rfl gX kX bX .nil pass0 (pa_cons (pv 0) (pa_cons (pv 2) pa_nil)))) (blkOk_by (N := ["_law_stream", "_law_wishes", "_law_some", "_law_pair", "_law_person", "_law_row"]) (sc := defScope sLw) (by decide +kernel)) (fun _ _ _ _ _ => pg_tup rfl (pgs_cons (pg_name (i := 4) nd rfl (Or.inl rfl)) (pgs_cons (pg_name (i := 5) nd rfl (Or.inl rfl)) pgs_nil))) (fun _ _ _ _ _ => pts_nil) (fun _ _ _ _ _ => by exact pe_tup (pa_cons (pv 4) (pa_cons (pe_call GL hr rfl gL kL bL .nil pass0 (pa_cons (pv 0) (pa_cons (pv 5) pa_nil))) pa_nil)))) pa_nil)))), ?_⟩
    refine ⟨D, _, R.d, trivial, fun od => ?_⟩
    generalize hkv : ((ys.zip as).map fun p => ((Sum.inr p.1 : Key), V.ref p.2)) = kvs
    have hRd := R.d
    rw [hkv] at hRd
    have hDl : upd H D (.frz od (.dK kvs)) D = some (.frz od (.dK kvs)) := upd_same
    have hzl : (ys.zip as).length = ys.length := by rw [List.length_zip, R.l, Nat.min_self]
    have hkl : kvs.length = ys.length := by rw [← hkv, List.length_map, hzl]
    have hlock : ∀ {q : Addr} {xs : List V}, H q = some (.lst xs) → upd H D (.frz od (.dK kvs)) q = some (.lst xs) := fun {q xs} e => by
      rw [upd_ne (fun z => by
        rw [z, hRd] at e
        cases e)]
      exact e
    have S1 : Stm (upd H D (.frz od (.dK kvs))) a b B := S.set R.nD.1 R.nD.2
    refine ⟨_, rfl, D, od, kvs, rfl, hDl, fun L hL => ?_⟩
    have Lab := S1.nd hL
    have kv_at : ∀ {i : Nat} {k : Key} {v : V}, kvs[i]? = some (k, v) → ∃ n c, (ys.zip as)[i]? = some (n, c) ∧ ys[i]? = some n ∧ as[i]? = some c ∧ k = Sum.inr n ∧ v = .ref c := fun {i k v} h => by
      rw [← hkv, List.getElem?_map] at h
      obtain ⟨⟨n, c⟩, h1, h2⟩ := Option.map_eq_some_iff.mp h
      have h3 := List.getElem?_zip_eq_some.mp h1
      exact ⟨n, c, h1, h3.1, h3.2, (Prod.mk.inj h2).1.symm, (Prod.mk.inj h2).2.symm⟩
    refine ⟨fun g0 i H' => ∃ ts, Chos a b (upd H D (.frz od (.dK kvs))) H' L ((ys.zip as).take i) rw_ ts ∧ Stm H' a b (B + i) ∧ ∀ a', g0 = some a' → ∃ xs, H' a' = some (.tup xs), ?_, ?_, ?_, ?_⟩
    · exact ⟨[], ⟨KeepBut.new hL, upd_same, fun t ht => absurd ht (by simp), by simp, fun p hp => by simp at hp⟩, S1.ext (ExtN.of (sameUp hL)), fun a' h => by cases h⟩
    · rintro g0 i H' ⟨ts, C, S2, hg⟩
      exact ⟨C.k D _ R.nD.1 R.nD.2 hDl, hg⟩
    · rintro g0 i H1 k0 v T hki ⟨ts, C, S2, hg⟩ hT
      obtain ⟨n, c, hz, hyn, hac, rfl, rfl⟩ := kv_at hki
      have hi := lt_of_get hyn
      have hnm := List.mem_of_getElem? hyn
      obtain ⟨ca, cb⟩ := R.na c (List.mem_of_getElem? hac)
      have hc2 := C.k c _ ca cb (hlock (R.r i n c hyn hac))
      have sT := sameUp (o := .tup [kV (Sum.inr n), .ref c]) hT
      have S3 := S2.ext (ExtN.of sT)
      have et : (ys.zip as).take (i + 1) = (ys.zip as).take i ++ [(n, c)] := by rw [List.take_add_one, hz]; rfl
      have gtup : ∀ H', KeepBut a b (upd H1 T (.tup [kV (Sum.inr n), .ref c])) H' → ∀ a', (some (g0.getD T)) = some a' → ∃ xs, H' a' = some (.tup xs) := fun H' kb a' ea => by
        have ea' := Option.some.inj ea
        have key : ∃ xs, upd H1 T (.tup [kV (Sum.inr n), .ref c]) a' = some (.tup xs) := by
          cases g0 with
          | none =>
            have e : T = a' := ea'
            rw [← e]
            exact ⟨_, upd_same⟩
          | some g1 =>
            have e : g1 = a' := ea'
            obtain ⟨xs, q⟩ := hg g1 rfl
            rw [← e]
            exact ⟨xs, sT _ _ q⟩
        obtain ⟨xs, q⟩ := key
        obtain ⟨_, h1⟩ := S3.ha
        obtain ⟨_, h2⟩ := S3.hb
        exact ⟨xs, kb _ _ (fun z => by rw [z, h1] at q; cases q) (fun z => by rw [z, h2] at q; cases q) q⟩
      refine ⟨rfl, _, rfl, T, _, 1, .ref c, rfl, rfl, SqT.of upd_same, rfl, Nat.zero_le _, fun l hl => ?_⟩
      have sl := sameUp (o := .lst []) hl
      have S4 := S3.ext (ExtN.of sl)
      have hc4 := sl _ _ (sT _ _ hc2)
      have okr := hrw n hnm
      have tlen : (ts.map fun t => V.ref t.2.2).length < sizeLine := by
        have h1 := C.sub.length_le
        rw [List.length_take] at h1
        rw [List.length_map] at h1 ⊢
        exact small1000 (by omega)
      have take : ∀ H2 B2, Stm H2 a b B2 → B2 ≤ B + (i + 1) → KeepBut a b (upd H1 T (.tup [kV (Sum.inr n), .ref c])) H2 → ∃ acc, H2 L = some (.lst acc) ∧ acc.length < sizeLine ∧ ∃ ts', Chos a b (upd H D (.frz od (.dK kvs))) (upd H2 L (.lst (acc ++ [.ref T]))) L ((ys.zip as).take (i + 1)) rw_ ts' ∧
          Stm (upd H2 L (.lst (acc ++ [.ref T]))) a b (B + (i + 1)) ∧ ∀ a', (some (g0.getD T)) = some a' → ∃ xs, upd H2 L (.lst (acc ++ [.ref T])) a' = some (.tup xs) := fun H2 B2 S5 hB5 kb => by
        obtain ⟨q1, q2⟩ := C.take S2 hT hL Lab kb
        rw [et]
        refine ⟨_, q1, tlen, _, q2, (S5.set Lab.1 Lab.2).up hB5, fun a' ea => ?_⟩
        obtain ⟨xs, q⟩ := gtup H2 kb a' ea
        exact ⟨xs, by rw [upd_ne (fun z => by rw [z, q1] at q; cases q)]; exact q⟩
      refine ⟨_, _, .lst (SqL.of hc4) (dp_strs _), .lst (SqL.of upd_same) .nil, shaped_strs okr.1, shaped_strs (ns := []) (fun m hm => absurd hm (by simp)), _, rfl, ?_⟩
      have ee : PyData.eqv (.list ((rw_ n).map PyData.str)) (.list []) = decide (rw_ n = []) := eqv_strs (rw_ n) []
      rw [ee]
      by_cases hz0 : rw_ n = []
      · rw [decide_eq_true hz0]
        refine iteF ⟨_, rfl, a, b, B + i, 2, rfl, S4, by omega, by decide, by decide, fun H5 e e0 e1 S5 kb5 => ?_⟩
        have kb6 := (KeepBut.same sl).trans kb5
        refine ⟨rfl, _, rfl, ite2 (fun hz => ?_) (fun hz => ?_)⟩
        · exact ⟨_, rfl, take H5 _ S5 (by omega) kb6⟩
        · exact ⟨ts, by rw [et]; exact C.skip S2 hT Lab kb6 hz0, S5.up (by omega), fun a' ea => gtup H5 kb6 a' ea⟩
      · rw [decide_eq_false hz0]
        exact iteT ⟨_, rfl, take _ _ S4 (by omega) (KeepBut.same sl)⟩
    · rintro g0 H1 ⟨ts, C, S2, hg⟩
      rw [hkl, List.take_of_length_le (by omega)] at C
      rw [hkl] at S2
      have hD1 := C.k D _ R.nD.1 R.nD.2 hDl
      refine ⟨hD1, ?_⟩
      have S3 := S2.set (o := .dK kvs) R.nD.1 R.nD.2
      have kb3 : KeepBut a b H (upd H1 D (.dK kvs)) := kb_unlock hRd C.k
      have nfr : ∀ {q : Addr} {u : HO}, H1 q = some u → (∀ od u', u ≠ .frz od u') → upd H1 D (.dK kvs) q = some u := fun {q u} e n => by
        rw [upd_ne (fun z => by
          rw [z, hD1] at e
          exact n _ _ (Option.some.inj e).symm)]
        exact e
      have hL3 := nfr C.L (fun _ _ z => by cases z)
      have hLH : H L = none := by
        by_cases z : L = D
        · rw [z, upd_same] at hL
          cases hL
        · rw [upd_ne z] at hL
          exact hL
      have R3 := R.keep kb3
      have tl : ts.length ≤ 63 := by
        have h1 := C.sub.length_le
        rw [List.length_map] at h1
        omega
      refine ⟨_, rfl, _, rfl, a, b, L, _, _, rfl, S3, .inl (SqL.of hL3), by rw [List.length_map]; omega, by omega, fun H4 l zs S4 kb4 hl4 hl4' pm => ?_⟩
      obtain ⟨ts', pm', rfl⟩ := perm_map pm rfl
      have kbA := kb3.trans kb4
      have R4 := R.keep kbA
      have nab : ∀ {q : Addr} {xs : List V}, H1 q = some (.tup xs) → q ≠ a ∧ q ≠ b := fun {q xs} e => by
        obtain ⟨_, h1⟩ := S2.ha
        obtain ⟨_, h2⟩ := S2.hb
        exact ⟨fun z => (by rw [z, h1] at e; cases e), fun z => (by rw [z, h2] at e; cases e)⟩
      have tup4 : ∀ t ∈ ts', H4 t.2.2 = some (.tup [.str t.1, .ref t.2.1]) := fun t ht => by
        have e := C.t t (pm'.subset ht)
        obtain ⟨q1, q2⟩ := nab e
        exact kb4 _ _ q1 q2 (nfr e (fun _ _ z => by cases z))
      have at4 : ∀ t ∈ ts', ∃ i, ys[i]? = some t.1 ∧ as[i]? = some t.2.1 := fun t ht => by
        have h1 : (t.1, t.2.1) ∈ ys.zip as := C.sub.subset (List.mem_map_of_mem (f := fun t : Str × Addr × Addr => (t.1, t.2.1)) (pm'.subset ht))
        obtain ⟨i, hi⟩ := List.getElem?_of_mem h1
        have h3 := List.getElem?_zip_eq_some.mp hi
        exact ⟨i, h3.1, h3.2⟩
      have tl' : ts'.length ≤ 63 := by rw [pm'.length_eq]; exact tl
      refine ⟨l, rfl, ⟨_, SqL.of hl4'⟩, fun L2 hL2 => ?_⟩
      have Lab2 := S4.nd hL2
      have lab := S3.nd hl4
      have hndz : (ts'.map fun t => t.1).Nodup := by
        have h1 : (ts.map fun t => t.1).Sublist ys := by
          have h2 := C.sub.map Prod.fst
          rw [List.map_map, List.map_fst_zip (by rw [R.l]; exact Nat.le_refl _)] at h2
          exact h2
        exact ((pm'.map fun t => t.1).nodup_iff).mpr (hnd.sublist h1)
      refine lc_it (walk_list (xs := ts'.map fun t => V.ref t.2.2)) (fun j H' => ∃ es, Lws a b H H4 H' L2 rw_ ((ts'.take j).map fun t => t.1) es ∧ Stm H' a b (B + 5000 + j * 1000)) ?_ (fun j H' _ ⟨es, W, _⟩ => SqL.of (W.k l _ lab.1 lab.2 hl4')) ?_ ?_
      · exact ⟨[], ⟨KeepBut.new hL2, upd_same, rfl, by simp, by simp, by simp, by simp, by simp⟩, (S4.ext (ExtN.of (sameUp hL2))).up (by omega)⟩
      · rintro j v H5 H6 hj ⟨es, W, S5⟩ ⟨rfl, hv⟩
        rw [List.length_map] at hj
        rw [List.getElem?_map] at hv
        obtain ⟨t, ht, rfl⟩ := Option.map_eq_some_iff.mp hv
        have htm := List.mem_of_getElem? ht
        obtain ⟨i, hi1, hi2⟩ := at4 t htm
        obtain ⟨ca, cb⟩ := R.na _ (List.mem_of_getElem? hi2)
        have hty := tup4 t htm
        have tyab : t.2.2 ≠ a ∧ t.2.2 ≠ b := by
          obtain ⟨_, h1⟩ := S4.ha
          obtain ⟨_, h2⟩ := S4.hb
          exact ⟨fun z => (by rw [z, h1] at hty; cases hty), fun z => (by rw [z, h2] at hty; cases hty)⟩
        have hty6 := W.k _ _ tyab.1 tyab.2 hty
        have hrow6 := W.k _ _ ca cb (R4.r i _ _ hi1 hi2)
        have okr := hrw _ (List.mem_of_getElem? hi1)
        refine ⟨_, _, rfl, SqT.of hty6, rfl, _, _, rfl, _, _, rfl, rfl, rfl, _, rfl, _, rfl, _, rfl, a, b, _, _, rowT (rw_ t.1), rfl, S5, by omega, dat_row ca cb (.inl hrow6) (by omega), dep_row _, by decide, fun H7 x' S7 S8 kb7 ot fr => ?_⟩
        obtain ⟨p, rfl, hp, rfl⟩ := out_row ot
        have hpH : H6 p = none := fr p (by simp)
        refine ⟨(show 2 ≤ sizeLine by decide), fun T hT => ?_⟩
        have eab : ∀ e ∈ es, (e.2.1 ≠ a ∧ e.2.1 ≠ b ∧ e.2.1 ≠ L2) ∧ (e.2.2 ≠ a ∧ e.2.2 ≠ b) := fun e he => by
          obtain ⟨q1, q2⟩ := S.nd (W.f e he)
          have hte := W.t e he
          obtain ⟨_, h1⟩ := S5.ha
          obtain ⟨_, h2⟩ := S5.hb
          exact ⟨⟨q1, q2, W.nL e he⟩, fun z => (by rw [z, h1] at hte; cases hte), fun z => (by rw [z, h2] at hte; cases hte)⟩
        obtain ⟨q1, q2⟩ := W.snoc Lab2 hL2 eab kb7 (kb_free (kbA.trans W.k) S5.na.1 S5.na.2 hpH) hpH hp hT
        refine ⟨_, (sameUp hT) _ _ q1, small1000 ?_, es ++ [(t.1, p, T)], ?_, ?_⟩
        · have h1 := congrArg List.length W.nm
          rw [List.length_map, List.length_map, List.length_take] at h1
          rw [List.length_map]
          omega
        · rw [List.take_add_one, ht, List.map_append]
          exact q2
        · refine (((S8.ext (ExtN.of (sameUp hT))).set Lab2.1 Lab2.2).up ?_)
          have e1 : (j + 1) * 1000 = j * 1000 + 1000 := Nat.succ_mul ..
          omega
      · rintro H5 ⟨es, W, S5⟩
        rw [List.length_map] at W S5
        rw [List.take_length] at W
        have hL5 : H5 L2 = some (.lst ((es.map fun e => e.2.2).map V.ref)) := by
          rw [W.hL, List.map_map]
          rfl
        have hfst : (es.map fun e => (e.1, e.2.1)).map Prod.fst = ts'.map fun t => t.1 := by
          rw [List.map_map]
          exact W.nm
        have hmg : mergeK [] (es.map fun e => ((Sum.inr e.1 : Key), V.ref e.2.1)) = (es.map fun e => (e.1, e.2.1)).map fun p => (Sum.inr p.1, V.ref p.2) := by
          rw [mergeK_new]
          · rw [List.nil_append, List.map_map]
            rfl
          · rw [List.nil_append, List.map_map]
            have h1 : ((es.map fun e => e.1).map (Sum.inr : Str → Key)).Nodup := by
              rw [W.nm]
              exact nodup_mapI (fun x y z => Sum.inr.inj z) hndz
            rw [List.map_map] at h1
            exact h1
        have prd : ∀ es' : List (Str × Addr × Addr), (∀ e ∈ es', H5 e.2.2 = some (.tup [.str e.1, .ref e.2.1])) → Paired (fun p kv => SqT K H5 p [kV kv.1, kv.2]) (es'.map fun e => e.2.2) (es'.map fun e => ((Sum.inr e.1 : Key), V.ref e.2.1)) := by
          intro es'
          induction es' with
          | nil => exact fun _ => .nil
          | cons e r ih => exact fun h => .cons (SqT.of (h e (by simp))) (ih fun e' he' => h e' (by simp [he']))
        refine ⟨L2, _, _, rfl, SqL.of hL5, prd es W.t, fun D' hD' => ?_⟩
        rw [hmg]
        have hD4 : H D' = none := kb_free (kbA.trans W.k) S5.na.1 S5.na.2 hD'
        refine k _ D' _ ((S5.ext (ExtN.of (sameUp hD'))).up (by omega)) ((kbA.trans W.k).trans (KeepBut.new hD')) ⟨upd_same, by rw [hfst]; exact hndz, fun p hp => ?_, fun n hn2 hno => ?_, fun p hp => ?_, fun p hp => ?_, ?_, hD4⟩
        · have h1 : p.1 ∈ ts'.map fun t => t.1 := by
            rw [← hfst]
            exact List.mem_map_of_mem hp
          obtain ⟨t, ht, e⟩ := List.mem_map.mp h1
          obtain ⟨i, hi, _⟩ := at4 t ht
          rw [← e]
          exact List.mem_of_getElem? hi
        · obtain ⟨i, hi⟩ := List.getElem?_of_mem hn2
          obtain ⟨c, hc⟩ : ∃ c, as[i]? = some c := ⟨as[i]'(by have := lt_of_get hi; have := R.l; omega), List.getElem?_eq_getElem _⟩
          refine C.out (n, c) (List.mem_of_getElem? (List.getElem?_zip_eq_some.mpr ⟨hi, hc⟩)) fun h1 => hno ?_
          obtain ⟨t, ht, e⟩ := List.mem_map.mp h1
          rw [hfst]
          exact List.mem_map.mpr ⟨t, pm'.symm.subset ht, (Prod.mk.inj e).1⟩
        · obtain ⟨e, he, rfl⟩ := List.mem_map.mp hp
          exact (W.r e he).same (sameUp hD')
        · obtain ⟨e, he, rfl⟩ := List.mem_map.mp hp
          exact W.f e he
        · rw [List.map_map]
          exact W.n
end
end Mn
/-! list(d.values()); spoiling -/
namespace Mo
open PySem PySem.Spec PyProof.Rows L2
def rValsL : V → Hp → VK → Prop := fun x H Q => ∃ (d : Addr) (kvs : List (Key × V)), x = .ref d ∧ H d = some (.dK kvs) ∧ ∀ p, H p = none → Q (.ref p) (upd H p (.lst (kvs.map Prod.snd)))
def tListVals (te : TE) : TE := fun σ H Q => te σ H fun x H1 => rValsL x H1 Q
theorem kv_snd : ∀ {kvs : List (Key × V)} {vs : List (Key × Value)}, KV kvs vs → Vals (kvs.map Prod.snd) (vs.map Prod.snd)
  | _, _, .nil => .nil
  | _, _, .cons h t => .cons h.2 (kv_snd t)
section
variable {X : Cx} {e : Expr} {te : TE} {p apos cpos pos : Pos}
/-- list(e.values()) -/
theorem pe_listVals (hc : X.calm = true) (he : PE X e te) (hg : Gl X "list") (hm : X.mg "list" = none) (hv : bootBuiltins "list" = some (.type "list")) (hbase : attributeBase e "values" X.env (eval e X.env) = eval e X.env := by rfl) (hline : (apos.endLine == cpos.line) = true := by rfl)
    (hs : starEach [.Call (.Attribute e "values" apos) [] [] cpos] X.env = (false, eval (.Call (.Attribute e "values" apos) [] [] cpos) X.env) :: starEach [] X.env := by rfl) :
    PE X (.Call (.Name "list" p) [.Call (.Attribute e "values" apos) [] [] cpos] [] pos) (tListVals te) := by
  refine ⟨fun pins s σ H Q I hq => ?_⟩
  refine wpAny_Call_Name_kw (ld_blt I hg hm hv ?_)
  refine PyProof.Rows.callWith_type1 ?_ hs rfl
  rw [hs]
  show wpAny _ _ (spliced ((false, eval (.Call (.Attribute e "values" apos) [] [] cpos) X.env) :: backTo pos (starEach [] X.env))) _ _ s
  refine Calls.spliced_cons ?_
  refine wpAny_Call_method (T := "dict") (id := "dict.values") hbase rfl hline F.plainAttrs_dict F.slot_dict_values F.type_dict_values (thn (he.run pins s σ H _ I hq) fun u s1 ⟨x, H1, I1, rx, d, kvs, ex, hd, q⟩ => ?_)
  subst ex
  obtain rfl : u = Value.ref d := rx
  obtain ⟨hz, hs0, vs, kv, hdo⟩ := I1.hok d _ hd
  obtain ⟨ep, hat⟩ := hdo.dictAt
  have lk : kvs.length = vs.length := Paired.length kv
  have I2 : Inv X pins σ H1 { s1 with heap := s1.heap.push { cls := .type "dict_values", data := .fields #[.ref d] } } := I1.kept (t' := s1.toks) fun b ob q => Heap.get?_push_of_some _ q
  refine ⟨hdo.typeIs, hdo.mapOf.noDict, ?_⟩
  show wpAny _ _ (callWith cpos (.builtin "dict.values") [.ref d] [] []) _ X.xe s1
  refine method_meetsIn F.slot_dict_values F.entry_dict_values rfl (PySem.evalArgs_none ⟨rfl, hdo.typeIs, F.args_dict_values_1 _, _, meets_dict_values (mixKind X.prog X.w) d hs0, ⟨vs, hdo⟩, ?_⟩)
  refine Calls.spliced_nil ?_
  refine PySem.W.kdl_call (PySem.W.kdl_values (knd := mixKind X.prog X.w) (kvs := vs) (d := d) (r := s1.heap.objs.size) (ep := ep)) (I1.ok.hd hc) ⟨⟨_, Heap.get?_push_size _ rfl, rfl, rfl⟩, hat.push _⟩ (by omega) fun h' tk acc c hk hS hacc => ?_
  have eacc : acc.toList = vs.map Prod.snd := by
    refine List.ext_getElem? fun j => ?_
    rw [List.getElem?_map]
    by_cases hj : j < vs.length
    · have h1 : j < acc.size := by rw [hacc.1]; exact hj
      obtain ⟨k, hk⟩ := hacc.2 j acc[j] (by simp [h1])
      rw [hk]
      simp [h1]
    · rw [List.getElem?_eq_none (by rw [Array.length_toList, hacc.1]; omega), List.getElem?_eq_none (by omega)]
      rfl
  have nS := I2.hok.fresh (Nat.le_refl (s1.heap.push { cls := .type "dict_values", data := .fields #[.ref d] }).objs.size)
  refine ⟨.ref _, _, I2.laid (a := (s1.heap.push { cls := .type "dict_values", data := .fields #[.ref d] }).objs.size) (o := .lst (kvs.map Prod.snd)) (t' := tk) hk (Nat.le_refl _) ⟨by rw [List.length_map]; exact hz, acc.toList, c, by rw [eacc]; exact kv_snd kv, ?_⟩, rfl, q _ nS⟩
  rw [Array.toArray_toList]
  exact hS
end
end Mo
/-! _law_a_spoiled -/
namespace Mn
open PySem PySem.Spec PyProof.Rows L2 Md Me Ml LamX Mi Mo
abbrev sSp : Stmt := top 40
mutual
/-- lists, tuples, dicts of texts, each object once: the objects -/
inductive Ow (H : Hp) : Nat → V → List Addr → Prop
  | leaf (n : Nat) (x : Str) : Ow H n (.str x) []
  | seq {n : Nat} {p : Addr} {xs : List V} {S : List Addr} (h : Seq H p xs) (hl : xs.length ≤ 1000) (r : Ows H n xs S) (hp : p ∉ S) : Ow H (n + 1) (.ref p) (p :: S)
  | dic {n : Nat} {p : Addr} {kvs : List (Key × V)} {S : List Addr} (h : H p = some (.dK kvs)) (hl : kvs.length ≤ 1000) (r : Ows H n (kvs.map Prod.snd) S) (hp : p ∉ S) : Ow H (n + 1) (.ref p) (p :: S)
inductive Ows (H : Hp) : Nat → List V → List Addr → Prop
  | nil (n : Nat) : Ows H n [] []
  | cons {n : Nat} {v : V} {vs : List V} {S S' : List Addr} (h : Ow H n v S) (r : Ows H n vs S') (d : ∀ s ∈ S, s ∉ S') : Ows H n (v :: vs) (S ++ S')
end
section
variable {H H' : Hp}
mutual
theorem Ow.keep : ∀ {n : Nat} {v : V} {S : List Addr}, (∀ s ∈ S, ∀ o, H s = some o → H' s = some o) → Ow H n v S → Ow H' n v S
  | _, _, _, _, .leaf n x => .leaf n x
  | _, _, _, k, .seq h hl r hp => .seq (h.imp (k _ (by simp) _) (k _ (by simp) _)) hl (Ows.keep (fun s hs => k s (by simp [hs])) r) hp
  | _, _, _, k, .dic h hl r hp => .dic (k _ (by simp) _ h) hl (Ows.keep (fun s hs => k s (by simp [hs])) r) hp
theorem Ows.keep : ∀ {n : Nat} {vs : List V} {S : List Addr}, (∀ s ∈ S, ∀ o, H s = some o → H' s = some o) → Ows H n vs S → Ows H' n vs S
  | _, _, _, _, .nil n => .nil n
  | _, _, _, k, .cons h r d => .cons (Ow.keep (fun s hs => k s (by simp [hs])) h) (Ows.keep (fun s hs => k s (by simp [hs])) r) d
end
mutual
theorem Ow.live : ∀ {n : Nat} {v : V} {S : List Addr}, Ow H n v S → ∀ s ∈ S, H s ≠ none
  | _, _, _, .leaf n x, s, hs => by simp at hs
  | _, _, _, .seq h hl r hp, s, hs => by
    rcases List.mem_cons.mp hs with z | z
    · rw [z]
      rcases h with h | h <;> (rw [h]; exact fun q => by cases q)
    · exact Ows.live r s z
  | _, _, _, .dic h hl r hp, s, hs => by
    rcases List.mem_cons.mp hs with z | z
    · rw [z, h]
      exact fun q => by cases q
    · exact Ows.live r s z
theorem Ows.live : ∀ {n : Nat} {vs : List V} {S : List Addr}, Ows H n vs S → ∀ s ∈ S, H s ≠ none
  | _, _, _, .nil n, s, hs => by simp at hs
  | _, _, _, .cons h r d, s, hs => by
    rcases List.mem_append.mp hs with z | z
    · exact Ow.live h s z
    · exact Ows.live r s z
end
end
def spSp (n : Nat) : Sp := fun vs H Q _ => ∃ (v : V) (S : List Addr), vs = [v] ∧ Ow H n v S ∧ ∀ H', (∀ c o, c ∉ S → H c = some o → H' c = some o) → Q .non H'
def spPrevS : Nat → Sp
  | 0 => fun _ _ _ _ => False
  | n + 1 => spSp n
theorem drop_of {α : Type} {xs : List α} {i : Nat} {x : α} (h : xs[i]? = some x) : xs.drop i = x :: xs.drop (i + 1) := by
  obtain ⟨h1, h2⟩ := List.getElem?_eq_some_iff.mp h
  rw [← h2]
  exact List.drop_eq_getElem_cons h1
section
variable {P : Program} {w : World} {K : PySem.W.Frag} {mg : Str → Option Value} {base : Heap}
theorem scSp : FnScope ["_law_thing", "_law_some", "_law_part"] ["_law_thing"] (defScope sSp) := ⟨rfl, rfl, rfl, by decide +kernel, rfl, by decide +kernel, by decide +kernel⟩
theorem seq_walk {H : Hp} {c : Addr} {xs : List V} (h : Seq H c xs) : ∃ (J : It) (o : HO), H c = some o ∧ Walk J xs.length (fun H => H c = some o) (YAt xs) ∧ ((H c = some (.lst xs) ∧ J = Itl K c) ∨ (H c = some (.tup xs) ∧ J = Itt K c)) := by
  rcases h with h | h
  · exact ⟨Itl K c, .lst xs, h, walk_list.mono (fun H e => SqL.of e) (fun _ _ _ _ _ _ y => y), .inl ⟨h, rfl⟩⟩
  · exact ⟨Itt K c, .tup xs, h, walk_tup.mono (fun H e => SqT.of e) (fun _ _ _ _ _ _ y => y), .inr ⟨h, rfl⟩⟩
theorem sp_step {n : Nat} {f : Addr} {fd : FuncData} (F : Fun K "_law_a_spoiled" "_law_a_spoiled" sSp f fd) (bP : Binds K fd ["_law_thing"] []) (gP : mg "_law_a_spoiled" = some (.ref f)) (GP : FnOk P w K mg base CX0 (n + 1) f fd ["_law_thing"] (spPrevS n))
    (gIs : mg "isinstance" = none) (gList : mg "list" = none) (gTuple : mg "tuple" = none) (gDict : mg "dict" = none) : FnOk P w K mg base CX0 (n + 2) f fd ["_law_thing"] (spSp n) := by
  refine F.ok scSp (fun vs H Q E h => ?_) (fun cdv A outer s H vs Q E hr h => ?_)
  · obtain ⟨v, S, rfl, _⟩ := h
    rfl
  · obtain ⟨v, S, rfl, hO, k⟩ := h
    have nd := scSp.nd
    have kP := F.kp
    have hu := hu_of hr
    refine ⟨_, pss_cons (ps_set (i := 1) nd rfl (Or.inl rfl) (pe_ifExp (pt_val (pe_callB call_isi (by rfl) gIs boot_isinstance (pa_cons (pv 0) (pa_cons (pe_bltn (v := .ty "dict") rfl gDict boot_dict2 rfl) pa_nil)))) (pe_listVals rfl (pv 0) rfl gList boot_list2) (pv 0)))
      (pss_cons (ps_for PassesOwn.never rfl (pi_or (pi_list (pe_ifExp (pt_val (pe_callB call_isiT (by rfl) gIs boot_isinstance (pa_cons (pv 1) (pa_cons (pe_tup (pa_cons (pe_bltn (v := .ty "list") rfl gList boot_list2 rfl) (pa_cons (pe_bltn (v := .ty "tuple") rfl gTuple boot_tuple2 rfl) pa_nil))) pa_nil)))) (pv 1) (pe_lst pa_nil)))
          (pi_tup (pe_ifExp (pt_val (pe_callB call_isiT (by rfl) gIs boot_isinstance (pa_cons (pv 1) (pa_cons (pe_tup (pa_cons (pe_bltn (v := .ty "list") rfl gList boot_list2 rfl) (pa_cons (pe_bltn (v := .ty "tuple") rfl gTuple boot_tuple2 rfl) pa_nil))) pa_nil)))) (pv 1) (pe_lst pa_nil))))
          (pg_name (i := 2) nd rfl (Or.inl rfl)) (pss_one (ps_expr (pe_call GP hr rfl gP kP bP .nil pass0 (pa_cons (pv 2) pa_nil)))))
      (pss_cons (ps_if (pt_val (pe_callB call_isi (by rfl) gIs boot_isinstance (pa_cons (pv 0) (pa_cons (pe_bltn (v := .ty "list") rfl gList boot_list2 rfl) pa_nil)))) (pss_one (ps_expr (pe_bm PySem.F.plainAttrs_list PySem.F.slot_list_append PySem.F.type_list_append mt_append (pv 0) (pa_cons pe_str pa_nil)))) pss_nil)
      (pss_one (ps_if (pt_val (pe_callB call_isi (by rfl) gIs boot_isinstance (pa_cons (pv 0) (pa_cons (pe_bltn (v := .ty "dict") rfl gDict boot_dict2 rfl) pa_nil)))) (pss_one (ps_dput hu (pv 0) pe_str (pe_lst (pa_cons pe_str pa_nil)) rfl)) pss_nil)))), ?_⟩
    cases hO with
    | leaf _ x =>
      obtain ⟨ty, t0, hl, ht, hd, hi, hb⟩ := (ans_str (K := K) (H := H) (x := x)).ex
      refine ⟨_, rfl, _, _, ty, _, _, rfl, .ty _, t0, hd, _, rfl, iteF ⟨_, rfl, ?_⟩⟩
      refine .inl ⟨_, rfl, (show 2 ≤ sizeLine by decide), fun p1 np1 => ⟨_, p1, _, ty, _, _, rfl, upd_same, .cons (.ty _) (.cons (.ty _) .nil), TyX.same (sameUp np1) t0, kitAny2 hl ht, _, rfl, iteF ⟨Nat.zero_le _, fun l hl0 => ⟨l, rfl, ⟨_, SqL.of upd_same⟩, ?_⟩⟩⟩⟩
      have s1 := (sameUp (o := .tup [.ty "list", .ty "tuple"]) np1).trans (sameUp (o := .lst []) hl0)
      refine for_it (walk_list (xs := [])) (fun i σ H' => Same H H' ∧ ∃ o, σ = [some (.str x), some (.str x), o] ∧ H' l = some (.lst [])) ⟨s1, _, rfl, upd_same⟩ (fun i σ H' _ ⟨_, _, _, e⟩ => SqL.of e) (fun i v σ H1 H2 hi => absurd hi (by simp)) ?_
      rintro σ H2 ⟨s2, o, rfl, _⟩
      have t2 := TyX.same s2 t0
      exact ⟨_, rfl, _, _, ty, _, _, rfl, .ty _, t2, hl, _, rfl, iteF ⟨_, rfl, _, _, ty, _, _, rfl, .ty _, t2, hd, _, rfl, iteF (k _ fun c o _ e => s2 _ _ e)⟩⟩
    | @seq m p xs S h hlen r hp =>
      have ex : ∃ (ty : Value) (isL : Bool), TyX K H (.ref p) ty ∧ PySem.W.kitOne K ty (.type "dict") = some false ∧ PySem.W.kitAny K ty [.type "list", .type "tuple"] = some true ∧ PySem.W.kitOne K ty (.type "list") = some isL ∧ (isL = true → H p = some (.lst xs)) := by
        rcases h with h | h
        · obtain ⟨ty, t0, hl, ht, hd, hi, hb⟩ := (ans_lst (K := K) h).ex
          exact ⟨ty, true, t0, hd, kitAny2 hl ht, hl, fun _ => h⟩
        · obtain ⟨ty, t0, hl, ht, hd, hi, hb⟩ := (ans_tup (K := K) h).ex
          exact ⟨ty, false, t0, hd, kitAny2 hl ht, hl, fun z => by cases z⟩
      obtain ⟨ty, isL, t0, hd, hlt, hl, hL⟩ := ex
      refine ⟨_, rfl, _, _, ty, _, _, rfl, .ty _, t0, hd, _, rfl, iteF ⟨_, rfl, ?_⟩⟩
      obtain ⟨J, o, ho, wJ, hR⟩ := seq_walk h
      rcases hR with ⟨hq, rfl⟩ | ⟨hq, rfl⟩
      all_goals
        first
          | refine .inl ⟨_, rfl, (show 2 ≤ sizeLine by decide), fun p1 np1 => ⟨_, p1, _, ty, _, _, rfl, upd_same, .cons (.ty _) (.cons (.ty _) .nil), TyX.same (sameUp np1) t0, hlt, _, rfl, iteT ⟨_, rfl, p, rfl, ⟨_, SqL.of (sameUp np1 _ _ hq)⟩, ?_⟩⟩⟩
          | refine .inr ⟨_, rfl, (show 2 ≤ sizeLine by decide), fun p1 np1 => ⟨_, p1, _, ty, _, _, rfl, upd_same, .cons (.ty _) (.cons (.ty _) .nil), TyX.same (sameUp np1) t0, hlt, _, rfl, iteT ⟨_, rfl, p, rfl, ⟨_, SqT.of (sameUp np1 _ _ hq)⟩, ?_⟩⟩⟩
        have s1 := sameUp (o := .tup [.ty "list", .ty "tuple"]) np1
        refine for_it wJ (fun i σ H' => ∃ ov Sr, σ = [some (.ref p), some (.ref p), ov] ∧ Ows H' m (xs.drop i) Sr ∧ (∀ s ∈ Sr, s ∈ S) ∧ ∀ c o, c ∉ S → H c = some o → H' c = some o) ⟨none, S, rfl, Ows.keep (fun s _ o e => s1 s o e) r, fun s h => h, fun c o _ e => s1 _ _ e⟩ (fun i σ H' _ ⟨_, _, _, _, _, kk⟩ => kk p _ hp ho) ?_ ?_
        · rintro i v σ H2 H3 hi ⟨ov, Sr, rfl, hr2, sub, kk⟩ ⟨rfl, hv⟩
          rw [drop_of hv] at hr2
          cases hr2 with
          | @cons _ _ _ S1 S2 h1 r2 dj =>
            refine ⟨_, rfl, v, S1, rfl, h1, fun H4 k4 => ?_⟩
            exact ⟨_, S2, rfl, Ows.keep (fun s hs o e => k4 s o (fun z => dj s z hs) e) r2, fun s hs => sub s (List.mem_append_right _ hs), fun c o hc e => k4 c o (fun z => hc (sub c (List.mem_append_left _ z))) (kk c o hc e)⟩
        · rintro σ H2 ⟨ov, Sr, rfl, _, _, kk⟩
          have h2 := kk p _ hp hq
          have fin : ∀ H3, (∀ c o, c ≠ p → H2 c = some o → H3 c = some o) → Q .non H3 := fun H3 k3 => k H3 fun c o hc e => k3 c o (fun z => hc (by rw [z]; exact List.mem_cons_self)) (kk c o (fun z => hc (List.mem_cons_of_mem _ z)) e)
          first
            | obtain ⟨ty2, t2, l2, _, d2, _, _⟩ := (ans_lst (K := K) h2).ex
              refine ⟨_, rfl, _, _, ty2, _, _, rfl, .ty _, t2, l2, _, rfl, iteT ⟨_, rfl, .inl ⟨rfl, _, SqL.of h2⟩, p, xs, _, rfl, rfl, h2, small1000 hlen, ?_⟩⟩
              obtain ⟨ty3, t3, l3, _, d3, _, _⟩ := (ans_lst (K := K) (H := upd H2 p (.lst (xs ++ [V.str "late"]))) upd_same).ex
              exact ⟨_, rfl, _, _, ty3, _, _, rfl, .ty _, t3, d3, _, rfl, iteF (fin _ fun c o hc e => by rw [upd_ne hc]; exact e)⟩
            | obtain ⟨ty2, t2, l2, _, d2, _, _⟩ := (ans_tup (K := K) h2).ex
              exact ⟨_, rfl, _, _, ty2, _, _, rfl, .ty _, t2, l2, _, rfl, iteF ⟨_, rfl, _, _, ty2, _, _, rfl, .ty _, t2, d2, _, rfl, iteF (fin _ fun c o hc e => e)⟩⟩
    | @dic m p kvs S h hlen r hp =>
      obtain ⟨ty, t0, hl, ht, hd, hi, hb⟩ := (ans_dK (K := K) h).ex
      refine ⟨_, rfl, _, _, ty, _, _, rfl, .ty _, t0, hd, _, rfl, iteT ⟨_, rfl, p, kvs, rfl, h, fun L hL => ?_⟩⟩
      have sL := sameUp (o := .lst (kvs.map Prod.snd)) hL
      have hLS : L ∉ S := fun z => Ows.live r L z hL
      obtain ⟨tyL, tL, lL, lt, dL, _, _⟩ := (ans_lst (K := K) (H := upd H L (.lst (kvs.map Prod.snd))) upd_same).ex
      refine .inl ⟨_, rfl, (show 2 ≤ sizeLine by decide), fun p1 np1 => ⟨_, p1, _, tyL, _, _, rfl, upd_same, .cons (.ty _) (.cons (.ty _) .nil), TyX.same (sameUp np1) tL, kitAny2 lL lt, _, rfl, iteT ⟨_, rfl, L, rfl, ⟨_, SqL.of (sameUp np1 _ _ upd_same)⟩, ?_⟩⟩⟩
      have s1 := sL.trans (sameUp (o := .tup [.ty "list", .ty "tuple"]) np1)
      refine for_it (walk_list (xs := kvs.map Prod.snd)) (fun i σ H' => ∃ ov Sr, σ = [some (.ref p), some (.ref L), ov] ∧ Ows H' m ((kvs.map Prod.snd).drop i) Sr ∧ (∀ s ∈ Sr, s ∈ S) ∧ H' L = some (.lst (kvs.map Prod.snd)) ∧ ∀ c o, c ∉ S → H c = some o → H' c = some o) ⟨none, S, rfl, Ows.keep (fun s _ o e => s1 s o e) r, fun s h => h, sameUp np1 _ _ upd_same, fun c o _ e => s1 _ _ e⟩ (fun i σ H' _ ⟨_, _, _, _, _, e, _⟩ => SqL.of e) ?_ ?_
      · rintro i v σ H2 H3 hi ⟨ov, Sr, rfl, hr2, sub, eL, kk⟩ ⟨rfl, hv⟩
        rw [drop_of hv] at hr2
        cases hr2 with
        | @cons _ _ _ S1 S2 h1 r2 dj =>
          refine ⟨_, rfl, v, S1, rfl, h1, fun H4 k4 => ?_⟩
          exact ⟨_, S2, rfl, Ows.keep (fun s hs o e => k4 s o (fun z => dj s z hs) e) r2, fun s hs => sub s (List.mem_append_right _ hs), k4 L _ (fun z => hLS (sub L (List.mem_append_left _ z))) eL, fun c o hc e => k4 c o (fun z => hc (sub c (List.mem_append_left _ z))) (kk c o hc e)⟩
      · rintro σ H2 ⟨ov, Sr, rfl, _, _, _, kk⟩
        have h2 := kk p _ hp h
        obtain ⟨ty2, t2, l2, _, d2, _, _⟩ := (ans_dK (K := K) h2).ex
        refine ⟨_, rfl, _, _, ty2, _, _, rfl, .ty _, t2, l2, _, rfl, iteF ⟨_, rfl, _, _, ty2, _, _, rfl, .ty _, t2, d2, _, rfl, iteT ⟨(show 1 ≤ sizeLine by decide), fun l hl3 => ?_⟩⟩⟩
        have s3 := sameUp (o := .lst [V.str "late"]) hl3
        refine ⟨_, rfl, p, _, rfl, DPut.k (k := Sum.inr "late") (s3 _ _ h2) (small1000 hlen), k _ fun c o hc e => ?_⟩
        rw [upd_ne (fun z => hc (by rw [z]; exact List.mem_cons_self))]
        exact s3 _ _ (kk c o (fun z => hc (List.mem_cons_of_mem _ z)) e)
theorem ok_sp {f : Addr} {fd : FuncData} (F : Fun K "_law_a_spoiled" "_law_a_spoiled" sSp f fd) (bP : Binds K fd ["_law_thing"] []) (gP : mg "_law_a_spoiled" = some (.ref f))
    (gIs : mg "isinstance" = none) (gList : mg "list" = none) (gTuple : mg "tuple" = none) (gDict : mg "dict" = none) : ∀ n, FnOk P w K mg base CX0 (n + 2) f fd ["_law_thing"] (spSp n)
  | 0 => sp_step F bP gP ⟨fun _ _ _ _ h => h.elim, fun _ _ _ _ _ _ _ _ _ _ _ _ _ h => h.elim⟩ gIs gList gTuple gDict
  | n + 1 => sp_step F bP gP (ok_sp F bP gP gIs gList gTuple gDict n) gIs gList gTuple gDict
end
end Mn
/-! calls by keywords; a market is made -/
namespace Mn
open PySem PySem.Spec PyProof.Rows L2 Md Me Ml LamX Mi Mo
/-- o.m(k = v, ..) -/
def tMethK (C : Addr) (m : Str) (n : Nat) (sp : Sp) (gV : List V → List V → List V) (E : XK) (ta : TE) (tk : TA) : TE := fun σ H Q => ta σ H fun x H1 => ∃ a dx fs, x = .ref a ∧ H1 a = some (.ins C dx fs) ∧ fs.lookup m = none ∧ tk σ H1 fun zs H2 => zs.length = n ∧ sp (gV [x] zs) H2 Q E
section
variable {X : Cx} {CX : CXT} {k : Nat} {f C : Addr} {fd : FuncData} {ps ks : List Str} {sp : Sp} {E : XK} {m : Str} {apos pos : Pos} {o : Expr} {kws : List Keyword} {ta : TE} {tk : TA} {g : List Value → List Value → List Value} {gV : List V → List V → List V}
theorem pe_methK {pl : Sem Bool} (he : PE X o ta) (c : Cls X.K C) (hm : Meth X.K C m f) (F : FnOk X.prog X.w X.K X.mg X.base CX k f fd ps sp) (hr : Room k X.A) (hb : KBn X.K fd ps 1 ks g gV) (hx : Passes CX X E) (hkw : PK X kws tk)
    (hall : (backToKw pos (keywordEach kws X.env)).all (·.1.isSome) = true := by rfl) (hks : (backToKw pos (keywordEach kws X.env)).filterMap (·.1) = ks := by rfl)
    (hpl : ((backTo pos (starEach [] X.env)).any (·.1) || (backToKw pos (keywordEach kws X.env)).any (·.1.isNone)) = false := by rfl)
    (ht : eval (.Call (.Attribute o m apos) [] kws pos) X.env = (do
      let ov ← eval o X.env
      standAt apos.atName
      let (f, first) ← holding [ov] (getMethod ov m pl)
      callWith pos f first (backTo pos (starEach [] X.env)) (backToKw pos (keywordEach kws X.env))) := by rfl) :
    PE X (.Call (.Attribute o m apos) [] kws pos) (tMethK C m ks.length sp gV E ta tk) := by
  refine ⟨fun pins s σ H Q I h => ?_⟩
  refine PySem.W.methodCall_KW (pl := pl) (thn (he.run pins s σ H _ I h) fun u s1 ⟨x, H1, I1, rx, a, dx, fs, ex, ea, l, q⟩ => ?_) ht
  subst ex
  obtain rfl : u = Value.ref a := rx
  refine getmeth_ok I1 ea c hm l ?_
  refine PySem.W.callWith_KW0 (first := [.ref a]) (h₀ := X.base) I.ok.mod.kin hm.kp hall (thn (hkw.run pos pins s1 σ H1 _ I1 q) fun ws s2 ⟨zs, H2, I2, rz, l2, q2⟩ => ⟨I2.kIn, ?_⟩) hpl
  rw [hks]
  exact run_fnN (us := [.ref a]) (vs := [.ref a]) F hr hb hx I2 (.cons rfl .nil) rz rfl l2 q2
end
section
variable {K : PySem.W.Frag}
theorem vals_rev : ∀ {xs : List V} {us : List Value}, Vals xs us → Vals xs.reverse us.reverse
  | _, _, .nil => .nil
  | _, _, .cons r t => by
    rw [List.reverse_cons, List.reverse_cons]
    exact (vals_rev t).append (.cons r .nil)
theorem kb_wants {f : Addr} {fd : FuncData} (F : Fun K "wants" "Market.wants" (sMk 3) f fd) : KBn K fd ["self", "person"] 1 ["person"] (fun us ws => us ++ ws) (fun vs zs => vs ++ zs) := by
  obtain ⟨oc, od, kV, doc, pm, an, cdv, ct, osl, rfl, lk, hcd⟩ := F.ex
  refine ⟨fun s us ws X l1 l2 => ?_, fun r1 r2 => r1.append r2⟩
  match us, ws, l1, l2 with
  | [u], [w], _, _ => exact BindsTo.of_looks fun M => PySem.W.Looks.of_pure rfl
theorem kb_init {f : Addr} {fd : FuncData} (F : Fun K "__init__" "Market.__init__" (sMk 0) f fd) : KBn K fd ["self", "people", "wishes"] 1 ["wishes", "people"] (fun us ws => us ++ ws.reverse) (fun vs zs => vs ++ zs.reverse) := by
  obtain ⟨oc, od, kV, doc, pm, an, cdv, ct, osl, rfl, lk, hcd⟩ := F.ex
  refine ⟨fun s us ws X l1 l2 => ?_, fun {vs us zs ws} r1 r2 => r1.append (vals_rev r2)⟩
  match us, ws, l1, l2 with
  | [u], [w, p], _, _ => exact BindsTo.of_looks fun M => PySem.W.Looks.of_pure rfl
end
end Mn
/-! _law_told -/
namespace Mn
open PySem PySem.Spec PyProof.Rows L2 Md Me Ml LamX Mi Mo
theorem ows_strs {H : Hp} {n : Nat} : ∀ r : List Str, Ows H n (r.map V.str) []
  | [] => .nil n
  | x :: r => .cons (.leaf n x) (ows_strs r) (fun s hs => by simp at hs)
theorem ow_strs {H : Hp} {n : Nat} {p : Addr} {r : List Str} (h : Seq H p (r.map V.str)) (hl : r.length ≤ 1000) : Ow H (n + 1) (.ref p) [p] := .seq h (by rw [List.length_map]; exact hl) (ows_strs r) (by simp)
theorem ows_refs {H : Hp} {n : Nat} : ∀ {cs : List Addr}, cs.Nodup → (∀ c ∈ cs, ∃ r : List Str, Seq H c (r.map V.str) ∧ r.length ≤ 1000) → Ows H (n + 1) (cs.map V.ref) cs
  | [], _, _ => .nil _
  | c :: cs, nd, h => by
    obtain ⟨n1, n2⟩ := List.nodup_cons.mp nd
    obtain ⟨r, h1, h2⟩ := h c (by simp)
    exact .cons (S := [c]) (ow_strs h1 h2) (ows_refs n2 fun d hd => h d (by simp [hd])) (fun s hs z => n1 (by
      have e : s = c := by simpa using hs
      rw [← e]
      exact z))
/-- what a market told: people, wishes, wants; all new -/
structure ToldAt (H H' : Hp) (L : Addr) (ns ys : List Str) (rw_ : Str → List Str) : Prop where
  ex : ∃ (pl D wl : Addr) (bs cs : List Addr), H' L = some (.lst [.ref pl, .ref D, .ref wl]) ∧ H' pl = some (.lst (ns.map V.str)) ∧ RowsF H H' D ys rw_ bs ∧ H' wl = some (.lst (cs.map V.ref)) ∧ cs.length = ns.length ∧
    (∀ (i : Nat) (n : Str) (c : Addr), ns[i]? = some n → cs[i]? = some c → H' c = some (.lst ((rw_ n).map V.str)))
  ow : ∃ S, Ow H' 3 (.ref L) S ∧ ∀ s ∈ S, H s = none
  fL : H L = none
def spTold (C0 : Addr) : Sp := fun vs H Q _ => ∃ (m : Addr) (ns ys : List Str) (rw_ : Str → List Str), vs = [.ref m] ∧ MkAt H C0 m ns ys rw_ ∧ ns.Nodup ∧ ns.length ≤ 63 ∧ (∀ n ∈ ns, (rw_ n).length ≤ 1000) ∧ ∀ (H' : Hp) (L : Addr), Same H H' → ToldAt H H' L ns ys rw_ → Q (.ref L) H'
abbrev spPeopleM (C0 : Addr) : Sp := fun vs H Q E => ∃ (m : Addr) (ns ys : List Str) (rw_ : Str → List Str), vs = [.ref m] ∧ MkAt H C0 m ns ys rw_ ∧ ∀ l, H l = none → Q (.ref l) (upd H l (.lst (ns.map V.str)))
abbrev spWishesM (C0 : Addr) : Sp := fun vs H Q E => ∃ (m : Addr) (ns ys : List Str) (rw_ : Str → List Str), vs = [.ref m] ∧ MkAt H C0 m ns ys rw_ ∧ ns.Nodup ∧ ns.length ≤ 63 ∧ ∀ (H' : Hp) (D : Addr) (bs : List Addr), Same H H' → RowsF H H' D ys rw_ bs → Q (.ref D) H'
theorem MkAt.ins {H : Hp} {C m : Addr} {ns ys : List Str} {rw_ : Str → List Str} (M : MkAt H C m ns ys rw_) : ∃ dx fs, H m = some (.ins C dx fs) ∧ fs.lookup ("people" : Str) = none ∧ fs.lookup ("wishes" : Str) = none ∧ fs.lookup ("wants" : Str) = none := by
  obtain ⟨dx, pl, rd, h1, _⟩ := M.ex
  exact ⟨dx, _, h1, rfl, rfl, rfl⟩
theorem passE0 {X : Cx} : Passes (L2.CX X.prog X.w) X E0 := passes_call LamX.takes0 (fun _ _ _ _ z => (show False from z).elim)
section
variable {P : Program} {w : World} {K : PySem.W.Frag} {mg : Str → Option Value} {base : Heap}
end
end Mn
/-! markets made of good people and rows; _law_a_made -/
namespace Mn
open PySem PySem.Spec PyProof.Rows L2 Md Me Ml LamX Mi Mo
abbrev sMade : Stmt := top 37
/-- all but the stream and the tables stays -/
structure UpS (T : List (Addr × Str)) (a b : Addr) (H H' : Hp) : Prop where
  e : ∀ c o, c ≠ a → c ≠ b → H c = some o → (∀ ps, o ≠ .tbl ps) → H' c = some o
  t : Tabs T H'
theorem UpS.refl {T : List (Addr × Str)} {a b : Addr} {H : Hp} (t : Tabs T H) : UpS T a b H H := ⟨fun _ _ _ _ e _ => e, t⟩
theorem UpS.trans {T : List (Addr × Str)} {a b : Addr} {H H1 H2 : Hp} (x : UpS T a b H H1) (y : UpS T a b H1 H2) : UpS T a b H H2 := ⟨fun c o h1 h2 e n => y.e c o h1 h2 (x.e c o h1 h2 e n) n, y.t⟩
theorem UpS.up {T : List (Addr × Str)} {a b : Addr} {H H' : Hp} (u : Up T H H') : UpS T a b H H' := ⟨fun c o _ _ e n => u.e c o e n, u.t⟩
theorem UpS.same {T : List (Addr × Str)} {a b : Addr} {H H' : Hp} (t : Tabs T H) (s : Same H H') : UpS T a b H H' := .up (.same t s)
theorem Tabs.but {T : List (Addr × Str)} {a b : Addr} {H H' : Hp} {B : Nat} (t : Tabs T H) (S : Stm H a b B) (k : KeepBut a b H H') : Tabs T H' := by
  obtain ⟨xs, ha⟩ := S.ha
  obtain ⟨zs, hb⟩ := S.hb
  have go : ∀ {c : Addr} {o : HO}, H c = some o → (∀ xs, o ≠ .lst xs) → H' c = some o := fun {c o} e n => k c o (fun z => by
    rw [z, ha] at e
    exact n _ (Option.some.inj e).symm) (fun z => by
    rw [z, hb] at e
    exact n _ (Option.some.inj e).symm) e
  intro p hp
  obtain ⟨ps, h1, h2, h3⟩ := t p hp
  refine ⟨ps, go h1 (fun xs z => by cases z), h2, fun pos cv hc => ?_⟩
  obtain ⟨c0, e1, e2⟩ := h3 pos cv hc
  exact ⟨c0, e1, go e2 (fun xs z => by cases z)⟩
theorem UpS.kb {T : List (Addr × Str)} {a b : Addr} {H H' : Hp} {B : Nat} (t : Tabs T H) (S : Stm H a b B) (k : KeepBut a b H H') : UpS T a b H H' := ⟨fun c o h1 h2 e _ => k c o h1 h2 e, Tabs.but t S k⟩
/-! ### people and rows that are right -/
theorem fwI_ok {fit : Str → Bool} : ∀ (ns seen : List Str) (i : Nat), ns.Nodup → (∀ n ∈ ns, fit n = true ∧ n ∉ seen) → fwI fit (ns.map V.str) seen i = none
  | [], _, _, _, _ => rfl
  | n :: ns, seen, i, nd, h => by
    obtain ⟨n1, n2⟩ := List.nodup_cons.mp nd
    obtain ⟨h1, h2⟩ := h n (by simp)
    show (if (decide (n ∈ seen) || !fit n) = true then some i else fwI fit (ns.map V.str) (n :: seen) (i + 1)) = none
    rw [decide_eq_false h2, h1, if_neg (by decide)]
    refine fwI_ok ns (n :: seen) (i + 1) n2 fun m hm => ⟨(h m (by simp [hm])).1, fun z => ?_⟩
    rcases List.mem_cons.mp z with z | z
    · rw [z] at hm
      exact n1 hm
    · exact (h m (by simp [hm])).2 z
/-- names and how many -/
structure GoodNs (ns : List Str) : Prop where
  nd : ns.Nodup
  g : ∀ n ∈ ns, goodNm n = true
  l : ns.length ≤ 63
theorem pplOk {H : Hp} {p : Addr} {ns : List Str} (h : Seq H p (ns.map V.str)) (g : GoodNs ns) : PplOk H (.ref p) ns :=
  ⟨p, rfl, h, fwI_ok ns [] 0 g.nd fun n hn => ⟨goodNm.nm (g.g n hn), by simp⟩, g.nd, g.l, fun n hn => Nat.le_trans (goodNm.len (g.g n hn)) (by decide)⟩
structure DRows (H : Hp) (D : Addr) (ps : List (Str × Addr)) (rw_ : Str → List Str) (ns : List Str) : Prop where
  d : H D = some (.dK (ps.map fun p => (Sum.inr p.1, V.ref p.2)))
  nd : (ps.map Prod.fst).Nodup
  mem : ∀ p ∈ ps, p.1 ∈ ns
  r : ∀ p ∈ ps, Seq H p.2 ((rw_ p.1).map V.str)
  out : ∀ n ∈ ns, n ∉ ps.map Prod.fst → rw_ n = []
theorem Loosed.dr {H0 H : Hp} {D : Addr} {ys : List Str} {rw_ : Str → List Str} {ps : List (Str × Addr)} (L : Loosed H0 H D ys rw_ ps) : DRows H D ps rw_ ys := ⟨L.d, L.nd, L.mem, L.r, L.out⟩
theorem inD_names {ns : List Str} {x : Str} (h : x ∈ ns) : inD (namesD ns) x = true := by
  show (valV (namesD ns) (Sum.inr x)).isSome = true
  rw [← valV_any, List.any_eq_true]
  exact ⟨(Sum.inr x, .bl true), List.mem_map.mpr ⟨x, h, rfl⟩, decide_eq_true rfl⟩
theorem row_true {K : PySem.W.Frag} {H : Hp} {ns : List Str} {n : Str} {r : List Str} {c : Addr} (h : Seq H c (r.map V.str)) (g : GoodRow ns n r) (gn : GoodNs ns) : RowB K H (namesD ns) n (.ref c) true := by
  have hl : r.length ≤ ns.length := pigeon g.nd g.sub
  have e1 : unlB (namesD ns) (r.map V.str) = true := by
    unfold unlB
    rw [fwI_ok r [] 0 g.nd fun x hx => ⟨inD_names (g.sub x hx), by simp⟩]
    rfl
  have e2 : inV (.str n) (r.map V.str) = false := by
    rw [inV_strs]
    exact decide_eq_false g.ne
  have q : RowB K H (namesD ns) n (.ref c) (unlB (namesD ns) (r.map V.str) && !inV (.str n) (r.map V.str)) := .seq h (items_strs fun x hx => Nat.le_trans (goodNm.len (gn.g x (g.sub x hx))) (by decide)) (by
    have := gn.l
    rw [List.length_map]
    omega)
  rw [e1, e2] at q
  exact q
theorem ents_true {K : PySem.W.Frag} {H : Hp} {ns : List Str} {rw_ : Str → List Str} (gn : GoodNs ns) (g : GoodRows ns rw_) : ∀ ps : List (Str × Addr), (∀ p ∈ ps, p.1 ∈ ns) → (∀ p ∈ ps, Seq H p.2 ((rw_ p.1).map V.str)) →
    Paired (EntB K H (namesD ns)) (ps.map fun p => (Sum.inr p.1, V.ref p.2)) (ps.map fun _ => true)
  | [], _, _ => .nil
  | p :: ps, h1, h2 => .cons (.row (inD_names (h1 p (by simp))) (row_true (h2 p (by simp)) (g p.1 (h1 p (by simp))) gn)) (ents_true gn g ps (fun q hq => h1 q (by simp [hq])) fun q hq => h2 q (by simp [hq]))
theorem valV_find {ps : List (Str × Addr)} {n : Str} : valV (ps.map fun p => ((Sum.inr p.1 : Key), V.ref p.2)) (Sum.inr n) = (ps.find? fun p => decide (p.1 = n)).map fun p => V.ref p.2 := by
  induction ps with
  | nil => rfl
  | cons p ps ih =>
    rw [List.map_cons, List.find?_cons]
    by_cases h : p.1 = n
    · rw [decide_eq_true h, valV_pos (p := ((Sum.inr p.1 : Key), V.ref p.2)) (congrArg Sum.inr h)]
      rfl
    · rw [decide_eq_false h, valV_neg (p := ((Sum.inr p.1 : Key), V.ref p.2)) (fun z => h (Sum.inr.inj z))]
      exact ih
theorem wshOk {K : PySem.W.Frag} {H : Hp} {D : Addr} {ps : List (Str × Addr)} {rw_ : Str → List Str} {ns : List Str} (d : DRows H D ps rw_ ns) (g : GoodRows ns rw_) (gn : GoodNs ns) : WshOk K H (.ref D) ns rw_ := by
  have hl : ps.length ≤ 63 := by
    have h1 := pigeon d.nd (l2 := ns) fun x hx => by
      obtain ⟨p, hp, rfl⟩ := List.mem_map.mp hx
      exact d.mem p hp
    rw [List.length_map] at h1
    have := gn.l
    omega
  refine ⟨D, _, ps.map fun _ => true, rfl, d.d, ents_true gn g ps d.mem d.r, by rw [List.length_map]; omega, by rw [List.all_map]; exact List.all_eq_true.mpr fun _ _ => rfl, fun n hn => ⟨?_, ?_⟩⟩
  · unfold RowIs
    rw [valV_find]
    cases e : ps.find? fun p => decide (p.1 = n) with
    | none =>
      refine .inr ⟨rfl, d.out n hn fun z => ?_⟩
      obtain ⟨p, hp, e2⟩ := List.mem_map.mp z
      have := List.find?_eq_none.mp e p hp
      exact this (decide_eq_true e2)
    | some p =>
      have hp := List.mem_of_find?_eq_some e
      have e2 : p.1 = n := by
        have := List.find?_some e
        exact of_decide_eq_true this
      refine .inl ⟨p.2, rfl, ?_⟩
      rw [← e2]
      exact d.r p hp
  · have := pigeon (g n hn).nd (g n hn).sub
    have := gn.l
    omega
theorem PplOk.ext {H H' : Hp} {v : V} {ns : List Str} (s : ExtN H H') (h : PplOk H v ns) : PplOk H' v ns := by
  obtain ⟨a, e, h1, h2⟩ := h
  exact ⟨a, e, h1.ext s, h2⟩
theorem WshOk.ext {K : PySem.W.Frag} {H H' : Hp} {v : V} {ns : List Str} {rw_ : Str → List Str} (s : ExtN H H') (h : WshOk K H v ns rw_) : WshOk K H' v ns rw_ := by
  obtain ⟨d, kvs, bs, e, h1, h2, h3, h4, h5⟩ := h
  exact ⟨d, kvs, bs, e, s _ _ h1 ntb_dK, paired_imp (fun _ _ x => x.ext s) h2, h3, h4, fun n hn => ⟨(h5 n hn).1.imp (fun ⟨a, e1, e2⟩ => ⟨a, e1, e2.ext s⟩) id, (h5 n hn).2⟩⟩
/-- what Market(people, wishes) asks, where both are right -/
theorem mk_reads {K : PySem.W.Frag} {T : List (Addr × Str)} {C : Addr} {H1 : Hp} {pv_ wv : V} {ns : List Str} {rw_ : Str → List Str} {R : Addr → Hp → Prop} {E : XK} (MC : MkC K C) (hT : Tabs T H1) (hp : PplOk H1 pv_ ns) (hw : WshOk K H1 wv ns rw_)
    (k : ∀ H' x ys, Up T H1 H' → H1 x = none → MkAt H' C x ns ys rw_ → MkKeep H1 H' x C ns ys rw_ → R x H') :
    ∀ x dx, H1 x = none → H1 dx = none → dx ≠ x → spInit K T [.ref x, pv_, wv] (upd (upd H1 dx (.own x)) x (.ins C dx [])) (fun v H2 => v = .non ∧ R x H2) E := by
  intro x dx nx ndx ne
  have s1 := sameUp (o := .own x) ndx
  have nx2 : upd H1 dx (.own x) x = none := by
    rw [upd_ne ne.symm]
    exact nx
  have s2 := s1.trans (sameUp (o := .ins C dx []) nx2)
  refine ⟨x, C, dx, pv_, wv, rfl, upd_same, MC.c, MC.n1, MC.n2, hT.ext s2, .inr (.inr ⟨ns, rw_, hp.ext (ExtN.of s2), hw.ext (ExtN.of s2), fun ys H' u M MK => ⟨rfl, k H' x ys ⟨fun b o e n => ?_, u.t⟩ nx M fun H'' kk => MK H'' fun c o hc nt => kk c o (hc.imp (fun q o e => q o (s2 _ _ e)) id) nt⟩⟩)⟩
  exact u.e b o (ne_of_none e nx) (s2 _ _ e) n
/-! ### _law_a_made -/
/-- a market that stays while the stream is drawn from -/
def MkSt (C a b : Addr) (H : Hp) (m : Addr) (ns ys : List Str) (rw_ : Str → List Str) : Prop := ∀ H'', (∀ q o, q ≠ a → q ≠ b → H q = some o → (∀ ps, o ≠ .tbl ps) → H'' q = some o) → MkAt H'' C m ns ys rw_
theorem mkSt_of {C a b x : Addr} {H1 H' : Hp} {ns ys : List Str} {rw_ : Str → List Str} {B : Nat} (S : Stm H1 a b B) (nx : H1 x = none) (keep : MkKeep H1 H' x C ns ys rw_) : MkSt C a b H' x ns ys rw_ := fun H'' kk => keep H'' fun c o hc nt e => by
  obtain ⟨xs, ha⟩ := S.ha
  obtain ⟨zs, hb⟩ := S.hb
  have no : ∀ {q : Addr} {l : List V}, H1 q = some (.lst l) → c ≠ q := fun {q l} h z => by
    rcases hc with w | w
    · obtain ⟨ps, e⟩ := w _ (z ▸ h)
      cases e
    · rw [← z, w, nx] at h
      cases h
  exact kk c o (no ha) (no hb) e nt
def spMade (K : PySem.W.Frag) (T : List (Addr × Str)) (C0 : Addr) : Sp := fun vs H Q _ => ∃ (a b c D : Addr) (B : Nat) (ns : List Str) (rw_ : Str → List Str) (as : List Addr), vs = [.ref a, .ref c, .ref D] ∧ Stm H a b B ∧ Tabs T H ∧ c ≠ a ∧ c ≠ b ∧ H c = some (.lst (ns.map V.str)) ∧ RowsS a b H D ns rw_ as ∧ GoodNs ns ∧ GoodRows ns rw_ ∧
  B + 1000000 ≤ 1000000000 ∧ ∀ (H' : Hp) (x : Addr) (ys : List Str), UpS T a b H H' → Stm H' a b (B + 1000000) → H x = none → MkAt H' C0 x ns ys rw_ → MkSt C0 a b H' x ns ys rw_ → Q (.ref x) H'
theorem strsOk_of {ns : List Str} (g : GoodNs ns) : StrsOk ns := fun n hn => goodNm.ok (g.g n hn)
theorem rowOk_of {ns : List Str} {rw_ : Str → List Str} (gn : GoodNs ns) (g : GoodRows ns rw_) {n : Str} (h : n ∈ ns) : StrsOk (rw_ n) ∧ (rw_ n).length ≤ 63 :=
  ⟨fun x hx => goodNm.ok (gn.g x ((g n h).sub x hx)), Nat.le_trans (pigeon (g n h).nd (g n h).sub) gn.l⟩
section
variable {P : Program} {w : World} {K : PySem.W.Frag} {mg : Str → Option Value} {base : Heap}
theorem scMade : FnScope ["_law_stream", "_law_people", "_law_wishes"] ["_law_stream", "_law_people", "_law_wishes"] (defScope sMade) := ⟨rfl, rfl, rfl, by decide +kernel, rfl, by decide +kernel, by decide +kernel⟩
theorem ok_made {T : List (Addr × Str)} {f fL fW fI C0 : Addr} {fd fdL fdW fdI : FuncData} (F : Fun K "_law_a_made" "_law_a_made" sMade f fd) (MC : MkC K C0) (MM : Mk K C0 fI) (gM : mg "Market" = some (.ref C0))
    (GI : FnOk P w K mg base (L2.CX P w) 6 fI fdI ["self", "people", "wishes"] (spInit K T)) (bI : Binds K fdI ["self", "people", "wishes"] [])
    (GL : FnOk P w K mg base CX0 3 fL fdL ["_law_stream", "_law_thing"] (spLoose K 1)) (kL : PySem.W.keepIn K (.ref fL) = true) (bL : Binds K fdL ["_law_stream", "_law_thing"] []) (gL : mg "_law_loose" = some (.ref fL))
    (GW : FnOk P w K mg base CX0 4 fW fdW ["_law_stream", "_law_wishes"] (spLw K)) (kW : PySem.W.keepIn K (.ref fW) = true) (bW : Binds K fdW ["_law_stream", "_law_wishes"] []) (gW : mg "_law_a_loose_wishes" = some (.ref fW)) :
    FnOk P w K mg base CX0 8 f fd ["_law_stream", "_law_people", "_law_wishes"] (spMade K T C0) := by
  refine F.ok scMade (fun vs H Q E h => ?_) (fun cdv A outer s H vs Q E hr h => ?_)
  · obtain ⟨a, b, c, D, B, ns, rw_, as, rfl, _⟩ := h
    rfl
  · obtain ⟨a, b, c, D, B, ns, rw_, as, rfl, S, hT, ca, cb, hc, R, gn, gr, hB, k⟩ := h
    refine ⟨_, pss_one (ps_ret (pe_make MM GI hr rfl gM bI .nil passE0 (pa_cons (pe_call GL (hr.mono (by decide)) rfl gL kL bL .nil pass0 (pa_cons (pv 0) (pa_cons (pv 1) pa_nil))) (pa_cons (pe_call GW (hr.mono (by decide)) rfl gW kW bW .nil pass0 (pa_cons (pv 0) (pa_cons (pv 2) pa_nil))) pa_nil)))), ?_⟩
    have hl := gn.l
    refine ⟨_, rfl, _, rfl, a, b, B, _, rowT ns, rfl, S, by omega, dat_row ca cb (.inl hc) (by omega), dep_row _, by decide, fun H1 x' S0 S1 kb1 ot fr => ?_⟩
    obtain ⟨p, rfl, hp, rfl⟩ := out_row ot
    have hp0 : H p = none := fr p (by simp)
    obtain ⟨pa, pb⟩ := S.nd hp0
    refine ⟨_, rfl, _, rfl, a, b, D, _, ns, rw_, as, rfl, S1, R.keep kb1, gn.nd, hl, fun n hn => rowOk_of gn gr hn, by omega, fun H2 D2 ps S2 kb2 L => ?_⟩
    have kbA := kb1.trans kb2
    have uA : UpS T a b H H2 := .kb hT S kbA
    refine mk_reads MC uA.t (pplOk (Seq.but kb2 pa pb hp) gn) (wshOk L.dr gr gn) fun H3 x ys u nx M keep => ?_
    exact k H3 x ys (uA.trans (.up u)) ((S2.ext u.e).up (by omega)) (kb_free kbA S2.na.1 S2.na.2 nx) M (mkSt_of S2 nx keep)
end
end Mn
/-! repr of what was handed -/
namespace Mq
open PySem PySem.Spec PyProof.Rows L2
mutual
inductive Dx (H : Hp) : V → PyData → Prop
  | str (x : Str) : Dx H (.str x) (.str x)
  | lst {a : Addr} {xs : List V} {ds : List PyData} (h : H a = some (.lst xs)) (r : DxAll H xs ds) : Dx H (.ref a) (.list ds)
  | tup {a : Addr} {xs : List V} {ds : List PyData} (h : H a = some (.tup xs)) (r : DxAll H xs ds) : Dx H (.ref a) (.tuple ds)
  | dic {a : Addr} {kvs : List (Key × V)} {ks : List Str} {ds : List PyData} (h : H a = some (.dK kvs)) (hk : kvs.map Prod.fst = ks.map Sum.inr) (r : DxAll H (kvs.map Prod.snd) ds) : Dx H (.ref a) (.dict ((ks.map PyData.str).zip ds))
inductive DxAll (H : Hp) : List V → List PyData → Prop
  | nil : DxAll H [] []
  | cons {v : V} {vs : List V} {d : PyData} {ds : List PyData} (h : Dx H v d) (r : DxAll H vs ds) : DxAll H (v :: vs) (d :: ds)
end
theorem DxAll.len {H : Hp} : ∀ {vs : List V} {ds : List PyData}, DxAll H vs ds → vs.length = ds.length
  | _, _, .nil => rfl
  | _, _, .cons _ r => by rw [List.length_cons, List.length_cons, DxAll.len r]
theorem dxAll_strs {H : Hp} : ∀ r : List Str, DxAll H (r.map V.str) (r.map PyData.str)
  | [] => .nil
  | x :: r => .cons (.str x) (dxAll_strs r)
theorem keys_read {P : Program} {w : World} {h : Heap} : ∀ {kvs : List (Key × V)} {vs : List (Key × Value)} {es : List DictEntry} {ks : List Str}, KV kvs vs → Pairs (mixKind P w) es vs → kvs.map Prod.fst = ks.map Sum.inr → ReadsAll h (es.map (·.key)) (ks.map PyData.str) []
  | _, _, _, [], .nil, .nil, _ => .nil
  | _, _, _, [], .cons _ _, _, e => by cases e
  | _, _, _, k :: ks, .nil, _, e => by cases e
  | p :: ps, q :: qs, en :: es, k :: ks, .cons h1 t, .cons h2 h3 r, e => by
    rw [List.map_cons, List.map_cons] at e
    obtain ⟨e1, e2⟩ := List.cons.inj e
    obtain ⟨e3, _⟩ := h1
    have h2' : keyIs q.1 en.key = true := h2
    rw [← e3, e1] at h2'
    obtain ⟨tk, ek⟩ := Value.isStrOf_shape (show Value.isStrOf k en.key = true from h2')
    rw [List.map_cons, List.map_cons, ek]
    exact .cons (as := []) (.str k tk) (keys_read t r e2)
theorem vals_of_pairs {P : Program} {w : World} : ∀ {vs : List (Key × Value)} {es : List DictEntry}, Pairs (mixKind P w) es vs → es.map (·.val) = vs.map Prod.snd
  | _, _, .nil => rfl
  | _, _, .cons h1 h2 r => by rw [List.map_cons, List.map_cons, vals_of_pairs r, h2]
section
variable {X : Cx} {pins : List (Addr × Obj)} {σ : L2.St} {H : Hp} {s : Shared}
theorem sys_ne (I : Inv X pins σ H s) {a : Addr} {xs : List V} (h : H a = some (.lst xs)) (hs : ∃ o, X.base.get? sysModules = some o) : a ≠ sysModules := by
  intro z
  obtain ⟨o, e⟩ := hs
  have := (I.bs _ _ e).2
  rw [← z, h] at this
  cases this
mutual
theorem Dx.reads (I : Inv X pins σ H s) (hs : ∃ o, X.base.get? sysModules = some o) : ∀ {v : V} {d : PyData}, Dx H v d → ∀ u, RelV v u → ∃ as, Reads s.heap u d as ∧ sysModules ∉ as
  | _, _, .str x, _, r => by
    obtain ⟨t, rfl⟩ := r
    exact ⟨[], .str x t, by simp⟩
  | _, _, .lst e ha, _, r => by
    cases r
    obtain ⟨_, its, n, rv, ho⟩ := (show ObjOk X.prog X.w H s.heap _ (.lst _) from I.hok _ _ e)
    obtain ⟨as, hr, hn⟩ := DxAll.reads I hs ha its rv
    refine ⟨_, .list ho rfl rfl (by simpa using hr), ?_⟩
    intro z
    rcases List.mem_cons.mp z with z | z
    · exact sys_ne I e hs z.symm
    · exact hn z
  | _, _, .tup e ha, _, r => by
    cases r
    obtain ⟨_, its, rv, o, ho, hc, n, hd⟩ := (show ObjOk X.prog X.w H s.heap _ (.tup _) from I.hok _ _ e)
    obtain ⟨as, hr, hn⟩ := DxAll.reads I hs ha its rv
    exact ⟨_, .tuple ho hc hd (by simpa using hr), hn⟩
  | _, _, @Dx.dic _ a kvs ks ds e hk ha, _, r => by
    cases r
    obtain ⟨_, hm, vs, kv, o, es, ep, ho, ex, hd, _, pr, _⟩ := dk_of I.hok e
    obtain ⟨as, hr, hn⟩ := DxAll.reads I hs ha (vs.map Prod.snd) (Mo.kv_snd kv)
    have lk : ks.length = kvs.length := by
      have := congrArg List.length hk
      rw [List.length_map, List.length_map] at this
      exact this.symm
    have ld : ds.length = kvs.length := by
      have := DxAll.len ha
      rw [List.length_map] at this
      exact this.symm
    have e1 : (((ks.map PyData.str).zip ds).map (·.1)) = ks.map PyData.str := List.map_fst_zip (by rw [List.length_map]; omega)
    have e2 : (((ks.map PyData.str).zip ds).map (·.2)) = ds := List.map_snd_zip (by rw [List.length_map]; omega)
    refine ⟨_, .dict ho ex.1 hd (as := []) (bs := as) ?_ ?_, ?_⟩
    · rw [e1]
      exact keys_read kv pr hk
    · rw [e2, vals_of_pairs pr]
      exact hr
    · intro z
      have z' : sysModules = a ∨ sysModules ∈ as := by simpa using z
      rcases z' with z | z
      · rw [← z] at hm
        simp at hm
      · exact hn z
theorem DxAll.reads (I : Inv X pins σ H s) (hs : ∃ o, X.base.get? sysModules = some o) : ∀ {vs : List V} {ds : List PyData}, DxAll H vs ds → ∀ us, Vals vs us → ∃ as, ReadsAll s.heap us ds as ∧ sysModules ∉ as
  | _, _, .nil, _, r => by
    cases r
    exact ⟨[], .nil, by simp⟩
  | _, _, .cons h1 h2, _, r => by
    cases r with
    | cons r1 r2 =>
      obtain ⟨as, q1, n1⟩ := Dx.reads I hs h1 _ r1
      obtain ⟨bs, q2, n2⟩ := DxAll.reads I hs h2 _ r2
      exact ⟨_, .cons q1 q2, by simp [n1, n2]⟩
end
def rRepr : List V → Hp → VK → Prop := fun xs H Q => ∃ a d, xs = [.ref a] ∧ Dx H (.ref a) d ∧ d.showable = true ∧ d.depth ≤ 60 ∧ d.shown.length ≤ sizeLine ∧ Q (.str d.shown) H
theorem call_repr (hg : X.A.guards = some []) (hu : X.A.units + 64 < cLine) (hs : ∃ o, X.base.get? sysModules = some o) : CallR X (.builtin "repr") rRepr := by
  intro pins s σ H xs us Q I r h
  obtain ⟨a, d, rfl, hd, sh, dp, sz, q⟩ := h
  obtain ⟨u, rfl, rx⟩ := vals1 r
  obtain ⟨as, hr, hn⟩ := Dx.reads I hs hd u rx
  obtain rfl : u = Value.ref a := rx
  exact repr_of_reads' hr sh (fun _ => hn) hg (by omega) (fun _ _ e => e) (fun h' u tk k => ⟨.str d.shown, H, I.kept (t' := tk) k, ⟨u, rfl⟩, q⟩) sz
end
/-! ### how long the texts are -/
theorem sign_len : ∀ c ∈ Mn.signs.cps.toList, (Builtin.Str.reprChar 39 c).length ≤ 2 ∧ (Builtin.Str.reprChar 34 c).length ≤ 2 := by decide +kernel
theorem fold_len {q : Nat} : ∀ (l : List Nat) (n : Nat), (∀ c ∈ l, (Builtin.Str.reprChar q c).length ≤ 2) → l.foldl (fun n c => n + (Builtin.Str.reprChar q c).length) n ≤ n + 2 * l.length
  | [], n, _ => by simp
  | c :: r, n, h => by
    have h1 := h c (by simp)
    have h2 := fold_len r (n + (Builtin.Str.reprChar q c).length) fun d hd => h d (by simp [hd])
    rw [List.foldl_cons, List.length_cons]
    omega
theorem repr_len {x : Str} (g : Mn.goodNm x = true) : (reprText x).length ≤ 18 := by
  have hb := Mn.goodNm.nm g
  have hl := Mn.goodNm.len g
  have h1 : Mn.begins x = true := by
    unfold Mn.isNm at hb
    simp only [Bool.and_eq_true] at hb
    exact hb.2.1
  have h2 : ∀ c ∈ x.cps.toList, c ∈ Mn.signs.cps.toList := fun c hc => by
    unfold Mn.begins at h1
    simp only [Bool.and_eq_true, List.all_eq_true, decide_eq_true_eq] at h1
    exact h1.2.2 c hc
  rw [← reprLen_eq, ← Array.foldl_toList]
  have h3 : ∀ c ∈ x.cps.toList, (Builtin.Str.reprChar (reprQuote x) c).length ≤ 2 := fun c hc => by
    have h4 := sign_len c (h2 c hc)
    unfold reprQuote
    split
    · exact h4.2
    · exact h4.1
  have h5 := fold_len x.cps.toList 2 h3
  have h6 : x.cps.toList.length = x.length := Array.length_toList
  omega
theorem from_len {L : Nat} : ∀ (ts : List Str) (k : Nat) (acc : Str), (∀ t ∈ ts, t.length ≤ L) → (textFrom k acc ts).length ≤ acc.length + ts.length * (L + 2)
  | [], k, acc, _ => by show acc.length ≤ acc.length + 0 * (L + 2); omega
  | t :: r, k, acc, h => by
    have h1 := h t (by simp)
    have h2 := from_len r (k + 1) (acc ++ (if k > 0 then ", " else "" : String) ++ t) fun u hu => h u (by simp [hu])
    have e : (acc ++ (if k > 0 then ", " else "" : String) ++ t).length ≤ acc.length + 2 + t.length := by
      rw [strLen_append, strLen_append]
      split
      · show acc.length + 2 + t.length ≤ _
        omega
      · show acc.length + 0 + t.length ≤ _
        omega
    show (textFrom (k + 1) _ r).length ≤ _
    have e2 : (r.length + 1) * (L + 2) = r.length * (L + 2) + (L + 2) := Nat.succ_mul ..
    rw [List.length_cons, e2]
    omega
theorem join_len {L : Nat} : ∀ ts : List Str, (∀ t ∈ ts, t.length ≤ L) → (Str.join ", " ts).length ≤ ts.length * (L + 2)
  | [], _ => by show 0 ≤ _; omega
  | [t], h => by
    have h1 := h t (by simp)
    show t.length ≤ 1 * (L + 2)
    omega
  | t :: u :: r, h => by
    have h1 := h t (by simp)
    have h2 := join_len (u :: r) fun v hv => h v (by simp [hv])
    show (t ++ (", " : Str) ++ Str.join ", " (u :: r)).length ≤ _
    rw [strLen_append, strLen_append]
    have e3 : (", " : Str).length = 2 := rfl
    have e2 : ((u :: r).length + 1) * (L + 2) = (u :: r).length * (L + 2) + (L + 2) := Nat.succ_mul ..
    rw [List.length_cons (a := t), e2, e3]
    omega
theorem list_len {L : Nat} (ts : List Str) (h : ∀ t ∈ ts, t.length ≤ L) : (listText ts).length ≤ 2 + ts.length * (L + 2) := by
  unfold listText
  rw [strLen_append]
  have h1 := from_len ts 0 "[" h
  have e1 : ("[" : Str).length = 1 := rfl
  have e2 : ("]" : Str).length = 1 := rfl
  omega
theorem tup_len {L : Nat} (ts : List Str) (h : ∀ t ∈ ts, t.length ≤ L) : (tupleText ts).length ≤ 3 + ts.length * (L + 2) := by
  unfold tupleText
  rw [strLen_append, strLen_append]
  have h1 := join_len ts h
  have e1 : ("(" : Str).length = 1 := rfl
  split
  · show ("(" : Str).length + _ + 2 ≤ _
    omega
  · show ("(" : Str).length + _ + 1 ≤ _
    omega
theorem dict_len {L : Nat} (ts : List Str) (h : ∀ t ∈ ts, t.length ≤ L) : (dictText ts).length ≤ 2 + ts.length * (L + 2) := by
  unfold dictText
  rw [strLen_append, strLen_append]
  have h1 := join_len ts h
  have e1 : ("{" : Str).length = 1 := rfl
  have e2 : ("}" : Str).length = 1 := rfl
  omega
theorem shownAll_map : ∀ ds : List PyData, PyData.shownAll ds = ds.map PyData.shown
  | [] => rfl
  | d :: ds => by
    show PyData.shown d :: PyData.shownAll ds = _
    rw [shownAll_map ds]
    rfl
theorem shownKv_map : ∀ ds : List (PyData × PyData), PyData.shownKv ds = ds.map fun p => PyData.shown p.1 ++ ": " ++ PyData.shown p.2
  | [] => rfl
  | (k, v) :: ds => by
    show (PyData.shown k ++ ": " ++ PyData.shown v) :: PyData.shownKv ds = _
    rw [shownKv_map ds]
    rfl
/-- a row as data -/
inductive RowD : PyData → List Str → Prop
  | l (r : List Str) : RowD (.list (r.map PyData.str)) r
  | t (r : List Str) : RowD (.tuple (r.map PyData.str)) r
theorem row_len {d : PyData} {r : List Str} (h : RowD d r) (g : ∀ x ∈ r, Mn.goodNm x = true) (hl : r.length ≤ 63) : d.shown.length ≤ 1300 := by
  have key : ∀ t ∈ PyData.shownAll (r.map PyData.str), t.length ≤ 18 := fun t ht => by
    rw [shownAll_map, List.map_map] at ht
    obtain ⟨x, hx, rfl⟩ := List.mem_map.mp ht
    exact repr_len (g x hx)
  have ll : (PyData.shownAll (r.map PyData.str)).length = r.length := by rw [shownAll_map, List.length_map, List.length_map]
  cases h with
  | l =>
    have h1 := list_len _ key
    rw [ll] at h1
    show (listText (PyData.shownAll (r.map PyData.str))).length ≤ 1300
    omega
  | t =>
    have h1 := tup_len _ key
    rw [ll] at h1
    show (tupleText (PyData.shownAll (r.map PyData.str))).length ≤ 1300
    omega
theorem row_show {d : PyData} {r : List Str} (h : RowD d r) : d.showable = true ∧ d.depth ≤ 2 := by
  have k1 : ∀ r : List Str, PyData.showableAll (r.map PyData.str) = true := fun r => by
    induction r with
    | nil => rfl
    | cons x r ih => exact ih
  have k2 : ∀ r : List Str, PyData.depthAll (r.map PyData.str) ≤ 1 := Mn.depth_strs
  cases h with
  | l =>
    refine ⟨k1 r, ?_⟩
    have := k2 r
    show PyData.depthAll (r.map PyData.str) + 1 ≤ 2
    omega
  | t =>
    refine ⟨k1 r, ?_⟩
    have := k2 r
    show PyData.depthAll (r.map PyData.str) + 1 ≤ 2
    omega
theorem row_dx {H : Hp} {p : Addr} {r : List Str} (h : Mn.Seq H p (r.map V.str)) : ∃ d, Dx H (.ref p) d ∧ RowD d r := by
  rcases h with h | h
  · exact ⟨_, .lst h (dxAll_strs r), .l r⟩
  · exact ⟨_, .tup h (dxAll_strs r), .t r⟩
mutual
theorem Dx.ext {H H' : Hp} (s : LamX.ExtN H H') : ∀ {v : V} {d : PyData}, Dx H v d → Dx H' v d
  | _, _, .str x => .str x
  | _, _, .lst h r => .lst (s _ _ h Mn.ntb_lst) (DxAll.ext s r)
  | _, _, .tup h r => .tup (s _ _ h Mn.ntb_tup) (DxAll.ext s r)
  | _, _, .dic h hk r => .dic (s _ _ h Mn.ntb_dK) hk (DxAll.ext s r)
theorem DxAll.ext {H H' : Hp} (s : LamX.ExtN H H') : ∀ {vs : List V} {ds : List PyData}, DxAll H vs ds → DxAll H' vs ds
  | _, _, .nil => .nil
  | _, _, .cons h r => .cons (Dx.ext s h) (DxAll.ext s r)
end
end Mq
/-! sorted names are told by who they are; what was handed; the same -/
namespace Mn
open PySem PySem.Spec PyProof.Rows L2 Md Me Ml LamX Mi Mo
theorem rising_pw : ∀ (l : List Str) (p : Str), risingS p l = true → (∀ x ∈ l, p.cps.toList ≤ x.cps.toList) ∧ l.Pairwise fun a b => a.cps.toList ≤ b.cps.toList
  | [], p, _ => ⟨fun x hx => by simp at hx, .nil⟩
  | x :: r, p, h => by
    have h' : (!ltCps x.cps.toList p.cps.toList && risingS x r) = true := h
    rw [Bool.and_eq_true, Bool.not_eq_true', ltCps_eq, decide_eq_false_iff_not] at h'
    obtain ⟨h1, h2⟩ := h'
    obtain ⟨i1, i2⟩ := rising_pw r x h2
    have px : p.cps.toList ≤ x.cps.toList := List.not_lt.mp h1
    refine ⟨fun y hy => ?_, .cons i1 i2⟩
    rcases List.mem_cons.mp hy with z | z
    · rw [z]
      exact px
    · exact List.le_trans px (i1 y z)
theorem sorted_pw : ∀ (l : List Str), sortedS l = true → l.Pairwise fun a b => a.cps.toList ≤ b.cps.toList
  | [], _ => .nil
  | x :: r, h => by
    obtain ⟨i1, i2⟩ := rising_pw r x h
    exact .cons i1 i2
theorem sorted_uniq {ys zs : List Str} (h : ys.Perm zs) (h1 : sortedS ys = true) (h2 : sortedS zs = true) : ys = zs := by
  refine List.Perm.eq_of_pairwise (le := fun a b : Str => a.cps.toList ≤ b.cps.toList) (fun a b _ _ x y => ?_) (sorted_pw ys h1) (sorted_pw zs h2) h
  have e := List.le_antisymm x y
  obtain ⟨a⟩ := a
  obtain ⟨b⟩ := b
  exact congrArg Str.mk (Array.toList_inj.mp e)
/-! ### the same -/
theorem sm_strs {C0 : Addr} {H : Hp} {n : Nat} {a b : Addr} {r : List Str} (ha : H a = some (.lst (r.map V.str))) (hb : H b = some (.lst (r.map V.str))) (hl : r.length ≤ 1000) : Sm C0 H (n + 1) (.ref a) (.ref b) := by
  refine .lst ha hb rfl (by rw [List.length_map]; exact hl) fun i x y h1 h2 => ?_
  rw [h1] at h2
  obtain rfl := Option.some.inj h2
  rw [List.getElem?_map] at h1
  obtain ⟨z, _, rfl⟩ := Option.map_eq_some_iff.mp h1
  exact .str _ z
theorem sm_rows {C0 : Addr} {H : Hp} {n : Nat} {a b : Addr} {ys : List Str} {as bs : List Addr} {rw_ : Str → List Str} (ha : H a = some (.dK ((ys.zip as).map fun p => (Sum.inr p.1, V.ref p.2)))) (hb : H b = some (.dK ((ys.zip bs).map fun p => (Sum.inr p.1, V.ref p.2)))) (la : as.length = ys.length) (lb : bs.length = ys.length) (hl : ys.length ≤ 1000) (hr : ∀ n ∈ ys, (rw_ n).length ≤ 1000)
    (ra : ∀ (i : Nat) (n : Str) (c : Addr), ys[i]? = some n → as[i]? = some c → H c = some (.lst ((rw_ n).map V.str))) (rb : ∀ (i : Nat) (n : Str) (c : Addr), ys[i]? = some n → bs[i]? = some c → H c = some (.lst ((rw_ n).map V.str))) : Sm C0 H (n + 1 + 3) (.ref a) (.ref b) := by
  have at_ : ∀ {cs : List Addr} {i : Nat} {p : Key × V}, ((ys.zip cs).map fun p => ((Sum.inr p.1 : Key), V.ref p.2))[i]? = some p → ∃ m c, ys[i]? = some m ∧ cs[i]? = some c ∧ p = (Sum.inr m, V.ref c) := fun {cs i p} h => by
    rw [List.getElem?_map] at h
    obtain ⟨⟨m, c⟩, h1, h2⟩ := Option.map_eq_some_iff.mp h
    have h3 := List.getElem?_zip_eq_some.mp h1
    exact ⟨m, c, h3.1, h3.2, h2.symm⟩
  refine .dic ha hb ?_ ?_ (fun i p q h1 h2 => ?_) fun i p q h1 h2 => ?_
  · rw [List.length_map, List.length_map, List.length_zip, List.length_zip, la, lb]
  · rw [List.length_map, List.length_zip, la, Nat.min_self]
    exact hl
  · obtain ⟨m1, c1, e1, e2, rfl⟩ := at_ h1
    obtain ⟨m2, c2, e3, e4, rfl⟩ := at_ h2
    rw [e1] at e3
    rw [Option.some.inj e3]
  · obtain ⟨m1, c1, e1, e2, rfl⟩ := at_ h1
    obtain ⟨m2, c2, e3, e4, rfl⟩ := at_ h2
    rw [e1] at e3
    obtain rfl := Option.some.inj e3
    exact sm_strs (ra i m1 c1 e1 e2) (rb i m1 c2 e1 e4) (hr m1 (List.mem_of_getElem? e1))
theorem sm_lists {C0 : Addr} {H : Hp} {n : Nat} {a b : Addr} {ys : List Str} {as bs : List Addr} {rw_ : Str → List Str} (ha : H a = some (.lst (as.map V.ref))) (hb : H b = some (.lst (bs.map V.ref))) (la : as.length = ys.length) (lb : bs.length = ys.length) (hl : ys.length ≤ 1000) (hr : ∀ n ∈ ys, (rw_ n).length ≤ 1000)
    (ra : ∀ (i : Nat) (n : Str) (c : Addr), ys[i]? = some n → as[i]? = some c → H c = some (.lst ((rw_ n).map V.str))) (rb : ∀ (i : Nat) (n : Str) (c : Addr), ys[i]? = some n → bs[i]? = some c → H c = some (.lst ((rw_ n).map V.str))) : Sm C0 H (n + 1 + 1) (.ref a) (.ref b) := by
  refine .lst ha hb (by rw [List.length_map, List.length_map, la, lb]) (by rw [List.length_map, la]; exact hl) fun i x y h1 h2 => ?_
  rw [List.getElem?_map] at h1 h2
  obtain ⟨c1, e1, rfl⟩ := Option.map_eq_some_iff.mp h1
  obtain ⟨c2, e2, rfl⟩ := Option.map_eq_some_iff.mp h2
  obtain ⟨m, hm⟩ : ∃ m, ys[i]? = some m := ⟨ys[i]'(by have := lt_of_get e1; omega), List.getElem?_eq_getElem _⟩
  exact sm_strs (ra i m c1 hm e1) (rb i m c2 hm e2) (hr m (List.mem_of_getElem? hm))
/-! ### what was handed -/
theorem DRows.ext {H H' : Hp} {D : Addr} {ps : List (Str × Addr)} {rw_ : Str → List Str} {ns : List Str} (s : ExtN H H') (d : DRows H D ps rw_ ns) : DRows H' D ps rw_ ns := ⟨s _ _ d.d ntb_dK, d.nd, d.mem, fun p hp => (d.r p hp).ext s, d.out⟩
theorem rows_dx {H : Hp} {rw_ : Str → List Str} : ∀ ps : List (Str × Addr), (∀ p ∈ ps, Seq H p.2 ((rw_ p.1).map V.str)) → ∃ ds : List PyData, Mq.DxAll H (ps.map fun p => V.ref p.2) ds ∧ ds.length = ps.length ∧ ∀ (i : Nat) (p : Str × Addr) (d : PyData), ps[i]? = some p → ds[i]? = some d → Mq.RowD d (rw_ p.1)
  | [], _ => ⟨[], .nil, rfl, fun i p d h => by simp at h⟩
  | p :: ps, h => by
    obtain ⟨d, d1, d2⟩ := Mq.row_dx (h p (by simp))
    obtain ⟨ds, e1, e2, e3⟩ := rows_dx ps fun q hq => h q (by simp [hq])
    refine ⟨d :: ds, .cons d1 e1, by rw [List.length_cons, List.length_cons, e2], fun i q e h1 h2 => ?_⟩
    cases i with
    | zero =>
      have a1 : p = q := by simpa using h1
      have a2 : d = e := by simpa using h2
      rw [← a1, ← a2]
      exact d2
    | succ j => exact e3 j q e (by simpa using h1) (by simpa using h2)
theorem showKv : ∀ l : List (PyData × PyData), (∀ p ∈ l, p.1.showable = true ∧ p.2.showable = true) → PyData.showableKv l = true
  | [], _ => rfl
  | (k, v) :: l, h => by
    obtain ⟨h1, h2⟩ := h (k, v) (by simp)
    show (k.showable && v.showable && PyData.showableKv l) = true
    rw [h1, h2, showKv l fun p hp => h p (by simp [hp])]
    rfl
theorem depthKv_le {n : Nat} : ∀ l : List (PyData × PyData), (∀ p ∈ l, p.1.depth ≤ n ∧ p.2.depth ≤ n) → PyData.depthKv l ≤ n
  | [], _ => Nat.zero_le _
  | (k, v) :: l, h => by
    obtain ⟨h1, h2⟩ := h (k, v) (by simp)
    have h3 := depthKv_le l fun p hp => h p (by simp [hp])
    have h1' : k.depth ≤ n := h1
    have h2' : v.depth ≤ n := h2
    simp only [PyData.depthKv]
    omega
theorem handed_dx {H : Hp} {Hd p D : Addr} {ns : List Str} {rw_ : Str → List Str} {ps : List (Str × Addr)} (hH : H Hd = some (.lst [.ref p, .ref D])) (hp : Seq H p (ns.map V.str)) (dr : DRows H D ps rw_ ns) (gn : GoodNs ns) (gr : GoodRows ns rw_) :
    ∃ d, Mq.Dx H (.ref Hd) d ∧ d.showable = true ∧ d.depth ≤ 60 ∧ d.shown.length ≤ sizeLine := by
  obtain ⟨d1, x1, r1⟩ := Mq.row_dx hp
  obtain ⟨ds, x2, hl2, r2⟩ := rows_dx ps dr.r
  have hk : (ps.map fun p => ((Sum.inr p.1 : Key), V.ref p.2)).map Prod.fst = (ps.map Prod.fst).map Sum.inr := by rw [List.map_map, List.map_map]; rfl
  have hv : (ps.map fun p => ((Sum.inr p.1 : Key), V.ref p.2)).map Prod.snd = ps.map fun p => V.ref p.2 := by rw [List.map_map]; rfl
  have x3 : Mq.Dx H (.ref D) (.dict (((ps.map Prod.fst).map PyData.str).zip ds)) := .dic dr.d hk (by rw [hv]; exact x2)
  have each : ∀ q ∈ ((ps.map Prod.fst).map PyData.str).zip ds, ∃ n d, q = (PyData.str n, d) ∧ n ∈ ns ∧ Mq.RowD d (rw_ n) := fun q hq => by
    obtain ⟨i, hi⟩ := List.getElem?_of_mem hq
    have h3 := List.getElem?_zip_eq_some.mp hi
    rw [List.map_map, List.getElem?_map] at h3
    obtain ⟨e1, e2⟩ := h3
    obtain ⟨r, hr, e3⟩ := Option.map_eq_some_iff.mp e1
    refine ⟨r.1, q.2, ?_, dr.mem r (List.mem_of_getElem? hr), r2 i r q.2 hr e2⟩
    rw [show PyData.str r.1 = q.1 from e3]
  have rl : ∀ n ∈ ns, (rw_ n).length ≤ 63 := fun n hn => Nat.le_trans (pigeon (gr n hn).nd (gr n hn).sub) gn.l
  obtain ⟨sh1, dp1⟩ := Mq.row_show r1
  have ln1 := Mq.row_len r1 gn.g gn.l
  have plen : ps.length ≤ 63 := by
    have h1 := pigeon dr.nd (l2 := ns) fun x hx => by
      obtain ⟨p, hp, rfl⟩ := List.mem_map.mp hx
      exact dr.mem p hp
    rw [List.length_map] at h1
    have := gn.l
    omega
  have lnD : (PyData.dict (((ps.map Prod.fst).map PyData.str).zip ds)).shown.length ≤ 90000 := by
    have h1 := Mq.dict_len (L := 1400) (PyData.shownKv (((ps.map Prod.fst).map PyData.str).zip ds)) fun t ht => by
      rw [Mq.shownKv_map] at ht
      obtain ⟨q, hq, rfl⟩ := List.mem_map.mp ht
      obtain ⟨n, d, rfl, hn, hd⟩ := each q hq
      have a1 := Mq.repr_len (gn.g n hn)
      have a2 := Mq.row_len hd (fun x hx => gn.g x ((gr n hn).sub x hx)) (rl n hn)
      show (reprText n ++ (": " : Str) ++ d.shown).length ≤ 1400
      rw [strLen_append, strLen_append]
      have e3 : (": " : Str).length = 2 := rfl
      omega
    have h2 : (PyData.shownKv (((ps.map Prod.fst).map PyData.str).zip ds)).length ≤ 63 := by
      rw [Mq.shownKv_map, List.length_map, List.length_zip, hl2]
      exact Nat.le_trans (Nat.min_le_right _ _) plen
    show (dictText (PyData.shownKv (((ps.map Prod.fst).map PyData.str).zip ds))).length ≤ 90000
    have h3 : (PyData.shownKv (((ps.map Prod.fst).map PyData.str).zip ds)).length * (1400 + 2) ≤ 63 * (1400 + 2) := Nat.mul_le_mul_right _ h2
    omega
  refine ⟨_, .lst hH (.cons x1 (.cons x3 .nil)), ?_, ?_, ?_⟩
  · show (d1.showable && (PyData.showableKv (((ps.map Prod.fst).map PyData.str).zip ds) && true)) = true
    rw [sh1, showKv _ fun q hq => ?_]
    · rfl
    · obtain ⟨n, d, rfl, hn, hd⟩ := each q hq
      exact ⟨rfl, (Mq.row_show hd).1⟩
  · have h1 := depthKv_le (n := 2) (((ps.map Prod.fst).map PyData.str).zip ds) fun q hq => by
      obtain ⟨n, d, rfl, hn, hd⟩ := each q hq
      exact ⟨by show PyData.depth (.str n) ≤ 2; simp [PyData.depth], (Mq.row_show hd).2⟩
    simp only [PyData.depth, PyData.depthAll]
    omega
  · have h1 := Mq.list_len (L := 90000) (PyData.shownAll [d1, PyData.dict (((ps.map Prod.fst).map PyData.str).zip ds)]) fun t ht => by
      rw [Mq.shownAll_map] at ht
      rw [List.map_cons, List.map_cons, List.map_nil] at ht
      rcases List.mem_cons.mp ht with e | ht
      · rw [e]
        omega
      · rw [List.mem_singleton.mp ht]
        exact lnD
    have h2 : (PyData.shownAll [d1, PyData.dict (((ps.map Prod.fst).map PyData.str).zip ds)]).length = 2 := rfl
    show (listText (PyData.shownAll [d1, PyData.dict (((ps.map Prod.fst).map PyData.str).zip ds)])).length ≤ sizeLine
    rw [h2] at h1
    exact Nat.le_trans h1 (by decide)
end Mn
/-! _law_told_right -/
namespace Mn
open PySem PySem.Spec PyProof.Rows L2 Md Me Ml LamX Mi Mo
/-- a def that is called -/
structure Cl (P : Program) (w : World) (K : PySem.W.Frag) (mg : Str → Option Value) (base : Heap) (k : Nat) (x : Str) (ps : List Str) (sp : Sp) : Prop where
  ex : ∃ (f : Addr) (fd : FuncData), FnOk P w K mg base CX0 k f fd ps sp ∧ PySem.W.keepIn K (.ref f) = true ∧ Binds K fd ps [] ∧ mg x = some (.ref f)
/-- what == and isinstance ask of the class -/
structure MkQ (K : PySem.W.Frag) (C : Addr) : Prop where
  nl : PySem.W.notFirst K C (.type "list") = true
  nt : PySem.W.notFirst K C (.type "tuple") = true
  nd : PySem.W.notFirst K C (.type "dict") = true
  nm : PySem.W.notFirst K C (.ref C) = true
  kl : PySem.W.kitOne K (.type "list") (.ref C) = some false
  kt : PySem.W.kitOne K (.type "tuple") (.ref C) = some false
  kd : PySem.W.kitOne K (.type "dict") (.ref C) = some false
theorem eqM_refl {ns : List Str} {rw_ : Str → List Str} : eqM ns rw_ ns rw_ = true := by
  unfold eqM
  rw [decide_eq_true rfl, Bool.true_and, List.all_eq_true]
  exact fun n _ => decide_eq_true rfl
theorem mkOk_of {ns : List Str} {rw_ : Str → List Str} (gn : GoodNs ns) (gr : GoodRows ns rw_) : MkOk ns rw_ := ⟨gn.nd, strsOk_of gn, fun n hn => (rowOk_of gn gr hn).1⟩
/-- the market's == with another one, or with what is none -/
theorem eq_mk {K : PySem.W.Frag} {C0 m m' : Addr} {H : Hp} {ns ys ns' ys' : List Str} {rw_ rw' : Str → List Str} {neg : Bool} {Q : VK} (MQ : MkQ K C0) (M : MkAt H C0 m ns ys rw_) (ok : MkOk ns rw_) (M' : MkAt H C0 m' ns' ys' rw') (ok' : MkOk ns' rw') (k : Q (.bl (if neg then !eqM ns rw_ ns' rw' else eqM ns rw_ ns' rw')) H) : rOwn K C0 neg (.ref m) (.ref m') H Q := by
  obtain ⟨dx, fs, hm, _⟩ := M.ins
  obtain ⟨dx', fs', hm', _⟩ := M'.ins
  exact ⟨m, dx, fs, _, rfl, hm, .ins hm', MQ.nm, m, _, ns, ys, rw_, rfl, M, ok, .inr ⟨m', ns', ys', rw', rfl, M', ok', _, rfl, k⟩⟩
theorem eq_lst {K : PySem.W.Frag} {C0 m a : Addr} {H : Hp} {ns ys : List Str} {rw_ : Str → List Str} {xs : List V} {neg : Bool} {Q : VK} (MQ : MkQ K C0) (M : MkAt H C0 m ns ys rw_) (ok : MkOk ns rw_) (h : H a = some (.lst xs)) (k : Q (.bl (if neg then true else false)) H) : rOwn K C0 neg (.ref m) (.ref a) H Q := by
  obtain ⟨dx, fs, hm, _⟩ := M.ins
  refine ⟨m, dx, fs, _, rfl, hm, .lst h, MQ.nl, m, _, ns, ys, rw_, rfl, M, ok, .inl ⟨_, .base (.lst h), MQ.kl, _, rfl, ?_⟩⟩
  cases neg <;> exact k
theorem eq_tup {K : PySem.W.Frag} {C0 m a : Addr} {H : Hp} {ns ys : List Str} {rw_ : Str → List Str} {xs : List V} {neg : Bool} {Q : VK} (MQ : MkQ K C0) (M : MkAt H C0 m ns ys rw_) (ok : MkOk ns rw_) (h : H a = some (.tup xs)) (k : Q (.bl (if neg then true else false)) H) : rOwn K C0 neg (.ref m) (.ref a) H Q := by
  obtain ⟨dx, fs, hm, _⟩ := M.ins
  refine ⟨m, dx, fs, _, rfl, hm, .tup h, MQ.nt, m, _, ns, ys, rw_, rfl, M, ok, .inl ⟨_, .base (.tup h), MQ.kt, _, rfl, ?_⟩⟩
  cases neg <;> exact k
theorem eq_dic {K : PySem.W.Frag} {C0 m a : Addr} {H : Hp} {ns ys : List Str} {rw_ : Str → List Str} {xs : List (Key × V)} {neg : Bool} {Q : VK} (MQ : MkQ K C0) (M : MkAt H C0 m ns ys rw_) (ok : MkOk ns rw_) (h : H a = some (.dK xs)) (k : Q (.bl (if neg then true else false)) H) : rOwn K C0 neg (.ref m) (.ref a) H Q := by
  obtain ⟨dx, fs, hm, _⟩ := M.ins
  refine ⟨m, dx, fs, _, rfl, hm, .dic h, MQ.nd, m, _, ns, ys, rw_, rfl, M, ok, .inl ⟨_, .base (.dK h), MQ.kd, _, rfl, ?_⟩⟩
  cases neg <;> exact k
/-- what stands at the start of the three parts: stream, people, wishes -/
structure Ini (T : List (Addr × Str)) (H : Hp) (a b c D : Addr) (B : Nat) (ns : List Str) (rw_ : Str → List Str) (as : List Addr) : Prop where
  S : Stm H a b B
  T : Tabs T H
  ca : c ≠ a
  cb : c ≠ b
  c : H c = some (.lst (ns.map V.str))
  R : RowsS a b H D ns rw_ as
  gn : GoodNs ns
  gr : GoodRows ns rw_
def spTR (T : List (Addr × Str)) : Sp := fun vs H Q _ => ∃ (a b c D : Addr) (B : Nat) (ns : List Str) (rw_ : Str → List Str) (as : List Addr), vs = [.ref a, .ref c, .ref D] ∧ Ini T H a b c D B ns rw_ as ∧ B + 3000000 ≤ 1000000000 ∧ ∀ H', UpS T a b H H' → Stm H' a b (B + 3000000) → Q (.bl true) H'
theorem Stm.two {H H' : Hp} {a b : Addr} {B : Nat} (S : Stm H a b B) (ka : ∀ o, H a = some o → H' a = some o) (kb : ∀ o, H b = some o → H' b = some o) : Stm H' a b B := by
  obtain ⟨ns, p, q, r, S, hq⟩ := S
  exact ⟨ns, p, q, r, ⟨S.ne, ka _ S.ha, kb _ S.hb, S.p0, S.q0, S.r0, S.r1⟩, hq⟩
theorem Tabs.keepS {T : List (Addr × Str)} {H H' : Hp} (t : Tabs T H) (k : ∀ q o, ((∃ ps, o = .tbl ps) ∨ ∃ φ, o = .ext φ) → H q = some o → H' q = some o) : Tabs T H' := by
  intro p hp
  obtain ⟨ps, h1, h2, h3⟩ := t p hp
  refine ⟨ps, k _ _ (.inl ⟨_, rfl⟩) h1, h2, fun pos cv hc => ?_⟩
  obtain ⟨c0, e1, e2⟩ := h3 pos cv hc
  exact ⟨c0, e1, k _ _ (.inr ⟨_, rfl⟩) e2⟩
section
variable {P : Program} {w : World} {K : PySem.W.Frag} {mg : Str → Option Value} {base : Heap}
end
end Mn
/-! markets with something otherwise -/
namespace Mn
open PySem PySem.Spec PyProof.Rows L2 Md Me Ml LamX Mi Mo
/-! ### dicts of rows, != -/
def rNeRows : R2 := fun x y H Q => ∃ a b ks ls bs, x = .ref a ∧ y = .ref b ∧ H a = some (.dK ks) ∧ H b = some (.dK ls) ∧ ks.length = ls.length ∧ Paired (RowEqB H ls) ks bs ∧ Q (.bl (!bs.all id)) H
section
variable {X : Cx}
theorem hits_rowsA {pins : List (Addr × Obj)} {σ : L2.St} {H : Hp} {s : Shared} (I : Inv X pins σ H s) (hu : X.A.in1.in1.units + 64 < cLine) {ls : List (Key × V)} {vb : List (Key × Value)} (rb : KV ls vb) {ks : List (Key × V)} {va : List (Key × Value)} (ra : KV ks va) :
    ∀ {bs : List Bool}, Paired (RowEqB H ls) ks bs → PySem.W.KeqHits X.A.in1 s vb va (bs.all id) := by
  unfold KV at ra
  induction ra with
  | nil =>
    intro bs hp
    cases hp
    exact .nil
  | @cons p q ps qs h t k =>
    intro bs hp
    cases hp with
    | @cons _ b _ bs hb hp =>
      obtain ⟨h1, h2⟩ := h
      obtain ⟨a, q', r, r', e1, e2, ha, hq, o1, o2, rfl⟩ := hb
      have rr : RelO (some (.ref q')) (valueAt vb p.1) := by
        rw [← e2]
        exact rb.val p.1
      obtain ⟨y, hy, ry⟩ := rr.some_of
      obtain ⟨key, v⟩ := q
      have h1' : p.1 = key := h1
      rw [h1'] at hy
      rw [List.all_cons]
      obtain ⟨as, r1⟩ := Dp.reads I _ _ v (.lst (SqL.of ha) (dp_strs r)) (by rw [← e1]; exact h2)
      obtain ⟨cs, r2⟩ := Dp.reads I _ _ y (.lst (SqL.of hq) (dp_strs r')) ry
      have z := PySem.W.keq_at (A := X.A) r1 r2 (shaped_strs o1) (shaped_strs o2) (by
        have : X.A.in1.in1.units = X.A.in1.units + 1 := rfl
        omega)
      rw [eqv_strs] at z
      exact .hit hy z (k hp)
theorem op_neRows (hu : X.A.units + 66 < cLine) : OpR X (compareOp .NotEq) rNeRows := by
  intro pins s σ H x y v u Q I rx ry h
  obtain ⟨a, b, ks, ls, bs, rfl, rfl, ea, eb, hlen, hp, q⟩ := h
  obtain rfl : v = Value.ref a := rx
  obtain rfl : u = Value.ref b := ry
  obtain ⟨_, ya, va, ra, da⟩ := (show ObjOk X.prog X.w H s.heap a (.dK ks) from I.hok a _ ea)
  obtain ⟨_, yb, vb, rb, db⟩ := (show ObjOk X.prog X.w H s.heap b (.dK ls) from I.hok b _ eb)
  have hl : va.length = vb.length := by
    rw [← ra.length, ← rb.length]
    exact hlen
  refine PySem.W.keq_ne (knd := mixKind X.prog X.w) (r := bs.all id) ya yb da db (by omega) (fun _ => hits_rowsA I (by show X.A.units + 1 + 1 + 64 < cLine; omega) rb ra hp) ?_
  refine ⟨.bl (!bs.all id), H, I, ?_, q⟩
  show _ = Value.bool (!bs.all id)
  rw [hl]
  simp
end
/-! ### markets that stand apart from one list and the stream -/
def MkS (C L a b : Addr) (H : Hp) (m : Addr) (ns ys : List Str) (rw_ : Str → List Str) : Prop := ∀ H'', (∀ q o, q ≠ L → q ≠ a → q ≠ b → (∀ ps, o ≠ .tbl ps) → H q = some o → H'' q = some o) → MkAt H'' C m ns ys rw_
theorem MkS.at_ {C L a b : Addr} {H : Hp} {m : Addr} {ns ys : List Str} {rw_ : Str → List Str} (M : MkS C L a b H m ns ys rw_) : MkAt H C m ns ys rw_ := M H fun _ _ _ _ _ _ e => e
theorem MkS.to {C L a b : Addr} {H H' : Hp} {m : Addr} {ns ys : List Str} {rw_ : Str → List Str} (M : MkS C L a b H m ns ys rw_) (k : ∀ q o, q ≠ L → q ≠ a → q ≠ b → (∀ ps, o ≠ .tbl ps) → H q = some o → H' q = some o) : MkS C L a b H' m ns ys rw_ :=
  fun H'' k2 => M H'' fun q o h1 h2 h3 h4 e => k2 q o h1 h2 h3 h4 (k q o h1 h2 h3 h4 e)
theorem mkS_of {C L a b : Addr} {H1 H' : Hp} {x : Addr} {ns ys : List Str} {rw_ : Str → List Str} (k : MkKeep H1 H' x C ns ys rw_) (nx : H1 x = none) (hL : ∀ o, H' L = some o → ∃ u, H1 L = some u ∧ ∀ ps, u ≠ .tbl ps) (ha : ∃ u, H1 a = some u ∧ ∀ ps, u ≠ .tbl ps) (hb : ∃ u, H1 b = some u ∧ ∀ ps, u ≠ .tbl ps) : MkS C L a b H' x ns ys rw_ := by
  intro H'' kk
  refine k H'' fun q o hq nt e => ?_
  have no : ∀ {q' : Addr}, (∃ u, H1 q' = some u ∧ ∀ ps, u ≠ .tbl ps) → q ≠ q' := fun {q'} ⟨u, e1, n1⟩ z => by
    rcases hq with hq | hq
    · obtain ⟨ps, e2⟩ := hq u (by rw [z]; exact e1)
      exact n1 ps e2
    · rw [← z, hq, nx] at e1
      cases e1
  exact kk q o (fun z => no (hL o (by rw [← z]; exact e)) z) (no ha) (no hb) nt e
/-- the markets in the list at L -/
structure Oth (C0 L a b : Addr) (H : Hp) (ms : List Addr) : Prop where
  l : H L = some (.lst (ms.map V.ref))
  m : ∀ x ∈ ms, ∃ (ns ys : List Str) (rw_ : Str → List Str), MkS C0 L a b H x ns ys rw_ ∧ MkOk ns rw_ ∧ ns.length ≤ 63
structure UnI (T : List (Addr × Str)) (C0 L a b m : Addr) (H H' : Hp) (B : Nat) (ns ys : List Str) (rw_ : Str → List Str) (ms : List Addr) : Prop where
  u : UpS T a b H H'
  s : Stm H' a b B
  m : MkS C0 L a b H' m ns ys rw_
  o : Oth C0 L a b H' ms
  nL : Nw H L
  La : L ≠ a
  Lb : L ≠ b
section
variable {T : List (Addr × Str)} {C0 L a b m : Addr} {H H1 H2 : Hp} {B : Nat} {ns ys : List Str} {rw_ : Str → List Str} {ms : List Addr}
theorem UnI.upS (I : UnI T C0 L a b m H H1 B ns ys rw_ ms) (u : UpS T a b H1 H2) {B' : Nat} (s : Stm H2 a b B') : UnI T C0 L a b m H H2 B' ns ys rw_ ms :=
  ⟨I.u.trans u, s, I.m.to fun q o h1 h2 h3 nt e => u.e q o h2 h3 e nt, ⟨u.e L _ I.La I.Lb I.o.l ntb_lst, fun x hx => by
    obtain ⟨n1, y1, r1, M, ok⟩ := I.o.m x hx
    exact ⟨n1, y1, r1, M.to fun q o h1 h2 h3 nt e => u.e q o h2 h3 e nt, ok⟩⟩, I.nL, I.La, I.Lb⟩
theorem UnI.up (I : UnI T C0 L a b m H H1 B ns ys rw_ ms) (u : Up T H1 H2) : UnI T C0 L a b m H H2 B ns ys rw_ ms := I.upS (.up u) (I.s.ext u.e)
theorem UnI.same (I : UnI T C0 L a b m H H1 B ns ys rw_ ms) (s : Same H1 H2) : UnI T C0 L a b m H H2 B ns ys rw_ ms := I.up (.same I.u.t s)
theorem UnI.add (I : UnI T C0 L a b m H H1 B ns ys rw_ ms) (u : Up T H1 H2) {x : Addr} {ns' ys' : List Str} {rw' : Str → List Str} (nx : H1 x = none) (M : MkAt H2 C0 x ns' ys' rw') (k : MkKeep H1 H2 x C0 ns' ys' rw') (ok : MkOk ns' rw') (hl : ns'.length ≤ 63) :
    H2 L = some (.lst (ms.map V.ref)) ∧ UnI T C0 L a b m H (upd H2 L (.lst (ms.map V.ref ++ [.ref x]))) B ns ys rw_ (ms ++ [x]) := by
  have I2 := I.up u
  have hL2 := I2.o.l
  obtain ⟨xa, ha⟩ := I.s.ha
  obtain ⟨xb, hb⟩ := I.s.hb
  have go : ∀ {q : Addr} {o : HO}, q ≠ L → H2 q = some o → upd H2 L (.lst (ms.map V.ref ++ [.ref x])) q = some o := fun {q o} h e => by
    rw [upd_ne h]
    exact e
  refine ⟨hL2, ⟨fun c o h1 h2 e nt => ?_, ?_⟩, I2.s.set I.La I.Lb, I2.m.to fun q o h1 _ _ _ e => go h1 e, ⟨?_, fun z hz => ?_⟩, I.nL, I.La, I.Lb⟩
  · exact go (fun z => by
      obtain ⟨ps, q⟩ := I.nL o (by rw [← z]; exact e)
      exact nt ps q) (I2.u.e c o h1 h2 e nt)
  · exact Tabs.put I2.u.t hL2 ntb_lst (fun φ z => by cases z)
  · rw [upd_same, List.map_append]
    rfl
  · rcases List.mem_append.mp hz with h | h
    · obtain ⟨n1, y1, r1, M1, ok1⟩ := I2.o.m z h
      exact ⟨n1, y1, r1, M1.to fun q o h1 _ _ _ e => go h1 e, ok1⟩
    · have e : z = x := by simpa using h
      subst e
      exact ⟨ns', ys', rw', (mkS_of k nx (fun o _ => ⟨_, I.o.l, ntb_lst⟩) ⟨_, ha, ntb_lst⟩ ⟨_, hb, ntb_lst⟩).to fun q o h1 _ _ _ e => go h1 e, ok, hl⟩
end
/-! ### slices -/
theorem cut_from1 (xs : List V) : cutV xs (some 1) none = xs.drop 1 := by
  show (xs.drop (HT.sIx xs.length 0 (some ((1 : Nat) : Int)))).take (HT.sIx xs.length xs.length none - HT.sIx xs.length 0 (some ((1 : Nat) : Int))) = xs.drop 1
  rw [HT.sIx_nat, HT.sIx_none]
  cases xs with
  | nil => rfl
  | cons x xs =>
    have e : min 1 (x :: xs).length = 1 := by simp
    rw [e, List.take_of_length_le (by simp)]
theorem cut_to1 (xs : List V) : cutV xs none (some 1) = xs.take 1 := by
  show (xs.drop (HT.sIx xs.length 0 none)).take (HT.sIx xs.length xs.length (some ((1 : Nat) : Int)) - HT.sIx xs.length 0 none) = xs.take 1
  rw [HT.sIx_nat, HT.sIx_none]
  cases xs with
  | nil => rfl
  | cons x xs =>
    have e : min 1 (x :: xs).length = 1 := by simp
    rw [e]
    rfl
theorem cut_last (xs : List V) : cutV xs none (some (-1)) = xs.dropLast := by
  show (xs.drop (HT.sIx xs.length 0 none)).take (HT.sIx xs.length xs.length (some (-1)) - HT.sIx xs.length 0 none) = xs.dropLast
  rw [HT.sIx_none]
  have e : HT.sIx xs.length xs.length (some (-1)) = xs.length - 1 := by
    show (if (-1 : Int) < 0 then ((-1 : Int) + (xs.length : Int)).toNat else min (-1 : Int).toNat xs.length) = _
    rw [if_pos (by decide)]
    omega
  rw [e, List.dropLast_eq_take]
  rfl
theorem GoodNs.perm {ns ns' : List Str} (g : GoodNs ns) (p : ns'.Perm ns) : GoodNs ns' := ⟨p.nodup_iff.mpr g.nd, fun n hn => g.g n (p.mem_iff.mp hn), by rw [p.length_eq]; exact g.l⟩
theorem GoodRows.perm {ns ns' : List Str} {rw_ : Str → List Str} (g : GoodRows ns rw_) (p : ns'.Perm ns) : GoodRows ns' rw_ := fun n hn => ⟨(g n (p.mem_iff.mp hn)).nd, (g n (p.mem_iff.mp hn)).ne, fun x hx => p.mem_iff.mpr ((g n (p.mem_iff.mp hn)).sub x hx)⟩
theorem rot_perm {α : Type} (xs : List α) : (xs.drop 1 ++ xs.take 1).Perm xs := List.perm_append_comm.trans (by rw [List.take_append_drop])
theorem ini_rows {H : Hp} {D : Addr} {ns : List Str} {rw_ : Str → List Str} {as : List Addr} (l : as.length = ns.length) (d : H D = some (.dK ((ns.zip as).map fun p => (Sum.inr p.1, V.ref p.2)))) (r : ∀ (i : Nat) (n : Str) (c : Addr), ns[i]? = some n → as[i]? = some c → H c = some (.lst ((rw_ n).map V.str))) (nd : ns.Nodup)
    {ns' : List Str} {rw' : Str → List Str} (h1 : ∀ n ∈ ns, n ∈ ns' ∧ rw' n = rw_ n) (h2 : ∀ n ∈ ns', n ∉ ns → rw' n = []) : DRows H D (ns.zip as) rw' ns' := by
  have e : (ns.zip as).map Prod.fst = ns := List.map_fst_zip (by rw [l]; exact Nat.le_refl _)
  refine ⟨d, by rw [e]; exact nd, fun p hp => (h1 p.1 (List.of_mem_zip hp).1).1, fun p hp => ?_, fun n hn z => h2 n hn (by rw [← e]; exact z)⟩
  obtain ⟨i, hi⟩ := List.getElem?_of_mem hp
  have h3 := List.getElem?_zip_eq_some.mp hi
  rw [(h1 p.1 (List.of_mem_zip hp).1).2]
  exact .inl (r i p.1 p.2 h3.1 h3.2)
theorem mergeK_app {l1 l2 : List (Key × V)} : mergeK [] (l1 ++ l2) = mergeK (mergeK [] l1) l2 := List.foldl_append
/-- the row of one person otherwise -/
def rwPut (rw_ : Str → List Str) (n : Str) (r : List Str) (x : Str) : List Str := if x = n then r else rw_ x
theorem good_put {ns : List Str} {rw_ : Str → List Str} {n : Str} {r : List Str} (g : GoodRows ns rw_) (h : GoodRow ns n r) : GoodRows ns (rwPut rw_ n r) := fun x hx => by
  unfold rwPut
  by_cases z : x = n
  · rw [if_pos z, z]
    exact h
  · rw [if_neg z]
    exact g x hx
theorem put_rows {H : Hp} {D' l : Addr} {ns : List Str} {rw_ : Str → List Str} {as : List Addr} {n : Str} {r : List Str} (la : as.length = ns.length) (nd : ns.Nodup) (hn : n ∈ ns) (d : H D' = some (.dK (mergeK [] (((ns.zip as).map fun p => ((Sum.inr p.1 : Key), V.ref p.2)) ++ [(Sum.inr n, .ref l)])))) (hr : ∀ (i : Nat) (n : Str) (c : Addr), ns[i]? = some n → as[i]? = some c → H c = some (.lst ((rw_ n).map V.str)))
    (hl : H l = some (.lst (r.map V.str))) : ∃ ps, DRows H D' ps (rwPut rw_ n r) ns := by
  have e : (ns.zip as).map Prod.fst = ns := List.map_fst_zip (by rw [la]; exact Nat.le_refl _)
  have e1 : mergeK [] ((ns.zip as).map fun p => ((Sum.inr p.1 : Key), V.ref p.2)) = (ns.zip as).map fun p => ((Sum.inr p.1 : Key), V.ref p.2) := by
    rw [mergeK_new, List.nil_append]
    rw [List.nil_append, List.map_map]
    have e2 : (Prod.fst ∘ fun p : Str × Addr => ((Sum.inr p.1 : Key), V.ref p.2)) = Sum.inr ∘ Prod.fst := rfl
    rw [e2, ← List.map_map, e]
    exact nodup_mapI (fun x y z => Sum.inr.inj z) nd
  have any : (((ns.zip as).map fun p => ((Sum.inr p.1 : Key), V.ref p.2)).any fun kv => decide (kv.1 = Sum.inr n)) = true := by
    rw [List.any_eq_true]
    rw [← e] at hn
    obtain ⟨p, hp, e3⟩ := List.mem_map.mp hn
    exact ⟨_, List.mem_map_of_mem hp, decide_eq_true (by rw [← e3])⟩
  have e4 : mergeK [] (((ns.zip as).map fun p => ((Sum.inr p.1 : Key), V.ref p.2)) ++ [(Sum.inr n, .ref l)]) = ((ns.zip as).map fun p => if p.1 = n then (p.1, l) else p).map fun p => ((Sum.inr p.1 : Key), V.ref p.2) := by
    rw [mergeK_app, e1]
    show putK _ (Sum.inr n) (.ref l) = _
    unfold putK
    rw [if_pos any, List.map_map, List.map_map]
    refine List.map_congr_left fun p _ => ?_
    show (if (Sum.inr p.1 : Key) = Sum.inr n then ((Sum.inr p.1 : Key), V.ref l) else ((Sum.inr p.1 : Key), V.ref p.2)) = _
    by_cases z : p.1 = n
    · rw [if_pos (congrArg Sum.inr z)]
      show _ = ((Sum.inr (if p.1 = n then (p.1, l) else p).1 : Key), V.ref (if p.1 = n then (p.1, l) else p).2)
      rw [if_pos z]
    · rw [if_neg (fun q => z (Sum.inr.inj q))]
      show _ = ((Sum.inr (if p.1 = n then (p.1, l) else p).1 : Key), V.ref (if p.1 = n then (p.1, l) else p).2)
      rw [if_neg z]
  have e5 : ((ns.zip as).map fun p => if p.1 = n then (p.1, l) else p).map Prod.fst = ns := by
    rw [List.map_map]
    have : (Prod.fst ∘ fun p : Str × Addr => if p.1 = n then (p.1, l) else p) = Prod.fst := by
      funext p
      show (if p.1 = n then (p.1, l) else p).1 = p.1
      split <;> rfl
    rw [this, e]
  refine ⟨_, by rw [d, e4], by rw [e5]; exact nd, fun p hp => ?_, fun p hp => ?_, fun x hx z => absurd hx (by rw [e5] at z; exact z)⟩
  · have : p.1 ∈ ((ns.zip as).map fun p => if p.1 = n then (p.1, l) else p).map Prod.fst := List.mem_map_of_mem hp
    rw [e5] at this
    exact this
  · obtain ⟨q, hq, rfl⟩ := List.mem_map.mp hp
    by_cases z : q.1 = n
    · rw [if_pos z]
      show Seq H l ((rwPut rw_ n r q.1).map V.str)
      unfold rwPut
      rw [if_pos z]
      exact .inl hl
    · rw [if_neg z]
      unfold rwPut
      rw [if_neg z]
      obtain ⟨i, hi⟩ := List.getElem?_of_mem hq
      have h3 := List.getElem?_zip_eq_some.mp hi
      exact .inl (hr i q.1 q.2 h3.1 h3.2)
theorem zip_paired {K : PySem.W.Frag} {H : Hp} : ∀ (zs : List Str) (ts qs : List Addr), ts.length = zs.length → qs.length = zs.length → (∀ (j : Nat) (n : Str) (t q : Addr), zs[j]? = some n → ts[j]? = some t → qs[j]? = some q → H t = some (.tup [.str n, .ref q])) → Paired (fun p kv => SqT K H p [kV kv.1, kv.2]) ts ((zs.zip qs).map fun p => ((Sum.inr p.1 : Key), V.ref p.2))
  | [], ts, qs, h1, _, _ => by
    obtain rfl := List.length_eq_zero_iff.mp h1
    exact .nil
  | z :: zs, [], qs, h1, _, _ => by cases h1
  | z :: zs, t :: ts, [], _, h2, _ => by cases h2
  | z :: zs, t :: ts, q :: qs, h1, h2, h3 => .cons (SqT.of (h3 0 z t q rfl rfl rfl)) (zip_paired zs ts qs (by simpa using h1) (by simpa using h2) fun j n t q a1 a2 a3 => h3 (j + 1) n t q (by simpa using a1) (by simpa using a2) (by simpa using a3))
theorem mergeK_zip {zs : List Str} {qs : List Addr} (lq : qs.length = zs.length) (nd : zs.Nodup) : mergeK [] ((zs.zip qs).map fun p => ((Sum.inr p.1 : Key), V.ref p.2)) = (zs.zip qs).map fun p => ((Sum.inr p.1 : Key), V.ref p.2) := by
  rw [mergeK_new, List.nil_append]
  rw [List.nil_append, List.map_map]
  have e : (Prod.fst ∘ fun p : Str × Addr => ((Sum.inr p.1 : Key), V.ref p.2)) = Sum.inr ∘ Prod.fst := rfl
  rw [e, ← List.map_map, List.map_fst_zip (by rw [lq]; exact Nat.le_refl _)]
  exact nodup_mapI (fun x y z => Sum.inr.inj z) nd
theorem paired_append {α β : Type} {F : α → β → Prop} : ∀ {xs : List α} {ys : List β} {xs' : List α} {ys' : List β}, Paired F xs ys → Paired F xs' ys' → Paired F (xs ++ xs') (ys ++ ys')
  | _, _, _, _, .nil, h => h
  | _, _, _, _, .cons r t, h => .cons r (paired_append t h)
theorem zip_items {H : Hp} {ts : List Addr} {kvs : List (Key × V)} {K : PySem.W.Frag} (h : Paired (fun (t : Addr) (q : Key × V) => H t = some (.tup [kV q.1, q.2])) ts kvs) : Paired (fun p kv => SqT K H p [kV kv.1, kv.2]) ts kvs := paired_imp (fun _ _ e => SqT.of e) h
end Mn
/-! is_one_of with a tuple; check_market; needs_fault -/
namespace Mn
open PySem PySem.Spec PyProof.Rows L2 Md Me Ml LamX Mi Mo
abbrev sChk : Stmt := top 25
abbrev sNf : Stmt := top 28
def spIsOneT (K : PySem.W.Frag) : Sp := fun vs H Q _ => ∃ (v : V) (t : Addr) (xs : List Str), vs = [v, .ref t] ∧ SqT K H t (xs.map V.str) ∧ ((∃ x : Str, v = .str x ∧ Q (.bl (decide (x ∈ xs))) H) ∨ (NoStr K H v ∧ Q (.bl false) H))
/-- no market -/
def NoMk (K : PySem.W.Frag) (C0 : Addr) (H : Hp) (v : V) : Prop := ∃ t, TyX K H v t ∧ PySem.W.kitOne K t (.ref C0) = some false
def spChk (K : PySem.W.Frag) (C0 : Addr) : Sp := fun vs H Q E => ∃ v : V, vs = [v] ∧ ((∃ (m dx : Addr) (fs : List (Str × V)), v = .ref m ∧ H m = some (.ins C0 dx fs) ∧ Q .non H) ∨
  (NoMk K C0 H v ∧ ∀ (H' : Hp) (d : Addr), Same H H' → H' d = some (.xd [("thing", v)]) → E (.ref (He.ga K "BadMarket")) (some d) H'))
/-- the first wrong index of needs, how many they are if some lack -/
def nfI (ns : List Str) (xs : List V) : Option Nat := match fwI (fun x => decide (x ∈ ns)) xs [] 0 with
  | some i => some i
  | none => if xs.length < ns.length then some xs.length else none
def spNf (K : PySem.W.Frag) (T : List (Addr × Str)) : Sp := fun vs H Q _ => ∃ (p : Addr) (ns : List Str) (v : V), vs = [.ref p, v] ∧ Tabs T H ∧ H p = some (.lst (ns.map V.str)) ∧ ns.length ≤ 63 ∧
  ((NoSeq K H v ∧ ∀ H', Up T H H' → Q (.int 0) H') ∨ ∃ (a : Addr) (xs : List V), v = .ref a ∧ Seq H a xs ∧ (∀ v ∈ xs, Itm K H v) ∧ xs.length ≤ 4000 ∧ ∀ H', Up T H H' → Q (optI (nfI ns xs)) H')
abbrev qNf : Str := (envOfC "needs_fault" { kind := .function, names := [], isGenerator := false, isCoroutine := false } 0 0 .none).qual ++ "<lambda>"
section
variable {P : Program} {w : World} {K : PySem.W.Frag} {mg : Str → Option Value} {base : Heap}
theorem ok_isOneT {f : Addr} {fd : FuncData} (F : Fun K "is_one_of" "is_one_of" sIsOne f fd) (gI : mg "isinstance" = none) (gS : mg "str" = none) : FnOk P w K mg base CX0 1 f fd ["thing", "names"] (spIsOneT K) := by
  refine F.ok scIsOne (fun vs H Q E h => ?_) (fun cdv A outer s H vs Q E hr h => ?_)
  · obtain ⟨v, t, xs, rfl, _⟩ := h
    rfl
  · obtain ⟨v, t, xs, rfl, hq, h⟩ := h
    refine ⟨_, pss_one (ps_ret (pe_and (pe_callB call_isi (by rfl) gI boot_isinstance (pa_cons (pv 0) (pa_cons (pe_bltn (v := .ty "str") rfl gS boot_str2 rfl) pa_nil))) (pe_one (pe_cmpR op_in_seq (pv 0) (pv 1) (by with_unfolding_all rfl))))), ?_⟩
    rcases h with ⟨x, rfl, k⟩ | ⟨⟨ty, t1, e⟩, k⟩
    · refine ⟨_, rfl, _, _, _, _, true, rfl, .ty _, .base (.str x), kit_strT, true, rfl, iteT ⟨_, rfl, _, rfl, t, _, rfl, .inr hq, rfl, flat_strs xs, ?_⟩⟩
      rw [inV_strs]
      exact k
    · exact ⟨_, rfl, _, _, _, _, false, rfl, .ty _, t1, e, false, rfl, iteF k⟩
theorem scChk : FnScope ["market"] ["market"] (defScope sChk) := ⟨rfl, rfl, rfl, by decide +kernel, rfl, by decide +kernel, by decide +kernel⟩
theorem ok_chk {f fE C0 : Addr} {fd fdB : FuncData} (F : Fun K "check_market" "check_market" sChk f fd) (M : MkE K C0 fE) (gM : mg "Market" = some (.ref C0)) (BM : ExX K mg "BadMarket" "thing") (FB : FnOk P w K mg base CX0 1 (He.ma K (He.ga K "BadMarket") "__init__") fdB ["self", "thing"] (spI1 K "thing")) (bB : Binds K fdB ["self", "thing"] [])
    (gI : mg "isinstance" = none) : FnOk P w K mg base (L2.CX P w) 3 f fd ["market"] (spChk K C0) := by
  refine F.okX scChk (fun vs H Q E h => ?_) (fun cdv A outer s H vs Q E hr h => ?_)
  · obtain ⟨v, rfl, _⟩ := h
    rfl
  · obtain ⟨v, rfl, h⟩ := h
    refine ⟨_, pss_one (ps_if (pt_not (pt_val (pe_callB call_isi (by rfl) gI boot_isinstance (pa_cons (pv 0) (pa_cons (pe_glob rfl gM (v := .ref C0) rfl) pa_nil))))) (pss_one (ps_raise rfl (takes_of rfl rfl rfl rfl) (pmk_oex BM.ox BM.iC BM.tI FB (hr.mono (by decide)) bB .nil pass0 rfl BM.g (pa_cons (pv 0) pa_nil)))) pss_nil), ?_⟩
    rcases h with ⟨m, dx, fs, rfl, hm, k⟩ | ⟨⟨t, ty, e⟩, k⟩
    · exact ⟨_, rfl, _, _, _, _, true, rfl, .own _, M.ty hm, kit_self, true, rfl, iteF k⟩
    · have fin : ∀ a, H a = none → spI1 K "thing" (.ref a :: ([v] ++ [])) (upd H a (exo a (He.ga K "BadMarket") none)) (fun u H2 => u = .non ∧ ∃ (d : Addr) (fs : List (Str × V)), H2 a = some (exo a (He.ga K "BadMarket") (some d)) ∧ H2 d = some (exd d fs) ∧ H d = none ∧ E (.ref (He.ga K "BadMarket")) (some d) (upd (del H2 a) d (.xd fs))) (fun _ _ _ => False) :=
        raised1 BM.ox BM.no fun H' d s n e => k H' d s e
      exact ⟨_, rfl, _, _, _, _, false, rfl, .own _, ty, e, false, rfl, iteT ⟨_, rfl, (show 1 ≤ 1000 by decide), fin⟩⟩
theorem scNf : FnScope ["people", "needs", "wrong"] ["people", "needs"] (defScope sNf) := ⟨rfl, rfl, rfl, by decide +kernel, rfl, by decide +kernel, by decide +kernel⟩
theorem ok_nf {T : List (Addr × Str)} {f fL fW : Addr} {fd fdL fdW : FuncData} (F : Fun K "needs_fault" "needs_fault" sNf f fd) (hf : f = He.fAd K ("needs_fault", none)) (TB : TabB base mg (He.cT K ("needs_fault", none)).1 (He.cT K ("needs_fault", none)).2)
    (hmT : ((He.cT K ("needs_fault", none)).2, qNf) ∈ T) (hu : ∀ p ∈ T, p.1 = (He.cT K ("needs_fault", none)).2 → p.2 = qNf)
    (GL : FnOk P w K mg base CX0 1 fL fdL ["thing"] (spIsList K)) (kL : PySem.W.keepIn K (.ref fL) = true) (bL : Binds K fdL ["thing"] []) (gL : mg "is_list" = some (.ref fL))
    (FW : Fun K "first_wrong" "first_wrong" sFw fW fdW) (bW : Binds K fdW ["things", "fits"] []) (gW : mg "first_wrong" = some (.ref fW))
    (gI : mg "isinstance" = none) (gS : mg "str" = none) (gE : mg "enumerate" = none) (gSet : mg "set" = none) (gLen : mg "len" = none) : FnOk P w K mg base CX0 3 f fd ["people", "needs"] (spNf K T) := by
  obtain ⟨oc, od, kV, doc, pm, an, cdv, ct, osl, rfl, lk, hcd⟩ := F.ex
  obtain ⟨c, rfl⟩ := He.codeIn_ref hcd
  have ec : He.codeOf K ("needs_fault", none) = c := He.codeOf_eq (by rw [← hf]; exact lk) rfl
  obtain ⟨oc2, od2, kV2, doc2, pm2, an2, cdv2, ct2, osl2, rfl, lk2, hcd2⟩ := FW.ex
  refine fn_of lk hcd scNf (fun vs H Q E h => ?_) (fun A outer s H vs Q E hr h => ?_)
  · obtain ⟨p, ns, v, rfl, _⟩ := h
    rfl
  · obtain ⟨p, ns, v, rfl, hT, hp, hn, h⟩ := h
    have nd := scNf.nd
    have TB' : TabB base mg c (He.cT K ("needs_fault", none)).2 := by
      rw [← ec]
      exact TB
    refine ⟨_, PSs.nox (pss_cons (ps_if (pt_not (pt_val (pe_call GL (hr.mono (by decide)) rfl gL kL bL .nil pass0 (pa_cons (pv 1) pa_nil)))) (pss_one (ps_ret pe_int)) pss_nil)
      (pss_cons (ps_set (i := 2) nd rfl (Or.inl rfl) (pe_lamcall1 (t := tOp (rIn K false) (tVar 3) (tVar 0)) (k := 0) (b := "name") rfl gW FW.kp lk2 hcd2 bW scFw rfl (Or.inl rfl) (fw_gives gI gS gE gSet) TB' rfl hmT hu hr (lamS1_by (by rfl)) (by show (("name" : Str) ∉ (["people", "needs", "wrong"] : List Str)); decide +kernel) rfl
        (fun _ _ _ _ _ _ => rfl) (pv 1) (fun A outer s H f c' hr2 => by exact pe_cmpR op_in_seq (pv 3) (pv 0) (by with_unfolding_all rfl))))
      (pss_cons (ps_if (PW.pt (pw_and (pt_cmpR op_isN (pv 2) pe_non (nomark _)) (pw_and1 (pt_cmpR op_lt (pe_callB call_len_seq (by rfl) gLen PySem.boot_len (pa_cons (pv 1) pa_nil)) (pe_callB call_len_seq (by rfl) gLen PySem.boot_len (pa_cons (pv 0) pa_nil)) (nomark _))))) (pss_one (ps_ret (pe_callB call_len_seq (by rfl) gLen PySem.boot_len (pa_cons (pv 1) pa_nil)))) pss_nil)
      (pss_one (ps_ret (pv 2)))))), ?_⟩
    rcases h with ⟨⟨t, ty, e⟩, k⟩ | ⟨a, xs, rfl, hq, hx, hxn, k⟩
    · exact ⟨_, rfl, v, t, false, rfl, ty, e, fun H' s => ⟨false, rfl, iteT (k H' (.same hT s))⟩⟩
    · obtain ⟨t, ty, e⟩ := hq.ty (K := K)
      refine ⟨_, rfl, _, t, true, rfl, ty, e, fun H1 s1 => ⟨true, rfl, iteF ?_⟩⟩
      have u1 := Up.same hT s1
      refine ⟨_, rfl, u1.t, fun H2 e2 t2 => ?_⟩
      have u2 : Up T H H2 := u1.trans ⟨e2, t2⟩
      have hp2 := u2.e _ _ hp ntb_lst
      refine ⟨a, xs, fun x => decide (x ∈ ns), fun H' => H' p = some (.lst (ns.map V.str)), rfl, hq.ext u2.e, fun v hv => (hx v hv).ext u2.e, hxn, hp2, fun H1 H2 s z => s _ _ z, fun p' np H' o z => ?_, fun x H' Q' hl z kk => ?_, fun H3 s3 => ?_⟩
      · show upd H' p' o p = some (HO.lst (ns.map V.str))
        rw [upd_ne (ne_of_none hp2 np)]
        exact z
      · refine ⟨_, rfl, _, rfl, p, _, rfl, .inl (SqL.of z), rfl, flat_strs ns, ?_⟩
        rw [inV_strs]
        exact kk _ (Same.refl _)
      · have q := k H3 (u2.andS s3)
        have hp3 := s3 _ _ hp2
        have hq3 := (hq.ext u2.e).same s3
        unfold nfI at q
        cases ef : fwI (fun x => decide (x ∈ ns)) xs [] 0 with
        | some i =>
          rw [ef] at q
          exact ⟨_, rfl, rfl, _, rfl, iteF ⟨_, rfl, q⟩⟩
        | none =>
          rw [ef] at q
          refine ⟨_, rfl, rfl, _, rfl, iteT ⟨_, rfl, a, _, rfl, hq3.sq, _, rfl, p, _, rfl, .inl (SqL.of hp3), _, _, rfl, rfl, _, rfl, ?_⟩⟩
          by_cases hlt : xs.length < ns.length
          · have q : Q (optI (if xs.length < ns.length then some xs.length else none)) H3 := q
            rw [if_pos hlt] at q
            have e1 : decide (((xs.length : Nat) : Int) < (((ns.map V.str).length : Nat) : Int)) = true := decide_eq_true (by rw [List.length_map]; omega)
            rw [e1]
            exact iteT ⟨_, rfl, a, _, rfl, hq3.sq, q⟩
          · have q : Q (optI (if xs.length < ns.length then some xs.length else none)) H3 := q
            rw [if_neg hlt] at q
            have e1 : decide (((xs.length : Nat) : Int) < (((ns.map V.str).length : Nat) : Int)) = false := decide_eq_false (by rw [List.length_map]; omega)
            rw [e1]
            exact iteF ⟨_, rfl, q⟩
end
end Mn
/-! Notice.__init__ -/
namespace Mn
open PySem PySem.Spec PyProof.Rows L2 Md Me Ml LamX Mi Mo
abbrev sNt (j : Nat) : Stmt := inClass (top 29) j
def rules : List Str := ["rings", "pairs", "shares"]
structure Rules (K : PySem.W.Frag) (mg : Str → Option Value) : Prop where
  g : mg "RULES" = some (.ref (He.ga K "RULES"))
  q : ∀ H, SqT K H (He.ga K "RULES") (rules.map V.str)
/-- a notice's own cells: its fields, its list of needs -/
def NtOwn (H : Hp) (CN n : Addr) (r : Str) (m : Addr) (zs : List Str) : Prop := ∃ dx nl, H n = some (.ins CN dx [("_rule", .str r), ("_market", .ref m), ("_needs", .ref nl)]) ∧ H nl = some (.lst (zs.map V.str))
theorem NtOwn.ext {H H' : Hp} {CN n m : Addr} {r : Str} {zs : List Str} (s : ExtN H H') (h : NtOwn H CN n r m zs) : NtOwn H' CN n r m zs := by
  obtain ⟨dx, nl, h1, h2⟩ := h
  exact ⟨dx, nl, s _ _ h1 ntb_ins, s _ _ h2 ntb_lst⟩
/-- whose needs are asked for -/
def dueNs (r : Str) (ns : List Str) : List Str := if r = "pairs" then ns else []
def NfBad (K : PySem.W.Frag) (H : Hp) (v : V) (ns : List Str) (i : Nat) : Prop := (NoSeq K H v ∧ i = 0) ∨ ∃ (a : Addr) (xs : List V), v = .ref a ∧ Seq H a xs ∧ (∀ v ∈ xs, Itm K H v) ∧ xs.length ≤ 4000 ∧ nfI ns xs = some i
def NfOk (K : PySem.W.Frag) (H : Hp) (v : V) (ns zs : List Str) : Prop := ∃ a : Addr, v = .ref a ∧ Seq H a (zs.map V.str) ∧ (∀ z ∈ zs, z.length ≤ sizeLine) ∧ zs.length ≤ 63 ∧ nfI ns (zs.map V.str) = none
structure NtC (K : PySem.W.Frag) (C : Addr) : Prop where
  c : Cls K C
  n1 : NoAttr K C "_rule"
  n2 : NoAttr K C "_market"
  n3 : NoAttr K C "_needs"
def spNt (K : PySem.W.Frag) (T : List (Addr × Str)) (C0 : Addr) : Sp := fun vs H Q E => ∃ (x CN dx : Addr) (rv mv nv : V), vs = [.ref x, rv, mv, nv] ∧ H x = some (.ins CN dx []) ∧ NtC K CN ∧ Tabs T H ∧
  ((((∃ r : Str, rv = .str r ∧ r ∉ rules) ∨ NoStr K H rv) ∧ ∀ (H' : Hp) (d : Addr), Up T H H' → H' d = some (.xd [("thing", rv)]) → E (.ref (He.ga K "BadRule")) (some d) H') ∨
   ∃ r : Str, rv = .str r ∧ r ∈ rules ∧
   ((NoMk K C0 H mv ∧ ∀ (H' : Hp) (d : Addr), Up T H H' → H' d = some (.xd [("thing", mv)]) → E (.ref (He.ga K "BadMarket")) (some d) H') ∨
    ∃ (m : Addr) (ns ys : List Str) (rw_ : Str → List Str), mv = .ref m ∧ m ≠ x ∧ MkAt H C0 m ns ys rw_ ∧ ns.length ≤ 63 ∧
    ((∃ i, NfBad K H nv (dueNs r ns) i ∧ ∀ (H' : Hp) (d : Addr), Up T H H' → H' d = some (.xd [("index", .int (i : Nat))]) → E (.ref (He.ga K "BadNeeds")) (some d) H') ∨
     ∃ zs, NfOk K H nv (dueNs r ns) zs ∧ ∀ H', UpX T x H H' → NtOwn H' CN x r m zs → (∀ H'', (∀ c o, (Nw H c ∨ c = x) → (∀ ps, o ≠ .tbl ps) → H' c = some o → H'' c = some o) → NtOwn H'' CN x r m zs) → Q .non H')))
theorem putF_mk {u v : V} : putF "_market" v [(("_rule" : Str), u)] = [(("_rule" : Str), u), (("_market" : Str), v)] := by
  unfold putF
  rw [if_neg (by decide +kernel : ¬ ("_rule" : Str) = "_market")]
  rfl
theorem putF_nd {u v y : V} : putF "_needs" y [(("_rule" : Str), u), (("_market" : Str), v)] = [(("_rule" : Str), u), (("_market" : Str), v), (("_needs" : Str), y)] := by
  unfold putF
  rw [if_neg (by decide +kernel : ¬ ("_rule" : Str) = "_needs")]
  unfold putF
  rw [if_neg (by decide +kernel : ¬ ("_market" : Str) = "_needs")]
  rfl
section
variable {P : Program} {w : World} {K : PySem.W.Frag} {mg : Str → Option Value} {base : Heap}
theorem scNt : FnScope ["self", "rule", "market", "needs", "wrong"] ["self", "rule", "market", "needs"] (defScope (sNt 0)) := ⟨rfl, rfl, rfl, by decide +kernel, rfl, by decide +kernel, by decide +kernel⟩
theorem passL {X : Cx} {E : XK} (tk : Takes X (fun cls d _ H => E cls d H)) : Passes (L2.CX X.prog X.w) X E := passes_call tk (fun _ _ _ _ h => h)
theorem ok_nt {T : List (Addr × Str)} {f fO fC fN fP C0 : Addr} {fd fdO fdC fdN fdP fdB1 fdB2 : FuncData} (F : Fun K "__init__" "Notice.__init__" (sNt 0) f fd) (MC : MkC K C0) (Ru : Rules K mg)
    (GO : FnOk P w K mg base CX0 1 fO fdO ["thing", "names"] (spIsOneT K)) (kO : PySem.W.keepIn K (.ref fO) = true) (bO : Binds K fdO ["thing", "names"] []) (gO : mg "is_one_of" = some (.ref fO))
    (GC : FnOk P w K mg base (L2.CX P w) 3 fC fdC ["market"] (spChk K C0)) (kC : PySem.W.keepIn K (.ref fC) = true) (bC : Binds K fdC ["market"] []) (gC : mg "check_market" = some (.ref fC))
    (GN : FnOk P w K mg base CX0 3 fN fdN ["people", "needs"] (spNf K T)) (kN : PySem.W.keepIn K (.ref fN) = true) (bN : Binds K fdN ["people", "needs"] []) (gN : mg "needs_fault" = some (.ref fN))
    (GP : FnOk P w K mg base CX0 1 fP fdP ["self"] (spPeopleM C0)) (mP : Meth K C0 "people" fP) (bP : Binds K fdP ["self"] [])
    (BR : ExX K mg "BadRule" "thing") (FR : FnOk P w K mg base CX0 1 (He.ma K (He.ga K "BadRule") "__init__") fdB1 ["self", "thing"] (spI1 K "thing")) (bR : Binds K fdB1 ["self", "thing"] [])
    (BN : ExX K mg "BadNeeds" "index") (FN : FnOk P w K mg base CX0 1 (He.ma K (He.ga K "BadNeeds") "__init__") fdB2 ["self", "index"] (spI1 K "index")) (bB : Binds K fdB2 ["self", "index"] [])
    (gL : mg "list" = none) : FnOk P w K mg base (L2.CX P w) 4 f fd ["self", "rule", "market", "needs"] (spNt K T C0) := by
  refine F.okX scNt (fun vs H Q E h => ?_) (fun cdv A outer s H vs Q E hr h => ?_)
  · obtain ⟨x, CN, dx, rv, mv, nv, rfl, _⟩ := h
    rfl
  · obtain ⟨x, CN, dx, rv, mv, nv, rfl, hx, NC, hT, h⟩ := h
    have hnd := scNt.nd
    refine ⟨_, pss_cons (ps_if (pt_not (pt_val (pe_call GO (hr.mono (by decide)) rfl gO kO bO .nil pass0 (pa_cons (pv 1) (pa_cons (pe_glob rfl Ru.g (v := .ref (He.ga K "RULES")) rfl) pa_nil))))) (pss_one (ps_raise rfl (takes_of rfl rfl rfl rfl) (pmk_oex BR.ox BR.iC BR.tI FR (hr.mono (by decide)) bR .nil pass0 rfl BR.g (pa_cons (pv 1) pa_nil)))) pss_nil)
      (pss_cons (ps_expr (pe_call (E := E) GC (hr.mono (by decide)) rfl gC kC bC .nil (passL (takes_of rfl rfl rfl rfl)) (pa_cons (pv 2) pa_nil)))
      (pss_cons (ps_set (i := 4) hnd rfl (Or.inl rfl) (pe_call GN (hr.mono (by decide)) rfl gN kN bN .nil pass0 (pa_cons (pe_ifExp (pt_cmpR op_eq (pv 1) pe_str (nomark _)) (pe_meth0 (pv 2) MC.c mP GP (hr.mono (by decide)) bP .nil pass0) (pe_lst pa_nil)) (pa_cons (pv 3) pa_nil))))
      (pss_cons (ps_if (pt_cmpR op_notN (pv 4) pe_non (nomark _)) (pss_one (ps_raise rfl (takes_of rfl rfl rfl rfl) (pmk_oex BN.ox BN.iC BN.tI FN (hr.mono (by decide)) bB .nil pass0 rfl BN.g (pa_cons (pv 4) pa_nil)))) pss_nil)
      (pss_cons (ps_fld (pv 0) (pv 1) rfl)
      (pss_cons (ps_fld (pv 0) (pv 2) rfl)
      (pss_one (ps_fld (pv 0) (pe_callTy call_list_of rfl gL boot_list (pa_cons (pv 3) pa_nil)) rfl))))))), ?_⟩
    rcases h with ⟨hb, k⟩ | ⟨r, rfl, hr1, h⟩
    · have fin : ∀ a, H a = none → spI1 K "thing" (.ref a :: ([rv] ++ [])) (upd H a (exo a (He.ga K "BadRule") none)) (fun u H2 => u = .non ∧ ∃ (d : Addr) (fs : List (Str × V)), H2 a = some (exo a (He.ga K "BadRule") (some d)) ∧ H2 d = some (exd d fs) ∧ H d = none ∧ E (.ref (He.ga K "BadRule")) (some d) (upd (del H2 a) d (.xd fs))) (fun _ _ _ => False) :=
        raised1 BR.ox BR.no fun H' d s n e => k H' d (.same hT s) e
      rcases hb with ⟨r, rfl, hr0⟩ | hb
      · refine ⟨_, rfl, _, _, rules, rfl, Ru.q H, .inl ⟨r, rfl, ?_⟩⟩
        rw [decide_eq_false hr0]
        exact ⟨false, rfl, iteT ⟨_, rfl, (show 1 ≤ 1000 by decide), fin⟩⟩
      · exact ⟨_, rfl, _, _, rules, rfl, Ru.q H, .inr ⟨hb, false, rfl, iteT ⟨_, rfl, (show 1 ≤ 1000 by decide), fin⟩⟩⟩
    · refine ⟨_, rfl, _, _, rules, rfl, Ru.q H, .inl ⟨r, rfl, ?_⟩⟩
      rw [decide_eq_true hr1]
      refine ⟨true, rfl, iteF ?_⟩
      rcases h with ⟨hb, k⟩ | ⟨m, ns, ys, rw_, rfl, mx, M, hn, h⟩
      · exact ⟨_, rfl, mv, rfl, .inr ⟨hb, fun H' d s e => k H' d (.same hT s) e⟩⟩
      · obtain ⟨dm, fm, hm, l1, l2, l3⟩ := M.ins
        refine ⟨_, rfl, _, rfl, .inl ⟨m, dm, fm, rfl, hm, ?_⟩⟩
        refine ⟨_, rfl, rfl, _, rfl, ?_⟩
        have hd : (dueNs r ns).length ≤ 63 := by
          unfold dueNs
          by_cases e : r = "pairs"
          · rw [if_pos e]
            exact hn
          · rw [if_neg e]
            exact Nat.zero_le _
        rcases Decidable.em (r = "pairs") with e | e
        all_goals first
          | (rw [decide_eq_true (by rw [e])]
             refine iteT ⟨_, rfl, m, dm, fm, rfl, hm, l1, m, ns, ys, rw_, rfl, M, fun l nl => ?_⟩
             have ed : dueNs r ns = ns := if_pos e
             have hl : upd H l (.lst (ns.map V.str)) l = some (.lst ((dueNs r ns).map V.str)) := by
               rw [ed]
               exact upd_same
             have s1 := sameUp (o := .lst (ns.map V.str)) nl
             generalize upd H l (.lst (ns.map V.str)) = H1 at hl s1 ⊢)
          | (rw [decide_eq_false (fun z => e (V.str.inj z))]
             refine iteF ⟨Nat.zero_le _, fun l nl => ?_⟩
             have ed : dueNs r ns = [] := if_neg e
             have hl : upd H l (.lst []) l = some (.lst ((dueNs r ns).map V.str)) := by
               rw [ed]
               exact upd_same
             have s1 := sameUp (o := .lst []) nl
             generalize upd H l (.lst []) = H1 at hl s1 ⊢)
        all_goals
          have u1 := Up.same hT s1
          rcases h with ⟨i, hb, k⟩ | ⟨zs, ⟨a, rfl, hq, hz, hzl, hnf⟩, k⟩
          · have fin : ∀ H2, Up T H H2 → ∀ a, H2 a = none → spI1 K "index" (.ref a :: ([V.int (i : Int)] ++ [])) (upd H2 a (exo a (He.ga K "BadNeeds") none)) (fun v H3 => v = .non ∧ ∃ (d : Addr) (fs : List (Str × V)), H3 a = some (exo a (He.ga K "BadNeeds") (some d)) ∧ H3 d = some (exd d fs) ∧ H2 d = none ∧ E (.ref (He.ga K "BadNeeds")) (some d) (upd (del H3 a) d (.xd fs))) (fun _ _ _ => False) :=
              fun H2 u2 => raised1 BN.ox BN.no fun H' d s n e => k H' d (u2.andS s) e
            rcases hb with ⟨hb, rfl⟩ | ⟨a, xs, rfl, hq, hx, hxl, hnf⟩
            · exact ⟨_, rfl, l, _, nv, rfl, u1.t, hl, hd, .inl ⟨hb.same s1, fun H2 u2 => ⟨_, rfl, rfl, _, rfl, iteT ⟨_, rfl, (show 1 ≤ 1000 by decide), fin H2 (u1.trans u2)⟩⟩⟩⟩
            · refine ⟨_, rfl, l, _, _, rfl, u1.t, hl, hd, .inr ⟨a, xs, rfl, hq.same s1, fun v hv => (hx v hv).ext (ExtN.of s1), hxl, fun H2 u2 => ?_⟩⟩
              rw [hnf]
              exact ⟨_, rfl, rfl, _, rfl, iteT ⟨_, rfl, (show 1 ≤ 1000 by decide), fin H2 (u1.trans u2)⟩⟩
          · refine ⟨_, rfl, l, _, _, rfl, u1.t, hl, hd, .inr ⟨a, _, rfl, hq.same s1, items_strs hz, by rw [List.length_map]; omega, fun H2 u2 => ?_⟩⟩
            rw [hnf]
            refine ⟨_, rfl, rfl, _, rfl, iteF ?_⟩
            have u12 := u1.trans u2
            have hx2 := u12.e _ _ hx ntb_ins
            have hq2 := hq.ext u12.e
            have ax : a ≠ x := fun z => by
              rcases hq2 with h | h
              · rw [z, hx2] at h
                cases h
              · rw [z, hx2] at h
                cases h
            refine ⟨_, rfl, _, rfl, x, CN, dx, [], rfl, hx2, NC.c, NC.n1, by decide, ?_⟩
            refine ⟨_, rfl, _, rfl, x, CN, dx, [("_rule", .str r)], rfl, upd_same, NC.c, NC.n2, by simp, ?_⟩
            rw [putF_mk]
            have hq3 : ∀ {o1 o2 : HO}, Seq (upd (upd H2 x o1) x o2) a (zs.map V.str) := fun {o1 o2} => hq2.imp (fun h => by rw [upd_ne ax, upd_ne ax]; exact h) (fun h => by rw [upd_ne ax, upd_ne ax]; exact h)
            refine ⟨_, rfl, a, _, rfl, hq3.sq, fun nl nnl => ?_⟩
            have nx : nl ≠ x := fun z => by
              rw [z, upd_same] at nnl
              cases nnl
            refine ⟨_, rfl, x, CN, dx, [("_rule", .str r), ("_market", .ref m)], rfl, (by rw [upd_ne nx.symm]; exact upd_same), NC.c, NC.n3, (show 2 < 1000 by decide), ?_⟩
            rw [putF_nd]
            have nn : H2 nl = none := by
              rw [upd_ne nx, upd_ne nx] at nnl
              exact nnl
            have off : ∀ {o1 o2 o3 o4 : HO} {b : Addr} {o : HO}, b ≠ x → H2 b = some o → upd (upd (upd (upd H2 x o1) x o2) nl o3) x o4 b = some o := fun n e => by
              rw [upd_ne n, upd_ne (ne_of_none e nn), upd_ne n, upd_ne n]
              exact e
            have eN : ∀ {o1 o2 o3 o4 : HO}, upd (upd (upd (upd H2 x o1) x o2) nl o3) x o4 nl = some o3 := by
              intros
              rw [upd_ne nx, upd_same]
            have tX : ∀ {fs1 fs2 fs3 : List (Str × V)} {o3 : HO}, Tabs T (upd (upd (upd (upd H2 x (.ins CN dx fs1)) x (.ins CN dx fs2)) nl o3) x (.ins CN dx fs3)) := fun {fs1 fs2 fs3 o3} => by
              have t1 : Tabs T (upd H2 x (.ins CN dx fs1)) := Tabs.put u12.t hx2 ntb_ins (fun φ z => by cases z)
              have t2 : Tabs T (upd (upd H2 x (.ins CN dx fs1)) x (.ins CN dx fs2)) := Tabs.put t1 upd_same ntb_ins (fun φ z => by cases z)
              have n3 : upd (upd H2 x (.ins CN dx fs1)) x (.ins CN dx fs2) nl = none := by
                rw [upd_ne nx, upd_ne nx]
                exact nn
              exact Tabs.put (t2.ext (sameUp n3)) ((sameUp n3) _ _ upd_same) ntb_ins (fun φ z => by cases z)
            have nw : Nw H nl := Nw.of u12.e nn
            exact k _ ⟨fun b o n e nt => off n (u12.e _ _ e nt), tX⟩ ⟨dx, nl, upd_same, eN⟩ fun H'' kk => ⟨dx, nl, kk x _ (.inr rfl) ntb_ins upd_same, kk nl _ (.inl nw) ntb_lst eN⟩
end
end Mn
/-! Notice: rule, market, needs, == and != -/
namespace Mn
open PySem PySem.Spec PyProof.Rows L2 Md Me Ml LamX Mi Mo
/-! ### x == y, x != y of own classes, by the promise of __eq__ -/
structure EqC (K : PySem.W.Frag) (C f : Addr) : Prop where
  mo : PySem.W.mroIn K C (.type "object") = some true
  eq : PySem.W.findIn K (.ref C) "__eq__" = some (some (.ref f))
  fn : PySem.W.isFn K (.ref f) = true
  ne : PySem.W.findIn K (.ref C) "__ne__" = some (some (.builtin "object.__ne__"))
def rOwnG (K : PySem.W.Frag) (C0 : Addr) (sp : Sp) (neg : Bool) : R2 := fun x y H Q => ∃ (a dx : Addr) (fs : List (Str × V)) (tb : Value), x = .ref a ∧ H a = some (.ins C0 dx fs) ∧ TyR H y tb ∧ PySem.W.notFirst K C0 tb = true ∧
  sp [.ref a, y] H (fun v H' => ∃ b, v = .bl b ∧ Q (.bl (if neg then !b else b)) H') E0
section
variable {X : Cx} {C0 f : Addr} {fd : FuncData} {n : Nat} {sp : Sp}
theorem callEqG (F : FnOk X.prog X.w X.K X.mg X.base CX0 n f fd ["self", "other"] sp) (hb : Binds X.K fd ["self", "other"] []) {A : Around} {pins : List (Addr × Obj)} {σ : L2.St} {H : Hp} {s : Shared} {a : Addr} {y : V} {u : Value} {Qv : VK} (hr : Room n A) (hfr : A.frames = X.A.frames)
    (I : Inv X pins σ H s) (ry : RelV y u) (hsp : sp [.ref a, y] H Qv E0) : wpAny (model X.prog X.w) A (call (.ref f) [.ref a, u]) (EP X pins σ Qv) X.xe s := by
  have e0 : Env0 X.prog X.w X.K X.mg X.base A X.stack s H := by
    have e := I.env0
    exact ⟨by rw [hfr]; exact e.frames, e.mod, e.bs, e.bsz, e.funs, e.frf, e.hok, e.bare⟩
  have r2 : Vals [V.ref a, y] [Value.ref a, u] := .cons rfl (.cons ry .nil)
  refine wpAny_call (codeAny_mono (F.run A X.stack s H ⟨[.ref a, u], []⟩ [.ref a, u] [.ref a, y] Qv E0 hr e0 (by
    have := hb s [.ref a, u] I.kIn rfl
    simpa using this) r2 hsp) fun r s' hq => ?_)
  cases r with
  | error e => exact (show False from hq).elim
  | ok fl =>
    cases fl with
    | ret w => exact I.after hq
    | next => exact False.elim hq
    | brk => exact False.elim hq
    | cont => exact False.elim hq
theorem op_eqG (F : FnOk X.prog X.w X.K X.mg X.base CX0 n f fd ["self", "other"] sp) (hb : Binds X.K fd ["self", "other"] []) (M : EqC X.K C0 f) (hr : Room n X.A) : OpR X (compareOp .Eq) (rOwnG X.K C0 sp false) := by
  intro pins s σ H x y v u Q I rx ry h
  obtain ⟨a, dx, fs, tb, rfl, ha, ty, nf, hsp⟩ := h
  obtain rfl : v = Value.ref a := rx
  obtain ⟨mA, J, _⟩ := ins_get I.hok ha
  obtain ⟨od, J, _⟩ := J.look
  obtain ⟨m, hF⟩ := I.fr
  refine PySem.W.cmp_K (op := .Eq) (tb := tb) hr.units0 hF I.ok.mod.kin J (ty.looks I ry) nf M.eq M.fn ?_
  refine wpAny_mono (callEqG F hb hr rfl I ry hsp) (fun r s' hq => ?_) fun _ _ e => e
  obtain ⟨z, H', I', rz, b, rfl, q⟩ := hq
  obtain rfl : r = Value.bool b := rz
  exact ⟨.bl b, H', I', rfl, q⟩
theorem op_neG (F : FnOk X.prog X.w X.K X.mg X.base CX0 n f fd ["self", "other"] sp) (hb : Binds X.K fd ["self", "other"] []) (M : EqC X.K C0 f) (hr : Room (n + 1) X.A) : OpR X (compareOp .NotEq) (rOwnG X.K C0 sp true) := by
  intro pins s σ H x y v u Q I rx ry h
  obtain ⟨a, dx, fs, tb, rfl, ha, ty, nf, hsp⟩ := h
  obtain rfl : v = Value.ref a := rx
  obtain ⟨mA, J, _⟩ := ins_get I.hok ha
  obtain ⟨od, J, _⟩ := J.look
  obtain ⟨m, hF⟩ := I.fr
  have hu := hu_of hr
  refine cmp_ne (tb := tb) hu hF I.ok.mod.kin J (ty.looks I ry) nf M.mo M.ne M.eq M.fn ?_
  refine wpAny_mono (callEqG F hb hr.in1 rfl I ry hsp) (fun r s' hq => ?_) fun _ _ e => e
  obtain ⟨z, H', I', rz, b, rfl, q⟩ := hq
  obtain rfl : r = Value.bool b := rz
  exact ⟨b, rfl, .bl (!b), H', I', rfl, q⟩
end
/-! ### the methods -/
/-- what is asked of the class Notice -/
structure NtE (K : PySem.W.Frag) (C f : Addr) : Prop where
  c : NtC K C
  cc : PySem.W.findIn K (.ref C) "__class__" = some (some (.builtin "object.__class__"))
  gd : PySem.W.specialIn K (.builtin "object.__class__") "__get__" = some (some (.builtin "getset_descriptor.__get__"))
  tk : PySem.W.takesIn K (.builtin "object.__class__") = some true
  e : EqC K C f
theorem NtE.ty {K : PySem.W.Frag} {C f a dx : Addr} {H : Hp} {fs : List (Str × V)} (M : NtE K C f) (h : H a = some (.ins C dx fs)) : TyX K H (.ref a) (.ref C) := .base (.ins h M.c.c M.cc M.gd M.tk M.e.mo)
def spNRule (CN : Addr) : Sp := fun vs H Q _ => ∃ (n m : Addr) (r : Str) (zs : List Str), vs = [.ref n] ∧ NtOwn H CN n r m zs ∧ Q (.str r) H
def spNNeeds (CN : Addr) : Sp := fun vs H Q _ => ∃ (n m : Addr) (r : Str) (zs : List Str), vs = [.ref n] ∧ NtOwn H CN n r m zs ∧ ∀ l, H l = none → Q (.ref l) (upd H l (.lst (zs.map V.str)))
def spNMarket (T : List (Addr × Str)) (C0 CN : Addr) : Sp := fun vs H Q _ => ∃ (n m : Addr) (r : Str) (zs ns ys : List Str) (rw_ : Str → List Str), vs = [.ref n] ∧ NtOwn H CN n r m zs ∧ Tabs T H ∧ MkAt H C0 m ns ys rw_ ∧ GoodNs ns ∧ GoodRows ns rw_ ∧
  ∀ (H' : Hp) (x : Addr) (ys' : List Str), Up T H H' → H x = none → MkAt H' C0 x ns ys' rw_ → Q (.ref x) H'
def eqN (r : Str) (ns : List Str) (rw_ : Str → List Str) (zs : List Str) (r' : Str) (ns' : List Str) (rw' : Str → List Str) (zs' : List Str) : Bool := decide (r = r') && (eqM ns rw_ ns' rw' && decide (zs = zs'))
/-- a notice with its market -/
structure NtAll (H : Hp) (C0 CN n : Addr) (r : Str) (m : Addr) (ns ys : List Str) (rw_ : Str → List Str) (zs : List Str) : Prop where
  o : NtOwn H CN n r m zs
  m : MkAt H C0 m ns ys rw_
  ok : MkOk ns rw_
  z : StrsOk zs
def spEqN (K : PySem.W.Frag) (C0 CN : Addr) : Sp := fun vs H Q _ => ∃ (n m : Addr) (y : V) (r : Str) (ns ys : List Str) (rw_ : Str → List Str) (zs : List Str), vs = [.ref n, y] ∧ NtAll H C0 CN n r m ns ys rw_ zs ∧
  ((∃ t, TyX K H y t ∧ PySem.W.kitOne K t (.ref CN) = some false ∧ Q (.bl false) H) ∨
   ∃ (n' m' : Addr) (r' : Str) (ns' ys' : List Str) (rw' : Str → List Str) (zs' : List Str), y = .ref n' ∧ NtAll H C0 CN n' r' m' ns' ys' rw' zs' ∧ Q (.bl (eqN r ns rw_ zs r' ns' rw' zs')) H)
section
variable {P : Program} {w : World} {K : PySem.W.Frag} {mg : Str → Option Value} {base : Heap}
theorem scNR : FnScope ["self"] ["self"] (defScope (sNt 1)) := ⟨rfl, rfl, rfl, by decide +kernel, rfl, by decide +kernel, by decide +kernel⟩
theorem scNM : FnScope ["self"] ["self"] (defScope (sNt 2)) := ⟨rfl, rfl, rfl, by decide +kernel, rfl, by decide +kernel, by decide +kernel⟩
theorem scNN : FnScope ["self"] ["self"] (defScope (sNt 3)) := ⟨rfl, rfl, rfl, by decide +kernel, rfl, by decide +kernel, by decide +kernel⟩
theorem scNE : FnScope ["self", "other"] ["self", "other"] (defScope (sNt 4)) := ⟨rfl, rfl, rfl, by decide +kernel, rfl, by decide +kernel, by decide +kernel⟩
theorem ok_nrule {f CN : Addr} {fd : FuncData} (F : Fun K "rule" "Notice.rule" (sNt 1) f fd) (NC : NtC K CN) : FnOk P w K mg base CX0 1 f fd ["self"] (spNRule CN) := by
  refine F.ok scNR (fun vs H Q E h => ?_) (fun cdv A outer s H vs Q E hr h => ?_)
  · obtain ⟨n, m, r, zs, rfl, _⟩ := h
    rfl
  · obtain ⟨n, m, r, zs, rfl, ⟨dx, nl, hn, hl⟩, k⟩ := h
    exact ⟨_, pss_one (ps_ret (pe_fld (pv 0) rfl)), ⟨_, rfl, n, CN, dx, _, _, rfl, hn, NC.c, NC.n1, rfl, k⟩⟩
theorem ok_nneeds {f CN : Addr} {fd : FuncData} (F : Fun K "needs" "Notice.needs" (sNt 3) f fd) (NC : NtC K CN) (gL : mg "list" = none) : FnOk P w K mg base CX0 1 f fd ["self"] (spNNeeds CN) := by
  refine F.ok scNN (fun vs H Q E h => ?_) (fun cdv A outer s H vs Q E hr h => ?_)
  · obtain ⟨n, m, r, zs, rfl, _⟩ := h
    rfl
  · obtain ⟨n, m, r, zs, rfl, ⟨dx, nl, hn, hl⟩, k⟩ := h
    exact ⟨_, pss_one (ps_ret (pe_callTy call_list_of rfl gL boot_list (pa_cons (pe_fld (pv 0) rfl) pa_nil))), ⟨_, rfl, n, CN, dx, _, _, rfl, hn, NC.c, NC.n3, rfl, nl, _, rfl, .inl (SqL.of hl), fun l h => k l h⟩⟩
theorem ok_nmarket {T : List (Addr × Str)} {f fI fP fW C0 CN : Addr} {fd fdI fdP fdW : FuncData} (F : Fun K "market" "Notice.market" (sNt 2) f fd) (NC : NtC K CN) (MC : MkC K C0) (MM : Mk K C0 fI) (gM : mg "Market" = some (.ref C0))
    (GI : FnOk P w K mg base (L2.CX P w) 6 fI fdI ["self", "people", "wishes"] (spInit K T)) (bI : Binds K fdI ["self", "people", "wishes"] [])
    (GP : FnOk P w K mg base CX0 1 fP fdP ["self"] (spPeopleM C0)) (mP : Meth K C0 "people" fP) (bP : Binds K fdP ["self"] [])
    (GW : FnOk P w K mg base CX0 1 fW fdW ["self"] (spWishesM C0)) (mW : Meth K C0 "wishes" fW) (bW : Binds K fdW ["self"] []) : FnOk P w K mg base CX0 8 f fd ["self"] (spNMarket T C0 CN) := by
  refine F.ok scNM (fun vs H Q E h => ?_) (fun cdv A outer s H vs Q E hr h => ?_)
  · obtain ⟨n, m, r, zs, ns, ys, rw_, rfl, _⟩ := h
    rfl
  · obtain ⟨n, m, r, zs, ns, ys, rw_, rfl, ⟨dx, nl, hn, hl⟩, hT, M, gn, gr, k⟩ := h
    refine ⟨_, pss_one (ps_ret (pe_make MM GI hr rfl gM bI .nil passE0 (pa_cons (pe_meth0 (pe_fld (pv 0) rfl) MC.c mP GP (hr.mono (by decide)) bP .nil pass0) (pa_cons (pe_meth0 (pe_fld (pv 0) rfl) MC.c mW GW (hr.mono (by decide)) bW .nil pass0) pa_nil)))), ?_⟩
    obtain ⟨dm, fm, hm, l1, l2, l3⟩ := M.ins
    refine ⟨_, rfl, n, CN, dx, _, _, rfl, hn, NC.c, NC.n2, rfl, m, dm, fm, rfl, hm, l1, m, ns, ys, rw_, rfl, M, fun l nl => ?_⟩
    have s1 := sameUp (o := .lst (ns.map V.str)) nl
    have M1 := M.ext (ExtN.of s1)
    refine ⟨_, rfl, n, CN, dx, _, _, rfl, s1 _ _ hn, NC.c, NC.n2, rfl, m, dm, fm, rfl, s1 _ _ hm, l2, m, ns, ys, rw_, rfl, M1, gn.nd, gn.l, fun H2 D bs s2 R => ?_⟩
    have hl2 := s2 _ _ (upd_same (a := l) (o := HO.lst (ns.map V.str)) (H := H))
    have s12 := s1.trans s2
    have pm := M.pm
    have gy : GoodNs ys := gn.perm pm
    refine mk_reads MC (hT.ext s12) (pplOk (.inl hl2) gn) (wshOk (ini_rows (ns := ys) R.l R.d R.r gy.nd (fun z hz => ⟨pm.mem_iff.mp hz, rfl⟩) fun z hz nz => absurd (pm.mem_iff.mpr hz) nz) gr gn) fun H3 x ys' u3 nx M3 keep3 => ?_
    exact k H3 x ys' ((Up.same hT s12).trans u3) (s12.free nx) M3
theorem ok_neq {f fE C0 CN : Addr} {fd fdE : FuncData} (F : Fun K "__eq__" "Notice.__eq__" (sNt 4) f fd) (NE : NtE K CN f) (gN : mg "Notice" = some (.ref CN)) (ME : MkE K C0 fE) (MQ : MkQ K C0) (GE : FnOk P w K mg base CX0 1 fE fdE ["self", "other"] (spEqM K C0)) (bE : Binds K fdE ["self", "other"] [])
    (gI : mg "isinstance" = none) : FnOk P w K mg base CX0 2 f fd ["self", "other"] (spEqN K C0 CN) := by
  refine F.ok scNE (fun vs H Q E h => ?_) (fun cdv A outer s H vs Q E hr h => ?_)
  · obtain ⟨n, m, y, r, ns, ys, rw_, zs, rfl, _⟩ := h
    rfl
  · obtain ⟨n, m, y, r, ns, ys, rw_, zs, rfl, N1, h⟩ := h
    have hu64 : A.units + 3 + 64 < cLine := by
      have := hr.un
      exact Nat.lt_of_le_of_lt (by show A.units + 3 + 64 ≤ A.units + 3 + 16 * 1 + 200; omega) this
    refine ⟨_, pss_cons (ps_if (PW.pt (pw_or (pt_not (pt_val (pe_callB call_isi (by rfl) gI boot_isinstance (pa_cons (pv 1) (pa_cons (pe_glob rfl gN (v := .ref CN) rfl) pa_nil))))) (pw_or1 (pt_cmpR op_ne (pe_fld (pv 0) rfl) (pe_fld (pv 1) rfl) (nomark _))))) (pss_one (ps_ret pe_bl)) pss_nil)
      (pss_one (ps_ret (pe_and (pe_cmpR (op_eqM GE bE ME hr) (pe_fld (pv 0) rfl) (pe_fld (pv 1) rfl) (nomark _)) (pe_one (pe_cmpR (op_eqD hu64) (pe_fld (pv 0) rfl) (pe_fld (pv 1) rfl) (nomark _)))))), ?_⟩
    obtain ⟨dx, nl, hn, hl⟩ := N1.o
    rcases h with ⟨t, ty, e, k⟩ | ⟨n', m', r', ns', ys', rw', zs', rfl, N2, k⟩
    · exact ⟨_, rfl, _, _, _, _, false, rfl, .own _, ty, e, false, rfl, iteT k⟩
    · obtain ⟨dx', nl', hn', hl'⟩ := N2.o
      refine ⟨_, rfl, _, _, _, _, true, rfl, .own _, NE.ty hn', kit_self, true, rfl, iteF ?_⟩
      refine ⟨_, rfl, n, CN, dx, _, _, rfl, hn, NE.c.c, NE.c.n1, rfl, _, rfl, n', CN, dx', _, _, rfl, hn', NE.c.c, NE.c.n1, rfl, rfl, _, rfl, ?_⟩
      by_cases er : r = r'
      · subst er
        rw [decide_eq_true rfl]
        refine iteF ⟨_, rfl, n, CN, dx, _, _, rfl, hn, NE.c.c, NE.c.n2, rfl, _, rfl, n', CN, dx', _, _, rfl, hn', NE.c.c, NE.c.n2, rfl, eq_mk MQ N1.m N1.ok N2.m N2.ok ⟨_, rfl, ?_⟩⟩
        have ek : eqN r ns rw_ zs r ns' rw' zs' = (eqM ns rw_ ns' rw' && decide (zs = zs')) := by
          unfold eqN
          rw [decide_eq_true rfl]
          rfl
        rw [ek] at k
        cases em : eqM ns rw_ ns' rw' with
        | false =>
          rw [em] at k
          exact iteF k
        | true =>
          rw [em] at k
          refine iteT ⟨_, rfl, n, CN, dx, _, _, rfl, hn, NE.c.c, NE.c.n3, rfl, _, rfl, n', CN, dx', _, _, rfl, hn', NE.c.c, NE.c.n3, rfl, _, _, .lst (SqL.of hl) (dp_strs zs), .lst (SqL.of hl') (dp_strs zs'), shaped_strs N1.z, shaped_strs N2.z, ?_⟩
          rw [eqv_strs]
          exact k
      · have ek : eqN r ns rw_ zs r' ns' rw' zs' = false := by
          unfold eqN
          rw [decide_eq_false er]
          rfl
        rw [ek] at k
        have e1 : decide (V.str r = V.str r') = false := decide_eq_false fun z => er (V.str.inj z)
        rw [e1]
        exact iteT k
end
end Mn
/-! _law_a_needs, _law_a_notice_made -/
namespace Mn
open PySem PySem.Spec PyProof.Rows L2 Md Me Ml LamX Mi Mo
abbrev sANeeds : Stmt := top 35
abbrev sANotM : Stmt := top 39
/-- a drawn notice: rule, people, wishes, needs -/
structure NIni (T : List (Addr × Str)) (H : Hp) (a b t c D e : Addr) (B : Nat) (r : Str) (ns : List Str) (rw_ : Str → List Str) (as : List Addr) (zs : List Str) : Prop where
  I : Ini T H a b c D B ns rw_ as
  hr : r ∈ rules
  ht : H t = some (.tup [.str r, .ref c, .ref D, .ref e])
  he : H e = some (.lst (zs.map V.str))
  ea : e ≠ a
  eb : e ≠ b
  pz : zs.Perm (dueNs r ns)
theorem Stm.off {H : Hp} {a b p : Addr} {B : Nat} {o : HO} (S : Stm H a b B) (h : H p = some o) (n : ∀ xs, o ≠ .lst xs) : p ≠ a ∧ p ≠ b := by
  obtain ⟨xs, ha⟩ := S.ha
  obtain ⟨zs, hb⟩ := S.hb
  constructor
  · intro z
    rw [z, ha] at h
    exact n _ (Option.some.inj h).symm
  · intro z
    rw [z, hb] at h
    exact n _ (Option.some.inj h).symm
theorem Ini.up {T : List (Addr × Str)} {H H' : Hp} {a b c D : Addr} {B B' : Nat} {ns : List Str} {rw_ : Str → List Str} {as : List Addr} (I : Ini T H a b c D B ns rw_ as) (u : UpS T a b H H') (S : Stm H' a b B') : Ini T H' a b c D B' ns rw_ as :=
  ⟨S, u.t, I.ca, I.cb, u.e _ _ I.ca I.cb I.c ntb_lst, ⟨I.R.l, u.e _ _ I.R.nD.1 I.R.nD.2 I.R.d ntb_dK, fun i n q h1 h2 => by
    obtain ⟨q1, q2⟩ := I.R.na q (List.mem_of_getElem? h2)
    exact u.e _ _ q1 q2 (I.R.r i n q h1 h2) ntb_lst, I.R.na, I.R.nD⟩, I.gn, I.gr⟩
theorem NIni.up {T : List (Addr × Str)} {H H' : Hp} {a b t c D e : Addr} {B B' : Nat} {r : Str} {ns zs : List Str} {rw_ : Str → List Str} {as : List Addr} (I : NIni T H a b t c D e B r ns rw_ as zs) (u : UpS T a b H H') (S : Stm H' a b B') : NIni T H' a b t c D e B' r ns rw_ as zs := by
  obtain ⟨ta, tb⟩ := I.I.S.off I.ht (fun xs z => by cases z)
  exact ⟨I.I.up u S, I.hr, u.e _ _ ta tb I.ht ntb_tup, u.e _ _ I.ea I.eb I.he ntb_lst, I.ea, I.eb, I.pz⟩
theorem due_nd {r : Str} {ns : List Str} (h : ns.Nodup) : (dueNs r ns).Nodup := by
  unfold dueNs
  by_cases e : r = "pairs"
  · rw [if_pos e]
    exact h
  · rw [if_neg e]
    exact List.nodup_nil
theorem due_sub {r : Str} {ns : List Str} : ∀ x ∈ dueNs r ns, x ∈ ns := by
  unfold dueNs
  by_cases e : r = "pairs"
  · rw [if_pos e]
    exact fun x h => h
  · rw [if_neg e]
    exact fun x h => by simp at h
theorem due_len {r : Str} {ns : List Str} : (dueNs r ns).length ≤ ns.length := by
  unfold dueNs
  by_cases e : r = "pairs"
  · rw [if_pos e]
    exact Nat.le_refl _
  · rw [if_neg e]
    exact Nat.zero_le _
theorem nf_perm {ds zs : List Str} (nd : ds.Nodup) (p : zs.Perm ds) : nfI ds (zs.map V.str) = none := by
  have e : fwI (fun x => decide (x ∈ ds)) (zs.map V.str) [] 0 = none := fwI_ok zs [] 0 (p.nodup_iff.mpr nd) fun n hn => ⟨decide_eq_true (p.mem_iff.mp hn), by simp⟩
  unfold nfI
  rw [e]
  show (if (zs.map V.str).length < ds.length then _ else none) = none
  rw [List.length_map, p.length_eq, if_neg (Nat.lt_irrefl _)]
theorem nfOk {K : PySem.W.Frag} {H : Hp} {p : Addr} {r : Str} {ns zs : List Str} (gn : GoodNs ns) (pz : zs.Perm (dueNs r ns)) (h : Seq H p (zs.map V.str)) : NfOk K H (.ref p) (dueNs r ns) zs := by
  refine ⟨p, rfl, h, fun z hz => Nat.le_trans (goodNm.len (gn.g z (due_sub z (pz.mem_iff.mp hz)))) (by decide), ?_, nf_perm (due_nd gn.nd) pz⟩
  have := pz.length_eq
  have := due_len (r := r) (ns := ns)
  have := gn.l
  omega
theorem NfOk.ext {K : PySem.W.Frag} {H H' : Hp} {v : V} {ns zs : List Str} (s : ExtN H H') (h : NfOk K H v ns zs) : NfOk K H' v ns zs := by
  obtain ⟨a, e, h1, h2⟩ := h
  exact ⟨a, e, h1.ext s, h2⟩
theorem mk_nt {K : PySem.W.Frag} {T : List (Addr × Str)} {C0 CN m : Addr} {H1 : Hp} {nv : V} {r : Str} {ns ys zs : List Str} {rw_ : Str → List Str} {R : Addr → Hp → Prop} {E : XK} (NC : NtC K CN) (hT : Tabs T H1) (hr : r ∈ rules) (M : MkAt H1 C0 m ns ys rw_) (hn : ns.length ≤ 63) (hz : NfOk K H1 nv (dueNs r ns) zs)
    (k : ∀ H' x, Up T H1 H' → H1 x = none → NtOwn H' CN x r m zs → (∀ H'', (∀ c o, (Nw H1 c ∨ c = x) → (∀ ps, o ≠ .tbl ps) → H' c = some o → H'' c = some o) → NtOwn H'' CN x r m zs) → R x H') :
    ∀ x dx, H1 x = none → H1 dx = none → dx ≠ x → spNt K T C0 [.ref x, .str r, .ref m, nv] (upd (upd H1 dx (.own x)) x (.ins CN dx [])) (fun v H2 => v = .non ∧ R x H2) E := by
  intro x dx nx ndx ne
  have s1 := sameUp (o := .own x) ndx
  have nx2 : upd H1 dx (.own x) x = none := by
    rw [upd_ne ne.symm]
    exact nx
  have s2 := s1.trans (sameUp (o := .ins CN dx []) nx2)
  obtain ⟨dm, fm, hm, _⟩ := M.ins
  refine ⟨x, CN, dx, .str r, .ref m, nv, rfl, upd_same, NC, hT.ext s2, .inr ⟨r, rfl, hr, .inr ⟨m, ns, ys, rw_, rfl, ne_of_none hm nx, M.ext (ExtN.of s2), hn, .inr ⟨zs, hz.ext (ExtN.of s2), fun H' u o kk => ⟨rfl, k H' x ⟨fun b o e n => ?_, u.t⟩ nx o fun H'' q => kk H'' fun c o hc nt => q c o (hc.imp (fun q o e => q o (s2 _ _ e)) id) nt⟩⟩⟩⟩⟩
  exact u.e b o (ne_of_none e nx) (s2 _ _ e) n
def spANeeds (K : PySem.W.Frag) : Sp := fun vs H Q _ => ∃ (a b c : Addr) (B : Nat) (ns : List Str), vs = [.ref a, .ref c] ∧ Stm H a b B ∧ H c = some (.lst (ns.map V.str)) ∧ ns.length ≤ 63 ∧ B + 1000 ≤ 1000000000000 ∧
  ∀ (H' : Hp) (l : Addr) (zs : List Str), Stm H' a b (B + 1000) → KeepBut a b H H' → H l = none → H' l = some (.lst (zs.map V.str)) → zs.Perm ns → Q (.ref l) H'
/-- a notice that stays while the stream is drawn from -/
def NtSt (C0 CN a b : Addr) (H : Hp) (n : Addr) (r : Str) (m : Addr) (ns ys : List Str) (rw_ : Str → List Str) (zs : List Str) : Prop := ∀ H'', (∀ q o, q ≠ a → q ≠ b → H q = some o → (∀ ps, o ≠ .tbl ps) → H'' q = some o) → NtAll H'' C0 CN n r m ns ys rw_ zs
theorem NtSt.up {T : List (Addr × Str)} {C0 CN a b n m : Addr} {H H' : Hp} {r : Str} {ns ys zs : List Str} {rw_ : Str → List Str} (h : NtSt C0 CN a b H n r m ns ys rw_ zs) (u : UpS T a b H H') : NtSt C0 CN a b H' n r m ns ys rw_ zs := fun H'' kk => h H'' fun q o n1 n2 e nt => kk q o n1 n2 (u.e q o n1 n2 e nt) nt
theorem NtSt.at_ {C0 CN a b n m : Addr} {H : Hp} {r : Str} {ns ys zs : List Str} {rw_ : Str → List Str} (h : NtSt C0 CN a b H n r m ns ys rw_ zs) : NtAll H C0 CN n r m ns ys rw_ zs := h H fun _ _ _ _ e _ => e
def spANotM (T : List (Addr × Str)) (C0 CN : Addr) : Sp := fun vs H Q _ => ∃ (a b t c D e : Addr) (B : Nat) (r : Str) (ns : List Str) (rw_ : Str → List Str) (as : List Addr) (zs : List Str), vs = [.ref a, .ref t] ∧ NIni T H a b t c D e B r ns rw_ as zs ∧ B + 2000000 ≤ 1000000000 ∧
  ∀ (H' : Hp) (n m : Addr) (ys : List Str), UpS T a b H H' → Stm H' a b (B + 2000000) → Nw H n → NtSt C0 CN a b H' n r m ns ys rw_ zs → Q (.ref n) H'
section
variable {P : Program} {w : World} {K : PySem.W.Frag} {mg : Str → Option Value} {base : Heap}
theorem scANeeds : FnScope ["_law_stream", "_law_people"] ["_law_stream", "_law_people"] (defScope sANeeds) := ⟨rfl, rfl, rfl, by decide +kernel, rfl, by decide +kernel, by decide +kernel⟩
theorem scANotM : FnScope ["_law_stream", "_law_notice", "_law_rule", "_law_people", "_law_wishes", "_law_needs"] ["_law_stream", "_law_notice"] (defScope sANotM) := ⟨rfl, rfl, rfl, by decide +kernel, rfl, by decide +kernel, by decide +kernel⟩
theorem ok_aNeeds {f : Addr} {fd : FuncData} (F : Fun K "_law_a_needs" "_law_a_needs" sANeeds f fd) (CX_ : Cl P w K mg base 2 "_law_mixed" ["_law_stream", "_law_some"] (spMixedB K)) : FnOk P w K mg base CX0 3 f fd ["_law_stream", "_law_people"] (spANeeds K) := by
  obtain ⟨fX, fdX, GX, kX, bX, gX⟩ := CX_.ex
  refine F.ok scANeeds (fun vs H Q E h => ?_) (fun cdv A outer s H vs Q E hr h => ?_)
  · obtain ⟨a, b, c, B, ns, rfl, _⟩ := h
    rfl
  · obtain ⟨a, b, c, B, ns, rfl, S, hc, hn, hB, k⟩ := h
    refine ⟨_, pss_one (ps_ret (pe_call GX (hr.mono (by decide)) rfl gX kX bX .nil pass0 (pa_cons (pv 0) (pa_cons (pv 1) pa_nil)))), ?_⟩
    refine ⟨_, rfl, _, rfl, a, b, c, B, _, rfl, S, .inl (SqL.of hc), by rw [List.length_map]; omega, hB, fun H' l ys S' kb nl hl pm => ?_⟩
    obtain ⟨zs, pz, rfl⟩ := perm_strs pm
    exact k H' l zs S' kb nl hl pz
theorem ok_aNotM {T : List (Addr × Str)} {f fI C0 CN : Addr} {fd fdI : FuncData} (F : Fun K "_law_a_notice_made" "_law_a_notice_made" sANotM f fd) (NC : NtC K CN) (NM : Mk K CN fI) (gN : mg "Notice" = some (.ref CN))
    (GI : FnOk P w K mg base (L2.CX P w) 4 fI fdI ["self", "rule", "market", "needs"] (spNt K T C0)) (bI : Binds K fdI ["self", "rule", "market", "needs"] [])
    (CM : Cl P w K mg base 8 "_law_a_made" ["_law_stream", "_law_people", "_law_wishes"] (spMade K T C0)) (CL : Cl P w K mg base 3 "_law_loose" ["_law_stream", "_law_thing"] (spLoose K 1)) : FnOk P w K mg base CX0 9 f fd ["_law_stream", "_law_notice"] (spANotM T C0 CN) := by
  obtain ⟨fM, fdM, GM, kM, bM, gM⟩ := CM.ex
  obtain ⟨fL, fdL, GL, kL, bL, gL⟩ := CL.ex
  refine F.ok scANotM (fun vs H Q E h => ?_) (fun cdv A outer s H vs Q E hr h => ?_)
  · obtain ⟨a, b, t, c, D, e, B, r, ns, rw_, as, zs, rfl, _⟩ := h
    rfl
  · obtain ⟨a, b, t, c, D, e, B, r, ns, rw_, as, zs, rfl, N, hB, k⟩ := h
    have nd := scANotM.nd
    refine ⟨_, pss_cons (ps_asg (pv 1) (pg_tup rfl (pgs_cons (pg_name (i := 2) nd rfl (Or.inl rfl)) (pgs_cons (pg_name (i := 3) nd rfl (Or.inl rfl)) (pgs_cons (pg_name (i := 4) nd rfl (Or.inl rfl)) (pgs_cons (pg_name (i := 5) nd rfl (Or.inl rfl)) pgs_nil))))))
      (pss_one (ps_ret (pe_make NM GI (hr.mono (by decide)) rfl gN bI .nil passE0 (pa_cons (pv 2) (pa_cons (pe_call GM hr rfl gM kM bM .nil pass0 (pa_cons (pv 0) (pa_cons (pv 3) (pa_cons (pv 4) pa_nil)))) (pa_cons (pe_call GL (hr.mono (by decide)) rfl gL kL bL .nil pass0 (pa_cons (pv 0) (pa_cons (pv 5) pa_nil))) pa_nil)))))), ?_⟩
    have gn := N.I.gn
    have gr := N.I.gr
    refine ⟨_, rfl, t, _, rfl, SqT.of N.ht, rfl, _, _, rfl, _, _, rfl, _, _, rfl, _, _, rfl, rfl, ?_⟩
    refine ⟨_, rfl, _, rfl, _, rfl, _, rfl, a, b, c, D, B, ns, rw_, as, rfl, N.I.S, N.I.T, N.I.ca, N.I.cb, N.I.c, N.I.R, gn, gr, by omega, fun H1 m ys u1 S1 nm M1 st1 => ?_⟩
    have e1 := u1.e _ _ N.ea N.eb N.he ntb_lst
    have lz : zs.length ≤ 63 := by
      have := N.pz.length_eq
      have := due_len (r := r) (ns := ns)
      have := gn.l
      omega
    refine ⟨_, rfl, _, rfl, a, b, _, _, rowT zs, rfl, S1, by omega, dat_row N.ea N.eb (.inl e1) (by omega), dep_row _, by decide, fun H2 x' S0 S2 kb2 ot fr => ?_⟩
    obtain ⟨p, rfl, hp, rfl⟩ := out_row ot
    have u2 : UpS T a b H1 H2 := .kb u1.t S1 kb2
    have M2 := st1 H2 fun q o n1 n2 e nt => u2.e q o n1 n2 e nt
    have st2 : MkSt C0 a b H2 m ns ys rw_ := fun H'' kk => st1 H'' fun q o n1 n2 e nt => kk q o n1 n2 (u2.e q o n1 n2 e nt) nt
    refine mk_nt NC u2.t N.hr M2 gn.l (nfOk gn N.pz hp) fun H3 x u3 nx o keep => ?_
    have u12 := u1.trans u2
    obtain ⟨xa, xb⟩ := S2.nd nx
    have nw : Nw H x := fun o e => by
      by_cases tb : ∃ ps, o = .tbl ps
      · exact tb
      · have := u12.e x o xa xb e (fun ps z => tb ⟨ps, z⟩)
        rw [nx] at this
        cases this
    have hzs : StrsOk zs := fun z hz => goodNm.ok (gn.g z (due_sub z (N.pz.mem_iff.mp hz)))
    obtain ⟨xs2, ha2⟩ := S2.ha
    obtain ⟨zs2, hb2⟩ := S2.hb
    refine k H3 x m ys (u12.trans (.up u3)) ((S2.ext u3.e).up (by omega)) nw fun H'' kk => ⟨keep H'' fun c o hc nt e => ?_, st2 H'' fun q o n1 n2 e nt => kk q o n1 n2 (u3.e _ _ e nt) nt, mkOk_of gn gr, hzs⟩
    have no : ∀ {q : Addr} {l : List V}, H2 q = some (.lst l) → c ≠ q := fun {q l} h z => by
      rcases hc with w | w
      · obtain ⟨ps, e⟩ := w _ (z ▸ h)
        cases e
      · rw [← z, w, nx] at h
        cases h
    exact kk c o (no ha2) (no hb2) e nt
end
end Mn
/-! _law_needs_due -/
namespace Mn
open PySem PySem.Spec PyProof.Rows L2 Md Me Ml LamX Mi Mo
abbrev sNDue : Stmt := top 48
def spNDue (K : PySem.W.Frag) : Sp := fun vs H Q _ => ∃ (r : Str) (c : Addr) (v : V) (ns : List Str), vs = [.str r, .ref c, v] ∧ H c = some (.lst (ns.map V.str)) ∧ ns.Nodup ∧ ns.length ≤ 63 ∧ StrsOk ns ∧
  ((NoSeq K H v ∧ ∀ H', Same H H' → Q (.int 0) H') ∨ ∃ (a : Addr) (xs : List V), v = .ref a ∧ Seq H a xs ∧ (∀ v ∈ xs, Itm K H v) ∧ xs.length ≤ 4000 ∧ ∀ H', Same H H' → Q (optI (nfI (dueNs r ns) xs)) H')
theorem same_un {H H' : Hp} {p : Addr} {o : HO} (n : H p = none) (s : Same H H') : Same H (upd H' p o) := fun b u e => by
  rw [upd_ne (ne_of_none e n)]
  exact s _ _ e
theorem filter_none {ds : List Str} : (ds.filter fun x => !decide (x ∈ ([] : List Str))) = ds := List.filter_eq_self.mpr fun x _ => by simp
theorem filter_more {ds seen : List Str} {x : Str} : (ds.filter fun y => !decide (y ∈ seen)).filter (fun y => !decide (y = x)) = ds.filter fun y => !decide (y ∈ x :: seen) := by
  rw [List.filter_filter]
  refine List.filter_congr fun y _ => ?_
  by_cases h1 : y = x
  · simp [h1]
  · by_cases h2 : y ∈ seen
    · simp [h1, h2]
    · simp [h1, h2]
theorem left_len {ds seen : List Str} (nd : ds.Nodup) (ns : seen.Nodup) (sub : ∀ x ∈ seen, x ∈ ds) : (ds.filter fun x => !decide (x ∈ seen)).length + seen.length = ds.length := by
  have h1 : (ds.filter fun x => decide (x ∈ seen)).length = seen.length := by
    apply Nat.le_antisymm
    · exact pigeon (nd.sublist List.filter_sublist) fun x hx => of_decide_eq_true (List.mem_filter.mp hx).2
    · exact pigeon ns fun x hx => List.mem_filter.mpr ⟨sub x hx, decide_eq_true hx⟩
  have h2 : ∀ l : List Str, (l.filter fun x => !decide (x ∈ seen)).length + (l.filter fun x => decide (x ∈ seen)).length = l.length := by
    intro l
    induction l with
    | nil => rfl
    | cons y l ih =>
      rw [List.filter_cons, List.filter_cons, List.length_cons]
      by_cases h : y ∈ seen
      · rw [decide_eq_true h]
        simp only [Bool.not_true, Bool.false_eq_true, if_false, if_true, List.length_cons]
        omega
      · rw [decide_eq_false h]
        simp only [Bool.not_false, Bool.false_eq_true, if_false, if_true, List.length_cons]
        omega
  have := h2 ds
  omega
section
variable {P : Program} {w : World} {K : PySem.W.Frag} {mg : Str → Option Value} {base : Heap}
theorem scNDue : FnScope ["_law_rule", "_law_people", "_law_needs", "_law_left", "_law_index", "_law_thing", "_law_one"] ["_law_rule", "_law_people", "_law_needs"] (defScope sNDue) := ⟨rfl, rfl, rfl, by decide +kernel, rfl, by decide +kernel, by decide +kernel⟩
theorem ok_nDue {f : Addr} {fd : FuncData} (F : Fun K "_law_needs_due" "_law_needs_due" sNDue f fd) (gIs : mg "isinstance" = none) (gList : mg "list" = none) (gTuple : mg "tuple" = none) (gStr : mg "str" = none) (gE : mg "enumerate" = none) (gLen : mg "len" = none) : FnOk P w K mg base CX0 1 f fd ["_law_rule", "_law_people", "_law_needs"] (spNDue K) := by
  refine F.ok scNDue (fun vs H Q E h => ?_) (fun cdv A outer s H vs Q E hr h => ?_)
  · obtain ⟨r, c, v, ns, rfl, _⟩ := h
    rfl
  · obtain ⟨r, c, v, ns, rfl, hc, hnd, hn, hok, h⟩ := h
    have nd := scNDue.nd
    have hu64 : A.units + 3 + 64 < cLine := by
      have := hr.un
      exact Nat.lt_of_le_of_lt (by show A.units + 3 + 64 ≤ A.units + 3 + 16 * 0 + 200; omega) this
    refine ⟨_, pss_cons (ps_if (pt_not (pt_val (pe_callB call_isiT (by rfl) gIs boot_isinstance (pa_cons (pv 2) (pa_cons (pe_tup (pa_cons (pe_bltn (v := .ty "list") rfl gList boot_list2 rfl) (pa_cons (pe_bltn (v := .ty "tuple") rfl gTuple boot_tuple2 rfl) pa_nil))) pa_nil))))) (pss_one (ps_ret pe_int)) pss_nil)
      (pss_cons (ps_set (i := 3) nd rfl (Or.inl rfl) (pe_ifExp (pt_cmpR op_eq (pv 0) pe_str (nomark _)) (pe_callTy call_list_of rfl gList boot_list (pa_cons (pv 1) pa_nil)) (pe_lst pa_nil)))
      (pss_cons (ps_for PassesOwn.never rfl (pi_enumA rfl gE (pa_cons (pv 2) pa_nil)) (pg_tup rfl (pgs_cons (pg_name (i := 4) nd rfl (Or.inl rfl)) (pgs_cons (pg_name (i := 5) nd rfl (Or.inr rfl)) pgs_nil)))
        (pss_cons (ps_if (PW.pt (pw_or (pt_not (pt_val (pe_callB call_isi (by rfl) gIs boot_isinstance (pa_cons (pv 5) (pa_cons (pe_bltn (v := .ty "str") rfl gStr boot_str2 rfl) pa_nil))))) (pw_or1 (pt_cmpR op_notIn_seq (pv 5) (pv 3) (by with_unfolding_all rfl))))) (pss_one (ps_ret (pv 4))) pss_nil)
        (pss_one (ps_setLc (i := 3) (own := [("_law_one", 6)]) (g := gName 6) (tt := tTest (tOp rNe (tVar 6) (tVar 5))) (te := tVar 6) rfl nd rfl rfl (sw_true rfl rfl rfl (by decide +kernel)) (pi_list (pv 3)) (blkOk_by (N := ["_law_rule", "_law_people", "_law_needs", "_law_left", "_law_index", "_law_thing", "_law_one"]) (sc := defScope sNDue) (by decide +kernel))
          (fun _ _ _ _ _ => pg_name (i := 6) nd rfl (Or.inl rfl)) (fun _ _ _ _ _ => pts_one (pt_cmpR op_ne (pv 6) (pv 5) (nomark _))) (fun _ _ _ _ _ => by exact pv 6)))))
      (pss_one (ps_ret (pe_ifExp (pt_cmpR (op_neD hu64) (pv 3) (pe_lst pa_nil) (nomark _)) (pe_callB call_len_seq (by rfl) gLen PySem.boot_len (pa_cons (pv 2) pa_nil)) pe_non))))), ?_⟩
    rcases h with ⟨hno, k⟩ | ⟨a, xs, rfl, hq, hx, hxn, k⟩
    · obtain ⟨ty, t0, e⟩ := hno
      exact ⟨_, rfl, (show 2 ≤ sizeLine by decide), fun p1 np1 => ⟨_, p1, _, ty, _, _, rfl, upd_same, .cons (.ty _) (.cons (.ty _) .nil), TyX.same (sameUp np1) t0, e, _, rfl, iteT (k _ (sameUp np1))⟩⟩
    · obtain ⟨ty, t0, e⟩ := hq.ty (K := K)
      refine ⟨_, rfl, (show 2 ≤ sizeLine by decide), fun p1 np1 => ⟨_, p1, _, ty, _, _, rfl, upd_same, .cons (.ty _) (.cons (.ty _) .nil), TyX.same (sameUp np1) t0, e, _, rfl, iteF ⟨_, rfl, rfl, _, rfl, ?_⟩⟩⟩
      have s1 := sameUp (o := .tup [.ty "list", .ty "tuple"]) np1
      have hc1 := s1 _ _ hc
      generalize upd H p1 (.tup [.ty "list", .ty "tuple"]) = H1 at s1 hc1 ⊢
      have ddn := due_nd (r := r) hnd
      have dok : StrsOk (dueNs r ns) := fun z hz => hok z (due_sub z hz)
      have dl : (dueNs r ns).length ≤ 63 := Nat.le_trans due_len hn
      rcases Decidable.em (r = "pairs") with er | er
      all_goals first
        | (rw [decide_eq_true (by rw [er])]
           refine iteT ⟨_, rfl, c, _, rfl, .inl (SqL.of hc1), fun l nl => ?_⟩
           have ed : dueNs r ns = ns := if_pos er
           have hl : upd H1 l (.lst (ns.map V.str)) l = some (.lst ((dueNs r ns).map V.str)) := by
             rw [ed]
             exact upd_same
           have s2 := sameUp (o := .lst (ns.map V.str)) nl
           generalize upd H1 l (.lst (ns.map V.str)) = H2 at hl s2 ⊢)
        | (rw [decide_eq_false (fun z => er (V.str.inj z))]
           refine iteF ⟨Nat.zero_le _, fun l nl => ?_⟩
           have ed : dueNs r ns = [] := if_neg er
           have hl : upd H1 l (.lst []) l = some (.lst ((dueNs r ns).map V.str)) := by
             rw [ed]
             exact upd_same
           have s2 := sameUp (o := .lst []) nl
           generalize upd H1 l (.lst []) = H2 at hl s2 ⊢)
      all_goals
        generalize hds : dueNs r ns = ds at k ddn dok dl hl
        have s12 := s1.trans s2
        have hq2 := hq.same s12
        have wk : ∃ (J : It) (GG : Hp → Prop), Walk J xs.length GG (YPair (fun i => some (.int (i : Nat))) fun i => xs[i]?) ∧ (∀ H', Same H2 H' → GG H') ∧ ((SqL K H2 a xs ∧ J = Ite K a) ∨ (SqT K H2 a xs ∧ J = ItT K a)) := by
          rcases hq2.sq (K := K) with hq | hq
          · exact ⟨Ite K a, fun H => SqL K H a xs, walk_enum, fun H' s => s.seq hq, .inl ⟨hq, rfl⟩⟩
          · exact ⟨ItT K a, fun H => SqT K H a xs, walk_enumT, fun H' s => seq_same s hq, .inr ⟨hq, rfl⟩⟩
        obtain ⟨J, GG, wJ, hGG, hR⟩ := wk
        refine ⟨_, rfl, a, xs, rfl, ?_⟩
        rcases hR with ⟨h1, rfl⟩ | ⟨h1, rfl⟩
        all_goals
          first | refine .inl ⟨h1, ?_⟩ | refine .inr ⟨h1, ?_⟩
          refine for_it wJ (fun i σ H' => ∃ (l' : Addr) (o4 o5 : Option V) (seen : List Str), σ = [some (.str r), some (.ref c), some (.ref a), some (.ref l'), o4, o5, none] ∧ Same H2 H' ∧ H' l' = some (.lst ((ds.filter fun x => !decide (x ∈ seen)).map V.str)) ∧
            seen.Nodup ∧ (∀ x ∈ seen, x ∈ ds) ∧ seen.length = i ∧ fwI (fun x => decide (x ∈ ds)) xs [] 0 = fwI (fun x => decide (x ∈ ds)) (xs.drop i) seen i) ?_ (fun i σ H' _ ⟨_, _, _, _, _, s, _⟩ => hGG H' s) ?_ ?_
          · exact ⟨l, _, _, [], rfl, Same.refl _, by rw [filter_none]; exact hl, List.nodup_nil, fun x h => by simp at h, rfl, rfl⟩
          · rintro i v σ H3 H4 hi ⟨l', o4, o5, seen, rfl, s3, hl3, sn, ss, sl, e3⟩ ⟨T, x1, y1, rfl, nT, rfl, e1, e2⟩
            have e1' : V.int (i : Int) = x1 := Option.some.inj e1
            subst e1'
            replace e2 : xs[i]? = some y1 := e2
            have sT := sameUp (o := .tup [V.int (i : Int), y1]) nT
            have ed : xs.drop i = y1 :: xs.drop (i + 1) := by
              obtain ⟨h1, h2⟩ := List.getElem?_eq_some_iff.mp e2
              rw [← h2]
              exact List.drop_eq_getElem_cons h1
            have hl4 := sT _ _ hl3
            have s4 := s3.trans sT
            have sH := s12.trans s4
            have ret : fwI (fun x => decide (x ∈ ds)) (y1 :: xs.drop (i + 1)) seen i = some i → Q (.int (i : Int)) (upd H3 T (.tup [V.int (i : Int), y1])) := fun z => by
              have q := k _ sH
              unfold nfI at q
              rw [e3, ed, z] at q
              exact q
            refine ⟨T, _, rfl, SqT.of upd_same, rfl, _, _, rfl, _, _, rfl, rfl, ?_⟩
            rcases hx y1 (List.mem_of_getElem? e2) with ⟨x, rfl, hxl⟩ | no
            · refine ⟨_, rfl, _, _, _, _, true, rfl, .ty _, .base (.str x), kit_strT, true, rfl, iteF ?_⟩
              refine ⟨_, rfl, _, rfl, l', _, rfl, .inl (SqL.of hl4), rfl, flat_strs _, _, rfl, ?_⟩
              rw [inV_strs]
              by_cases hin : x ∈ ds.filter fun x => !decide (x ∈ seen)
              · rw [decide_eq_true hin]
                obtain ⟨xd, xs'⟩ := List.mem_filter.mp hin
                have xs' : x ∉ seen := fun z => by
                  rw [decide_eq_true z] at xs'
                  cases xs'
                refine iteF ⟨_, rfl, l', rfl, ⟨_, SqL.of hl4⟩, fun D nD => ?_⟩
                refine lc_it (walk_list (xs := (ds.filter fun x => !decide (x ∈ seen)).map V.str)) (fun j H' => Same (upd H3 T (.tup [V.int (i : Int), V.str x])) H' ∧ H' D = some (.lst ((((ds.filter fun x => !decide (x ∈ seen)).take j).filter fun y => !decide (y = x)).map V.str))) ⟨sameUp nD, upd_same⟩ (fun j H' _ ⟨s, _⟩ => SqL.of (s _ _ hl4)) ?_ ?_
                · rintro j v H5 H6 hj ⟨s5, hD5⟩ ⟨rfl, hv⟩
                  rw [List.getElem?_map] at hv
                  obtain ⟨y, hy, rfl⟩ := Option.map_eq_some_iff.mp hv
                  refine ⟨rfl, _, rfl, _, rfl, rfl, _, rfl, ?_⟩
                  have et : ((ds.filter fun x => !decide (x ∈ seen)).take (j + 1)).filter (fun y => !decide (y = x)) = ((ds.filter fun x => !decide (x ∈ seen)).take j).filter (fun y => !decide (y = x)) ++ (if y = x then [] else [y]) := by
                    rw [List.take_add_one, hy, List.filter_append]
                    by_cases h : y = x
                    · simp [h]
                    · simp [h]
                  by_cases h : y = x
                  · rw [if_pos h, List.append_nil] at et
                    rw [decide_eq_true (by rw [h])]
                    refine iteF ⟨s5, ?_⟩
                    rw [et]
                    exact hD5
                  · rw [if_neg h] at et
                    rw [decide_eq_false (fun z => h (V.str.inj z))]
                    refine iteT ⟨_, rfl, _, hD5, small1000 ?_, same_un nD s5, ?_⟩
                    · rw [List.length_map]
                      have h1 := List.length_filter_le (fun y => !decide (y = x)) ((ds.filter fun x => !decide (x ∈ seen)).take j)
                      have h2 := List.length_take_le j (ds.filter fun x => !decide (x ∈ seen))
                      have h3 := List.length_filter_le (fun x => !decide (x ∈ seen)) ds
                      have h4 : ((ds.filter fun x => !decide (x ∈ seen)).take j).length ≤ (ds.filter fun x => !decide (x ∈ seen)).length := by
                        rw [List.length_take]
                        omega
                      omega
                    · rw [upd_same, et, List.map_append]
                      rfl
                · rintro H5 ⟨s5, hD5⟩
                  rw [List.length_map] at hD5
                  rw [List.take_length, filter_more] at hD5
                  refine ⟨D, _, _, x :: seen, rfl, s4.trans s5, hD5, List.nodup_cons.mpr ⟨xs', sn⟩, fun z hz => ?_, by rw [List.length_cons, sl], ?_⟩
                  · rcases List.mem_cons.mp hz with rfl | hz
                    · exact xd
                    · exact ss z hz
                  · rw [e3, ed]
                    show (if (decide (x ∈ seen) || !decide (x ∈ ds)) = true then some i else fwI (fun x => decide (x ∈ ds)) (xs.drop (i + 1)) (x :: seen) (i + 1)) = _
                    rw [decide_eq_false xs', decide_eq_true xd, if_neg (by decide)]
              · rw [decide_eq_false hin]
                refine iteT ⟨_, rfl, ret ?_⟩
                show (if (decide (x ∈ seen) || !decide (x ∈ ds)) = true then some i else _) = some i
                rw [if_pos]
                by_cases h1 : x ∈ seen
                · simp [h1]
                · by_cases h2 : x ∈ ds
                  · exact absurd (List.mem_filter.mpr ⟨h2, by simp [h1]⟩) hin
                  · simp [h2]
            · obtain ⟨t1, ty1, e1⟩ := no
              refine ⟨_, rfl, _, _, _, _, false, rfl, .ty _, TyX.same sH ty1, e1, false, rfl, iteT ⟨_, rfl, ret ?_⟩⟩
              exact fwI_no fun x z => NoStr.ne (K := K) (H := H) ⟨t1, ty1, e1⟩ x z
          · rintro σ H3 ⟨l', o4, o5, seen, rfl, s3, hl3, sn, ss, sl, e3⟩
            rw [List.drop_length] at e3
            have e3 : fwI (fun x => decide (x ∈ ds)) xs [] 0 = none := e3
            have ll := left_len ddn sn ss
            have lok : StrsOk (ds.filter fun x => !decide (x ∈ seen)) := fun z hz => dok z (List.mem_filter.mp hz).1
            refine ⟨_, rfl, Nat.zero_le _, fun q nq => ?_⟩
            have sq := sameUp (o := .lst []) nq
            refine ⟨_, _, .lst (SqL.of (sq _ _ hl3)) (dp_strs _), .lst (SqL.of upd_same) (dp_strs []), shaped_strs lok, shaped_strs (fun z hz => by simp at hz), _, rfl, ?_⟩
            rw [eqv_strs]
            have q := k _ (s12.trans (s3.trans sq))
            unfold nfI at q
            rw [e3] at q
            have q : Q (optI (if xs.length < ds.length then some xs.length else none)) _ := q
            by_cases hlt : xs.length < ds.length
            · rw [if_pos hlt] at q
              rw [decide_eq_false (fun z => by
                rw [z] at ll
                simp at ll
                omega)]
              exact iteT ⟨_, rfl, a, _, rfl, ((hq2.same s3).same sq).sq, q⟩
            · rw [if_neg hlt] at q
              rw [decide_eq_true (List.length_eq_zero_iff.mp (by omega))]
              exact iteF q
end
end Mn
/-! _law_a_notice -/
namespace Mn
open PySem PySem.Spec PyProof.Rows L2 Md Me Ml LamX Mi Mo
abbrev sANot : Stmt := top 38
/-- _law_a_mutual: rows by ties -/
def spMut (K : PySem.W.Frag) : Sp := fun vs H Q _ => ∃ (a b c : Addr) (B sh : Nat) (ns : List Str), vs = [.ref a, .ref c, .int (sh : Nat)] ∧ Stm H a b B ∧ c ≠ a ∧ c ≠ b ∧ H c = some (.lst (ns.map V.str)) ∧ ns.Nodup ∧ ns.length ≤ 63 ∧ sh ≤ 6 ∧ B + 200000 ≤ 1000000000000 ∧
  ∀ (H' : Hp) (D : Addr) (rw_ : Str → List Str) (bs : List Addr), Stm H' a b (B + 200000) → KeepBut a b H H' → RowsN H H' D ns rw_ bs → Q (.ref D) H'
def spANot (K : PySem.W.Frag) (T : List (Addr × Str)) : Sp := fun vs H Q _ => ∃ (a b : Addr) (B many : Nat), vs = [.ref a, .int (many : Nat)] ∧ Stm H a b B ∧ Tabs T H ∧ many ≤ 60 ∧ B + 300000 ≤ 1000000000 ∧
  ∀ (H' : Hp) (t c D e : Addr) (r : Str) (ns : List Str) (rw_ : Str → List Str) (as : List Addr) (zs : List Str), UpS T a b H H' → NIni T H' a b t c D e (B + 300000) r ns rw_ as zs → ns.length ≤ many → ("extra1" : Str) ∉ ns → Q (.ref t) H'
section
variable {P : Program} {w : World} {K : PySem.W.Frag} {mg : Str → Option Value} {base : Heap}
theorem scANot : FnScope ["_law_stream", "_law_many", "_law_rule", "_law_people", "_law_share", "_law_wishes"] ["_law_stream", "_law_many"] (defScope sANot) := ⟨rfl, rfl, rfl, by decide +kernel, rfl, by decide +kernel, by decide +kernel⟩
theorem ok_aNot {T : List (Addr × Str)} {f : Addr} {fd : FuncData} (F : Fun K "_law_a_notice" "_law_a_notice" sANot f fd) (CD : Cl P w K mg base 1 "_law_draw" ["_law_stream", "_law_many"] spDrawB) (CP : Cl P w K mg base 2 "_law_pick" ["_law_stream", "_law_some"] (spPick K))
    (CN : Cl P w K mg base 4 "_law_a_names" ["_law_stream", "_law_many"] (spNames K)) (CA : Cl P w K mg base 3 "_law_a_rows" ["_law_stream", "_law_people", "_law_most"] (spARows K)) (CM : Cl P w K mg base 4 "_law_a_mutual" ["_law_stream", "_law_people", "_law_share"] (spMut K)) (CE : Cl P w K mg base 3 "_law_a_needs" ["_law_stream", "_law_people"] (spANeeds K)) :
    FnOk P w K mg base CX0 5 f fd ["_law_stream", "_law_many"] (spANot K T) := by
  obtain ⟨fD, fdD, GD, kD, bD, gD⟩ := CD.ex
  obtain ⟨fP, fdP, GP, kP, bP, gP⟩ := CP.ex
  obtain ⟨fN, fdN, GN, kN, bN, gN⟩ := CN.ex
  obtain ⟨fA, fdA, GA, kA, bA, gA⟩ := CA.ex
  obtain ⟨fM, fdM, GM, kM, bM, gM⟩ := CM.ex
  obtain ⟨fE, fdE, GE, kE, bE, gE⟩ := CE.ex
  refine F.ok scANot (fun vs H Q E h => ?_) (fun cdv A outer s H vs Q E hr h => ?_)
  · obtain ⟨a, b, B, many, rfl, _⟩ := h
    rfl
  · obtain ⟨a, b, B, many, rfl, S, hT, hm, hB, k⟩ := h
    have nd := scANot.nd
    refine ⟨_, pss_cons (ps_par (i := 2) (j := 3) rfl nd rfl rfl (by decide) rfl rfl (pa_cons (pe_call GP (hr.mono (by decide)) rfl gP kP bP .nil pass0 (pa_cons (pv 0) (pa_cons (pe_lst (pa_cons pe_str (pa_cons pe_str (pa_cons pe_str pa_nil)))) pa_nil))) (pa_cons (pe_call GN hr rfl gN kN bN .nil pass0 (pa_cons (pv 0) (pa_cons (pe_call GD (hr.mono (by decide)) rfl gD kD bD .nil pass0 (pa_cons (pv 0) (pa_cons (pe_op op_add (pv 1) pe_int) pa_nil))) pa_nil))) pa_nil)) rfl)
      (pss_cons (ps_set (i := 4) nd rfl (Or.inl rfl) (pe_op op_add pe_int (pe_call GD (hr.mono (by decide)) rfl gD kD bD .nil pass0 (pa_cons (pv 0) (pa_cons pe_int pa_nil)))))
      (pss_cons (ps_set (i := 5) nd rfl (Or.inl rfl) (pe_ifExp (pt_cmpR op_eq (pv 2) pe_str (nomark _)) (pe_call GA (hr.mono (by decide)) rfl gA kA bA .nil pass0 (pa_cons (pv 0) (pa_cons (pv 3) (pa_cons pe_int pa_nil)))) (pe_call GM hr rfl gM kM bM .nil pass0 (pa_cons (pv 0) (pa_cons (pv 3) (pa_cons (pv 4) pa_nil))))))
      (pss_one (ps_ret (pe_tup (pa_cons (pv 2) (pa_cons (pv 3) (pa_cons (pv 5) (pa_cons (pe_ifExp (pt_cmpR op_eq (pv 2) pe_str (nomark _)) (pe_call GE (hr.mono (by decide)) rfl gE kE bE .nil pass0 (pa_cons (pv 0) (pa_cons (pv 3) pa_nil))) (pe_lst pa_nil)) pa_nil))))))))), ?_⟩
    refine ⟨_, rfl, (show 3 ≤ sizeLine by decide), fun p np => ?_⟩
    have sp := sameUp (o := .lst [.str "rings", .str "pairs", .str "shares"]) np
    obtain ⟨pa, pb⟩ := S.nd np
    refine ⟨a, b, p, B, _, rfl, S.ext (ExtN.of sp), by omega, pa, pb, upd_same, by decide, by decide, fun H1 x hx S1 kb1 => ?_⟩
    obtain ⟨r, rfl, hr1⟩ : ∃ r, x = .str r ∧ r ∈ rules := by
      simp only [List.mem_cons, List.not_mem_nil, or_false] at hx
      rcases hx with rfl | rfl | rfl
      · exact ⟨_, rfl, by decide⟩
      · exact ⟨_, rfl, by decide⟩
      · exact ⟨_, rfl, by decide⟩
    have kp : KeepBut a b H H1 := (KeepBut.same sp).trans kb1
    refine ⟨_, rfl, _, rfl, _, rfl, _, _, rfl, rfl, a, b, _, _, rfl, S1, by omega, by omega, by omega, fun H2 d d0 d1 S2 kb2 => ?_⟩
    obtain ⟨m, rfl⟩ := Int.eq_ofNat_of_zero_le d0
    refine ⟨a, b, _, m, rfl, S2, by omega, by omega, fun H3 c ns hl hnd hg nc hc S3 kb3 => ?_⟩
    obtain ⟨ca, cb⟩ := S2.nd nc
    have gn : GoodNs ns := ⟨hnd, fun n hn => goodNm2.good (hg n hn), by omega⟩
    have nx : ("extra1" : Str) ∉ ns := fun z => goodNm2.ne (hg _ z) rfl
    refine ⟨_, _, rfl, _, rfl, a, b, _, 4, rfl, S3, by omega, by decide, by decide, fun H4 d4 d40 d41 S4 kb4 => ?_⟩
    obtain ⟨sh, rfl⟩ := Int.eq_ofNat_of_zero_le d40
    have esh : (1 + (sh : Int)) = ((1 + sh : Nat) : Int) := by
      push_cast
      rfl
    refine ⟨_, _, rfl, rfl, ?_⟩
    have hc4 := kb4 c _ ca cb hc
    have k04 : KeepBut a b H H4 := ((kp.trans kb2).trans kb3).trans kb4
    have u4 : UpS T a b H H4 := .kb hT S k04
    refine ⟨_, rfl, rfl, _, rfl, ?_⟩
    rcases Decidable.em (r = "rings") with er | er
    all_goals first
      | (rw [decide_eq_true (by rw [er])]
         refine iteT ⟨_, rfl, _, rfl, a, b, c, _, 5, ns, rfl, S4, ca, cb, hc4, hnd, by omega, by decide, by omega, fun H5 D rw_ bs S5 kb5 R => ?_⟩)
      | (rw [decide_eq_false (fun z => er (V.str.inj z))]
         refine iteF ⟨_, rfl, _, rfl, _, rfl, a, b, c, _, 1 + sh, ns, congrArg (fun z => [V.ref a, V.ref c, V.int z]) esh, S4, ca, cb, hc4, hnd, by omega, by omega, by omega, fun H5 D rw_ bs S5 kb5 R => ?_⟩)
    all_goals
      have hc5 := kb5 c _ ca cb hc4
      have u5 : UpS T a b H H5 := u4.trans (.kb u4.t S4 kb5)
      have I5 : Ini T H5 a b c D _ ns rw_ bs := ⟨S5, u5.t, ca, cb, hc5, ⟨R.l, R.d, R.r, fun q hq => S4.nd (R.f q hq), S4.nd R.fD⟩, gn, R.g⟩
      refine ⟨_, rfl, _, rfl, _, rfl, _, rfl, rfl, _, rfl, ?_⟩
      by_cases ep : r = "pairs"
      · rw [decide_eq_true (by rw [ep])]
        refine iteT ⟨_, rfl, _, rfl, a, b, c, _, ns, rfl, S5, hc5, by omega, by omega, fun H6 e zs S6 kb6 ne he pz => ⟨(show 4 ≤ sizeLine by decide), fun t nt => ?_⟩⟩
        obtain ⟨ea, eb⟩ := S5.nd ne
        have u6 : UpS T a b H5 H6 := .kb u5.t S5 kb6
        have st := sameUp (o := .tup [.str r, .ref c, .ref D, .ref e]) nt
        have u7 : UpS T a b H5 _ := u6.trans (.same u6.t st)
        refine k _ t c D e r ns rw_ bs zs (u5.trans u7) ⟨I5.up u7 ((S6.ext (ExtN.of st)).up (by omega)), hr1, upd_same, st _ _ he, ea, eb, ?_⟩ (by omega) nx
        unfold dueNs
        rw [if_pos ep]
        exact pz
      · rw [decide_eq_false (fun z => ep (V.str.inj z))]
        refine iteF ⟨Nat.zero_le _, fun e ne => ⟨(show 4 ≤ sizeLine by decide), fun t nt => ?_⟩⟩
        obtain ⟨ea, eb⟩ := S5.nd ne
        have se := sameUp (o := .lst []) ne
        have st := se.trans (sameUp (o := .tup [.str r, .ref c, .ref D, .ref e]) nt)
        have u7 : UpS T a b H5 _ := .same u5.t st
        refine k _ t c D e r ns rw_ bs [] (u5.trans u7) ⟨I5.up u7 ((S5.ext (ExtN.of st)).up (by omega)), hr1, upd_same, (sameUp nt) _ _ upd_same, ea, eb, ?_⟩ (by omega) nx
        unfold dueNs
        rw [if_neg ep]
end
end Mn
/-! _law_a_mutual -/
namespace Mn
open PySem PySem.Spec PyProof.Rows L2 Md Me Ml LamX Mi Mo
abbrev sMut : Stmt := top 34
/-- rows by ties so far: A says whose names a row may hold -/
structure Mu (a b : Addr) (H0 H : Hp) (F : Addr) (ns : List Str) (ls : List Addr) (rows : List (List Str)) (A : Nat → Nat → Prop) : Prop where
  k : KeepBut a b H0 H
  d : H F = some (.dK ((ns.zip ls).map fun p => (Sum.inr p.1, V.ref p.2)))
  fF : H0 F = none
  ll : ls.length = ns.length
  lr : rows.length = ns.length
  c : ∀ (j : Nat) (l : Addr) (row : List Str), ls[j]? = some l → rows[j]? = some row → H l = some (.lst (row.map V.str))
  f : ∀ l ∈ ls, H0 l = none
  n : ls.Nodup
  g : ∀ (j : Nat) (row : List Str), rows[j]? = some row → row.Nodup ∧ ∀ x ∈ row, ∃ k, ns[k]? = some x ∧ k ≠ j ∧ A j k
theorem Mu.mono {a b : Addr} {H0 H : Hp} {F : Addr} {ns : List Str} {ls : List Addr} {rows : List (List Str)} {A A' : Nat → Nat → Prop} (M : Mu a b H0 H F ns ls rows A) (h : ∀ j k, A j k → A' j k) : Mu a b H0 H F ns ls rows A' :=
  ⟨M.k, M.d, M.fF, M.ll, M.lr, M.c, M.f, M.n, fun j row e => ⟨(M.g j row e).1, fun x hx => by
    obtain ⟨k, h1, h2, h3⟩ := (M.g j row e).2 x hx
    exact ⟨k, h1, h2, h _ _ h3⟩⟩⟩
theorem Mu.keep {a b : Addr} {H0 H H' : Hp} {F : Addr} {ns : List Str} {ls : List Addr} {rows : List (List Str)} {A : Nat → Nat → Prop} {B : Nat} (S0 : Stm H0 a b B) (M : Mu a b H0 H F ns ls rows A) (k : KeepBut a b H H') : Mu a b H0 H' F ns ls rows A := by
  have off : ∀ {q : Addr}, H0 q = none → q ≠ a ∧ q ≠ b := fun h => S0.nd h
  exact ⟨M.k.trans k, k _ _ (off M.fF).1 (off M.fF).2 M.d, M.fF, M.ll, M.lr, fun j l row h1 h2 => k _ _ (off (M.f l (List.mem_of_getElem? h1))).1 (off (M.f l (List.mem_of_getElem? h1))).2 (M.c j l row h1 h2), M.f, M.n, M.g⟩
theorem Mu.put {a b : Addr} {H0 H : Hp} {F W : Addr} {o : HO} {ns : List Str} {ls : List Addr} {rows : List (List Str)} {A : Nat → Nat → Prop} (M : Mu a b H0 H F ns ls rows A) (nW : H0 W = none) (FW : F ≠ W) (lW : ∀ l ∈ ls, l ≠ W) : Mu a b H0 (upd H W o) F ns ls rows A :=
  ⟨M.k.un nW, by rw [upd_ne FW]; exact M.d, M.fF, M.ll, M.lr, fun j l row h1 h2 => by rw [upd_ne (lW l (List.mem_of_getElem? h1))]; exact M.c j l row h1 h2, M.f, M.n, M.g⟩
/-- one name more in one row -/
theorem Mu.add {a b : Addr} {H0 H : Hp} {F : Addr} {ns : List Str} {ls : List Addr} {rows : List (List Str)} {A : Nat → Nat → Prop} {j k : Nat} {l : Addr} {row : List Str} {x : Str} (M : Mu a b H0 H F ns ls rows A) (nd : ns.Nodup) (hl : ls[j]? = some l) (hr : rows[j]? = some row) (hx : ns[k]? = some x) (jk : k ≠ j) (nA : ¬ A j k) :
    Mu a b H0 (upd H l (.lst (row.map V.str ++ [.str x]))) F ns ls (rows.set j (row ++ [x])) (fun p q => A p q ∨ (p = j ∧ q = k)) := by
  have hc := M.c j l row hl hr
  have hlm := M.f l (List.mem_of_getElem? hl)
  have Fl : F ≠ l := fun z => by
    have := M.d
    rw [z, hc] at this
    cases this
  have hjr : j < rows.length := lt_of_get hr
  refine ⟨M.k.un hlm, by rw [upd_ne Fl]; exact M.d, M.fF, M.ll, by rw [List.length_set]; exact M.lr, fun j' l' row' h1 h2 => ?_, M.f, M.n, fun j' row' h => ?_⟩
  · by_cases e : j' = j
    · subst e
      rw [hl] at h1
      obtain rfl := Option.some.inj h1
      rw [List.getElem?_set_self hjr] at h2
      obtain rfl := Option.some.inj h2
      rw [upd_same, List.map_append]
      rfl
    · rw [List.getElem?_set_ne (Ne.symm e)] at h2
      have ne : l' ≠ l := fun z => by
        subst z
        exact e ((List.getElem?_inj (lt_of_get h1) M.n).mp (h1.trans hl.symm))
      rw [upd_ne ne]
      exact M.c j' l' row' h1 h2
  · by_cases e : j' = j
    · subst e
      rw [List.getElem?_set_self hjr] at h
      obtain rfl := Option.some.inj h
      obtain ⟨g1, g2⟩ := M.g j' row hr
      refine ⟨?_, fun y hy => ?_⟩
      · rw [List.nodup_append]
        refine ⟨g1, by simp, fun y hy z hz e => ?_⟩
        obtain rfl : z = x := by simpa using hz
        obtain ⟨k', e1, e2, e3⟩ := g2 y hy
        rw [e] at e1
        have : k' = k := (List.getElem?_inj (lt_of_get e1) nd).mp (e1.trans hx.symm)
        exact nA (this ▸ e3)
      · rcases List.mem_append.mp hy with hy | hy
        · obtain ⟨k', e1, e2, e3⟩ := g2 y hy
          exact ⟨k', e1, e2, .inl e3⟩
        · obtain rfl : y = x := by simpa using hy
          exact ⟨k, hx, jk, .inr ⟨rfl, rfl⟩⟩
    · rw [List.getElem?_set_ne (Ne.symm e)] at h
      obtain ⟨g1, g2⟩ := M.g j' row' h
      exact ⟨g1, fun y hy => by
        obtain ⟨k', e1, e2, e3⟩ := g2 y hy
        exact ⟨k', e1, e2, .inl e3⟩⟩
theorem cut_fromN (xs : List V) (n : Nat) : cutV xs (some (n : Int)) none = xs.drop n := by
  show (xs.drop (HT.sIx xs.length 0 (some (n : Int)))).take (HT.sIx xs.length xs.length none - HT.sIx xs.length 0 (some (n : Int))) = xs.drop n
  rw [HT.sIx_nat, HT.sIx_none]
  rcases Nat.le_total n xs.length with h | h
  · rw [Nat.min_eq_left h]
    exact List.take_of_length_le (by rw [List.length_drop]; omega)
  · rw [Nat.min_eq_right h, Nat.sub_self, List.take_zero, List.drop_of_length_le h]
/-- which pairs were seen: the at-th with pos of those behind it -/
def Seen (at_ pos : Nat) : Nat → Nat → Prop := fun j k => min j k < at_ ∨ (min j k = at_ ∧ max j k < at_ + 1 + pos)
section
variable {P : Program} {w : World} {K : PySem.W.Frag} {mg : Str → Option Value} {base : Heap}
theorem scMut : FnScope ["_law_stream", "_law_people", "_law_share", "_law_found", "_law_person", "_law_at", "_law_one", "_law_other", "_law_way"] ["_law_stream", "_law_people", "_law_share"] (defScope sMut) := ⟨rfl, rfl, rfl, by decide +kernel, rfl, by decide +kernel, by decide +kernel⟩
theorem ok_mut {f : Addr} {fd : FuncData} (F : Fun K "_law_a_mutual" "_law_a_mutual" sMut f fd) (CD : Cl P w K mg base 1 "_law_draw" ["_law_stream", "_law_many"] spDrawB) (CX_ : Cl P w K mg base 2 "_law_mixed" ["_law_stream", "_law_some"] (spMixedB K)) (gDict : mg "dict" = none) (gE : mg "enumerate" = none) :
    FnOk P w K mg base CX0 4 f fd ["_law_stream", "_law_people", "_law_share"] (spMut K) := by
  obtain ⟨fD, fdD, GD, kD, bD, gD⟩ := CD.ex
  obtain ⟨fX, fdX, GX, kX, bX, gX⟩ := CX_.ex
  refine F.ok scMut (fun vs H Q E h => ?_) (fun cdv A outer s H vs Q E hr h => ?_)
  · obtain ⟨a, b, c, B, sh, ns, rfl, _⟩ := h
    rfl
  · obtain ⟨a, b, c, B, sh, ns, rfl, S, ca, cb, hc, hnd, hn, hsh, hB, k⟩ := h
    have nd := scMut.nd
    have hu := hu_of hr
    refine ⟨_, pss_cons (ps_set (i := 3) nd rfl (Or.inr rfl) (pe_callTy (call_dictP rfl) rfl gDict boot_dict2 (pa_cons (pe_lc (own := [("_law_person", 4)]) (g := gName 4) (tt := tYes) (te := tTup (tCons (tVar 4) (tCons (tLst tNil) tNil))) rfl nd (pi_list (pv 1)) (blkOk_by (N := ["_law_stream", "_law_people", "_law_share", "_law_found", "_law_person", "_law_at", "_law_one", "_law_other", "_law_way"]) (sc := defScope sMut) (by decide +kernel)) (fun _ _ _ _ _ => pg_name (i := 4) nd rfl (Or.inl rfl)) (fun _ _ _ _ _ => pts_nil) (fun _ _ _ _ _ => by exact pe_tup (pa_cons (pv 4) (pa_cons (pe_lst pa_nil) pa_nil)))) pa_nil)))
      (pss_cons (ps_for PassesOwn.never rfl (pi_enumA rfl gE (pa_cons (pv 1) pa_nil)) (pg_tup rfl (pgs_cons (pg_name (i := 5) nd rfl (Or.inl rfl)) (pgs_cons (pg_name (i := 6) nd rfl (Or.inl rfl)) pgs_nil)))
        (pss_one (ps_for PassesOwn.never rfl (pi_list (pe_slice sl_list (pv 1) (po_some (pe_op op_add (pv 5) pe_int)) po_none)) (pg_name (i := 7) nd rfl (Or.inl rfl))
          (pss_cons (ps_set (i := 8) nd rfl (Or.inl rfl) (pe_call GD (hr.mono (by decide)) rfl gD kD bD .nil pass0 (pa_cons (pv 0) (pa_cons pe_int pa_nil))))
          (C8.pss_cut (ps_if (PW.pt (pw_or (pt_cmpR op_lt (pv 8) (pe_op op_mul pe_int (pv 2)) (nomark _)) (pw_or1 (pt_cmpR op_eq (pv 8) pe_int (nomark _))))) (pss_one (ps_expr (pe_bm PySem.F.plainAttrs_list PySem.F.slot_list_append PySem.F.type_list_append mt_append (pe_dget hu (pv 3) (pv 6) (fun _ _ => rfl)) (pa_cons (pv 7) pa_nil)))) pss_nil)
          (pss_one (ps_if (PW.pt (pw_or (pt_cmpR op_lt (pv 8) (pe_op op_mul pe_int (pv 2)) (nomark _)) (pw_or1 (pt_cmpR op_eq (pv 8) pe_int (nomark _))))) (pss_one (ps_expr (pe_bm PySem.F.plainAttrs_list PySem.F.slot_list_append PySem.F.type_list_append mt_append (pe_dget hu (pv 3) (pv 7) (fun _ _ => rfl)) (pa_cons (pv 6) pa_nil)))) pss_nil)))))))
      (pss_one (ps_ret (pe_callTy (call_dictP rfl) rfl gDict boot_dict2 (pa_cons (pe_lc (own := [("_law_person", 4)]) (g := gName 4) (tt := tYes) (te := tTup (tCons (tVar 4) (tCons (tCall (spMixedB K) [] E0 (tCons (tVar 0) (tCons (tDGet (tVar 3) (tVar 4)) tNil))) tNil))) rfl nd (pi_list (pv 1)) (blkOk_by (N := ["_law_stream", "_law_people", "_law_share", "_law_found", "_law_person", "_law_at", "_law_one", "_law_other", "_law_way"]) (sc := defScope sMut) (by decide +kernel)) (fun _ _ _ _ _ => pg_name (i := 4) nd rfl (Or.inl rfl)) (fun _ _ _ _ _ => pts_nil)
          (fun _ _ _ _ _ => by exact pe_tup (pa_cons (pv 4) (pa_cons (pe_call GX (hr.mono (by decide)) rfl gX kX bX .nil pass0 (pa_cons (pv 0) (pa_cons (pe_dget hu (pv 3) (pv 4) (fun _ _ => rfl)) pa_nil))) pa_nil)))) pa_nil))))), ?_⟩
    -- empty rows
    refine ⟨_, rfl, c, rfl, ⟨_, SqL.of hc⟩, fun W nW => ?_⟩
    refine lc_it (walk_list (xs := ns.map V.str)) (fun i H' => Same H H' ∧ ∃ ts ls : List Addr, H' W = some (.lst (ts.map V.ref)) ∧ ts.length = i ∧ ls.length = i ∧ (∀ q ∈ ls, H q = none ∧ q ≠ W) ∧ ls.Nodup ∧
      ∀ (j : Nat) (n : Str) (t l : Addr), ns[j]? = some n → ts[j]? = some t → ls[j]? = some l → H' t = some (.tup [.str n, .ref l]) ∧ H' l = some (.lst [])) ⟨sameUp nW, [], [], upd_same, rfl, rfl, fun q h => by simp at h, List.nodup_nil, fun j n t q _ h2 => by simp at h2⟩ (fun i H' _ h => SqL.of (h.1 _ _ hc)) ?_ ?_
    · rintro i v H5 H6 hi ⟨s7, ts, ls, hW7, lt, lq, hls, lnd, htq⟩ ⟨rfl, hv⟩
      rw [List.length_map] at hi
      rw [List.getElem?_map] at hv
      obtain ⟨n, hnI, rfl⟩ := Option.map_eq_some_iff.mp hv
      refine ⟨rfl, _, rfl, Nat.zero_le _, fun l nl => ⟨(show 2 ≤ sizeLine by decide), fun t nt => ?_⟩⟩
      have sl := sameUp (o := .lst []) nl
      have sT := sameUp (o := .tup [.str n, .ref l]) nt
      have tW : t ≠ W := (ne_of_none (sl _ _ hW7) nt).symm
      have lW : l ≠ W := (ne_of_none hW7 nl).symm
      have lnew : l ∉ ls := fun z => by
        obtain ⟨j, hj⟩ := List.getElem?_of_mem z
        have hjl := lt_of_get hj
        obtain ⟨t', ht'⟩ : ∃ t', ts[j]? = some t' := ⟨ts[j]'(by omega), List.getElem?_eq_getElem _⟩
        obtain ⟨n', hn'⟩ : ∃ n', ns[j]? = some n' := ⟨ns[j]'(by omega), List.getElem?_eq_getElem _⟩
        have := (htq j n' t' l hn' ht' hj).2
        rw [nl] at this
        cases this
      refine ⟨_, sT _ _ (sl _ _ hW7), small1000 (by rw [List.length_map, lt]; omega), same_un nW ((s7.trans sl).trans sT), ts ++ [t], ls ++ [l], ?_, ?_, ?_, fun q hq => ?_, ?_, fun j n' t' q' h1 h2 h3 => ?_⟩
      · rw [upd_same, List.map_append]
        rfl
      · rw [List.length_append, lt]
        rfl
      · rw [List.length_append, lq]
        rfl
      · rcases List.mem_append.mp hq with hq | hq
        · exact hls q hq
        · obtain rfl : q = l := by simpa using hq
          exact ⟨s7.free nl, lW⟩
      · rw [List.nodup_append]
        exact ⟨lnd, by simp, fun y hy z hz e => by
          obtain rfl : z = l := by simpa using hz
          exact lnew (e ▸ hy)⟩
      · rcases snoc_get h2 with ⟨c2, h2⟩ | ⟨c2, rfl⟩
        · rcases snoc_get h3 with ⟨_, h3⟩ | ⟨c3, _⟩
          · obtain ⟨e1, e2⟩ := htq j n' t' q' h1 h2 h3
            refine ⟨?_, ?_⟩
            · rw [upd_ne (fun z => by rw [z, hW7] at e1; cases e1)]
              exact sT _ _ (sl _ _ e1)
            · rw [upd_ne (hls q' (List.mem_of_getElem? h3)).2]
              exact sT _ _ (sl _ _ e2)
          · omega
        · rcases snoc_get h3 with ⟨c3, _⟩ | ⟨_, rfl⟩
          · omega
          · have ej : j = i := by omega
            subst ej
            rw [hnI] at h1
            obtain rfl := Option.some.inj h1
            exact ⟨by rw [upd_ne tW]; exact upd_same, by rw [upd_ne lW]; exact sT _ _ upd_same⟩
    rintro H5 ⟨s7, ts, ls, hW7, lt, lq, hls, lnd, htq⟩
    rw [List.length_map] at lt lq
    refine ⟨W, ts, _, rfl, SqL.of hW7, zip_paired ns ts ls lt lq fun j n t q a1 a2 a3 => (htq j n t q a1 a2 a3).1, fun F0 nF => ?_⟩
    rw [mergeK_zip lq hnd]
    have s8 := sameUp (o := .dK ((ns.zip ls).map fun p => ((Sum.inr p.1 : Key), V.ref p.2))) nF
    have s58 := s7.trans s8
    have M0 : Mu a b H (upd H5 F0 (.dK ((ns.zip ls).map fun p => ((Sum.inr p.1 : Key), V.ref p.2)))) F0 ns ls (List.replicate ns.length []) (Seen 0 0) := by
      refine ⟨KeepBut.same s58, upd_same, s7.free nF, lq, by rw [List.length_replicate], fun j l row h1 h2 => ?_, fun q hq => (hls q hq).1, lnd, fun j row h => ?_⟩
      · have hj := lt_of_get h1
        obtain ⟨t, ht⟩ : ∃ t, ts[j]? = some t := ⟨ts[j]'(by omega), List.getElem?_eq_getElem _⟩
        obtain ⟨n, hn'⟩ : ∃ n, ns[j]? = some n := ⟨ns[j]'(by omega), List.getElem?_eq_getElem _⟩
        have e : row = [] := (List.mem_replicate.mp (List.mem_of_getElem? h2)).2
        rw [e]
        exact s8 _ _ (htq j n t l hn' ht h1).2
      · have e : row = [] := (List.mem_replicate.mp (List.mem_of_getElem? h)).2
        rw [e]
        exact ⟨List.nodup_nil, fun x hx => by simp at hx⟩
    have S8 := S.ext (ExtN.of s58)
    generalize upd H5 F0 (.dK ((ns.zip ls).map fun p => ((Sum.inr p.1 : Key), V.ref p.2))) = H8 at M0 S8 ⊢
    have hc8 : ∀ {H' : Hp} {rows : List (List Str)} {A : Nat → Nat → Prop}, Mu a b H H' F0 ns ls rows A → H' c = some (.lst (ns.map V.str)) := fun M => M.k c _ ca cb hc
    -- the pairs
    refine ⟨_, rfl, c, _, rfl, .inl ⟨SqL.of (hc8 M0), ?_⟩⟩
    refine for_it (walk_enum (xs := ns.map V.str)) (fun i σ H' => ∃ (rows : List (List Str)) (o5 o6 o7 o8 : Option V), σ = [some (.ref a), some (.ref c), some (.int (sh : Nat)), some (.ref F0), none, o5, o6, o7, o8] ∧ Mu a b H H' F0 ns ls rows (Seen i 0) ∧ Stm H' a b (B + 100 * i)) ⟨_, none, none, none, none, rfl, M0, by simpa using S8⟩ (fun i σ H' _ ⟨_, _, _, _, _, _, M, _⟩ => SqL.of (hc8 M)) ?_ ?_
    · rintro i v σ H9 H10 hi ⟨rows, o5, o6, o7, o8, rfl, M9, S9⟩ ⟨T, x1, y1, rfl, nT, rfl, e1, e2⟩
      have e1' : V.int (i : Int) = x1 := Option.some.inj e1
      subst e1'
      replace e2 : (ns.map V.str)[i]? = some y1 := e2
      rw [List.getElem?_map] at e2
      obtain ⟨one, h1, rfl⟩ := Option.map_eq_some_iff.mp e2
      have sT := sameUp (o := .tup [V.int (i : Int), .str one]) nT
      have M10 := M9.keep S (KeepBut.same sT)
      have S10 := S9.ext (ExtN.of sT)
      refine ⟨T, _, rfl, SqT.of upd_same, rfl, _, _, rfl, _, _, rfl, rfl, ?_⟩
      generalize upd H9 T (.tup [V.int (i : Int), .str one]) = H10 at M10 S10 ⊢
      refine ⟨_, rfl, _, rfl, _, _, rfl, rfl, _, rfl, c, _, rfl, SqL.of (hc8 M10), fun p np => ?_⟩
      have ec : cutV (ns.map V.str) (some ((i : Int) + 1)) none = (ns.drop (i + 1)).map V.str := by
        rw [show ((i : Int) + 1) = ((i + 1 : Nat) : Int) by push_cast; rfl, cut_fromN, List.map_drop]
      have sp := sameUp (o := .lst (cutV (ns.map V.str) (some ((i : Int) + 1)) none)) np
      have hp : upd H10 p (.lst (cutV (ns.map V.str) (some ((i : Int) + 1)) none)) p = some (.lst ((ns.drop (i + 1)).map V.str)) := by
        rw [upd_same, ec]
      obtain ⟨pa, pb⟩ := S10.nd np
      have ll := M10.ll
      have lp : ∀ q ∈ ls, q ≠ p := fun q hq z => by
        obtain ⟨j, hj⟩ := List.getElem?_of_mem hq
        have hjl := lt_of_get hj
        obtain ⟨row, hrow⟩ : ∃ row, rows[j]? = some row := ⟨rows[j]'(by have := M10.lr; omega), List.getElem?_eq_getElem _⟩
        have := M10.c j q row hj hrow
        rw [z, np] at this
        cases this
      have M11 := M10.keep S (KeepBut.same sp)
      have S11 := S10.ext (ExtN.of sp)
      refine ⟨p, rfl, ⟨_, SqL.of hp⟩, ?_⟩
      have iL : i < ns.length := lt_of_get h1
      refine for_it (walk_list (xs := (ns.drop (i + 1)).map V.str)) (fun j σ H' => ∃ (rows : List (List Str)) (o7 o8 : Option V), σ = [some (.ref a), some (.ref c), some (.int (sh : Nat)), some (.ref F0), none, some (.int (i : Int)), some (.str one), o7, o8] ∧ Mu a b H H' F0 ns ls rows (Seen i j) ∧ Stm H' a b (B + 100 * i + j) ∧ H' p = some (.lst ((ns.drop (i + 1)).map V.str)))
        ⟨rows, _, _, rfl, M11, S11, hp⟩ (fun j σ H' _ ⟨_, _, _, _, _, _, h⟩ => SqL.of h) ?_ ?_
      · rintro j v σ H12 H13 hj ⟨rows, o7, o8, rfl, M13, S13, hp13⟩ ⟨rfl, hv⟩
        rw [List.length_map, List.length_drop] at hj
        rw [List.getElem?_map] at hv
        obtain ⟨oth, h2, rfl⟩ := Option.map_eq_some_iff.mp hv
        rw [List.getElem?_drop] at h2
        refine ⟨_, rfl, a, b, _, 24, rfl, S13, by omega, by decide, by decide, fun H14 d d0 d1 S14 kb14 => ?_⟩
        have M14 := M13.keep S kb14
        have hp14 := kb14 p _ pa pb hp13
        obtain ⟨li, hli⟩ : ∃ l, ls[i]? = some l := ⟨ls[i]'(by omega), List.getElem?_eq_getElem _⟩
        obtain ⟨lo, hlo⟩ : ∃ l, ls[i + 1 + j]? = some l := ⟨ls[i + 1 + j]'(by omega), List.getElem?_eq_getElem _⟩
        have small : ∀ {H' : Hp} {rows : List (List Str)} {A : Nat → Nat → Prop} {j : Nat} {row : List Str}, Mu a b H H' F0 ns ls rows A → rows[j]? = some row → row.length < sizeLine := fun M h => by
          obtain ⟨g1, g2⟩ := M.g _ _ h
          have := pigeon g1 (l2 := ns) fun x hx => by
            obtain ⟨k, e, _⟩ := g2 x hx
            exact List.mem_of_getElem? e
          exact small1000 (by omega)
        -- the one's row
        refine ⟨fun σ H' => σ = [some (.ref a), some (.ref c), some (.int (sh : Nat)), some (.ref F0), none, some (.int (i : Int)), some (.str one), some (.str oth), some (.int d)] ∧ ∃ rows, Mu a b H H' F0 ns ls rows (fun p q => Seen i j p q ∨ (p = i ∧ q = i + 1 + j)) ∧ Stm H' a b (B + 100 * i + j + 1) ∧ H' p = some (.lst ((ns.drop (i + 1)).map V.str)), ?_, ?_⟩
        · have gi : DGet H14 F0 (.str one) (some (.ref li)) := by
            rw [← valV_zip M14.ll hnd h1 hli]
            exact DGet.k (k := Sum.inr one) M14.d
          obtain ⟨row, hrow⟩ : ∃ row, rows[i]? = some row := ⟨rows[i]'(by have := M14.lr; omega), List.getElem?_eq_getElem _⟩
          have hci := M14.c i li row hli hrow
          have nS : ¬ Seen i j i (i + 1 + j) := by
            unfold Seen
            omega
          have fin := M14.add (x := oth) hnd hli hrow h2 (by omega) nS
          have lia := S.nd (M14.f li (List.mem_of_getElem? hli))
          have finS : ∀ o, Stm (upd H14 li o) a b (B + 100 * i + j + 1) := fun o => S14.set lia.1 lia.2
          have finP : ∀ o, upd H14 li o p = some (.lst ((ns.drop (i + 1)).map V.str)) := fun o => by
            rw [upd_ne (lp li (List.mem_of_getElem? hli)).symm]
            exact hp14
          refine ⟨_, rfl, _, rfl, _, _, rfl, rfl, ?_, _, _, rfl, rfl, _, rfl, ite2 (fun _ => ?_) (fun _ => ⟨_, rfl, rfl, _, rfl, ite2 (fun _ => ?_) (fun _ => ?_)⟩)⟩
          · exact .inl ⟨by decide, by decide⟩
          all_goals first
            | exact ⟨rfl, rows, M14.mono (fun _ _ h => .inl h), S14, hp14⟩
            | exact ⟨_, rfl, _, rfl, F0, .ref li, rfl, gi, .inl ⟨rfl, _, SqL.of hci⟩, _, rfl, li, _, .str oth, rfl, rfl, hci, by rw [List.length_map]; exact small M14 hrow, rfl, _, fin, finS _, finP _⟩
        · rintro σ H15 ⟨rfl, rows, M15, S15, hp15⟩
          have gi : DGet H15 F0 (.str oth) (some (.ref lo)) := by
            rw [← valV_zip M15.ll hnd h2 hlo]
            exact DGet.k (k := Sum.inr oth) M15.d
          obtain ⟨row, hrow⟩ : ∃ row, rows[i + 1 + j]? = some row := ⟨rows[i + 1 + j]'(by have := M15.lr; omega), List.getElem?_eq_getElem _⟩
          have hci := M15.c (i + 1 + j) lo row hlo hrow
          have nS : ¬ (Seen i j (i + 1 + j) i ∨ (i + 1 + j = i ∧ i = i + 1 + j)) := by
            unfold Seen
            omega
          have more : ∀ p q, ((Seen i j p q ∨ (p = i ∧ q = i + 1 + j)) ∨ (p = i + 1 + j ∧ q = i)) → Seen i (j + 1) p q := fun p q h => by
            unfold Seen at h ⊢
            omega
          have fin := (M15.add (x := one) hnd hlo hrow h1 (by omega) nS).mono more
          have lia := S.nd (M15.f lo (List.mem_of_getElem? hlo))
          have finS : ∀ o, Stm (upd H15 lo o) a b (B + 100 * i + (j + 1)) := fun o => (S15.set lia.1 lia.2).up (by omega)
          have finP : ∀ o, upd H15 lo o p = some (.lst ((ns.drop (i + 1)).map V.str)) := fun o => by
            rw [upd_ne (lp lo (List.mem_of_getElem? hlo)).symm]
            exact hp15
          refine ⟨_, rfl, _, rfl, _, _, rfl, rfl, ?_, _, _, rfl, rfl, _, rfl, ite2 (fun _ => ?_) (fun _ => ⟨_, rfl, rfl, _, rfl, ite2 (fun _ => ?_) (fun _ => ?_)⟩)⟩
          · exact .inl ⟨by decide, by decide⟩
          all_goals first
            | exact ⟨rows, _, _, rfl, M15.mono (fun p q h => more p q (.inl h)), S15.up (by omega), hp15⟩
            | exact ⟨_, rfl, _, rfl, F0, .ref lo, rfl, gi, .inl ⟨rfl, _, SqL.of hci⟩, _, rfl, lo, _, .str one, rfl, rfl, hci, by rw [List.length_map]; exact small M15 hrow, _, _, _, rfl, fin, finS _, finP _⟩
      · rintro σ H12 ⟨rows, o7, o8, rfl, M12, S12, hp12⟩
        rw [List.length_map, List.length_drop] at M12 S12
        refine ⟨rows, _, _, _, _, rfl, ?_, S12.up (by omega)⟩
        -- a pair that both stand within the people was seen
        have M := M12
        refine ⟨M.k, M.d, M.fF, M.ll, M.lr, M.c, M.f, M.n, fun j row h => ⟨(M.g j row h).1, fun x hx => ?_⟩⟩
        obtain ⟨k, e, kj, A⟩ := (M.g j row h).2 x hx
        refine ⟨k, e, kj, ?_⟩
        unfold Seen at A ⊢
        omega
    · rintro σ H9 ⟨rows, o5, o6, o7, o8, rfl, M9, S9⟩
      rw [List.length_map] at M9 S9
      have ll := M9.ll
      have lr := M9.lr
      refine ⟨_, rfl, c, rfl, ⟨_, SqL.of (hc8 M9)⟩, fun W nW => ?_⟩
      obtain ⟨Wa, Wb⟩ := S9.nd nW
      have nWH : H W = none := kb_free M9.k S9.na.1 S9.na.2 nW
      have FW : F0 ≠ W := ne_of_none M9.d nW
      have lW : ∀ l ∈ ls, l ≠ W := fun l hl => by
        obtain ⟨j, hj⟩ := List.getElem?_of_mem hl
        have hjl := lt_of_get hj
        exact ne_of_none (M9.c j l _ hj (List.getElem?_eq_getElem (by omega))) nW
      refine lc_it (walk_list (xs := ns.map V.str)) (fun i H' => Mu a b H H' F0 ns ls rows (Seen ns.length 0) ∧ Stm H' a b (B + 100 * ns.length + 1000 * i) ∧ ∃ (ts qs : List Addr) (rws : List (List Str)), H' W = some (.lst (ts.map V.ref)) ∧ ts.length = i ∧ qs.length = i ∧ rws.length = i ∧ (∀ q ∈ qs, H q = none ∧ q ≠ W) ∧ qs.Nodup ∧
        ∀ (j : Nat) (n : Str) (t q : Addr) (r row : List Str), ns[j]? = some n → ts[j]? = some t → qs[j]? = some q → rws[j]? = some r → rows[j]? = some row → H' t = some (.tup [.str n, .ref q]) ∧ H' q = some (.lst (r.map V.str)) ∧ r.Perm row)
        ⟨M9.keep S (KeepBut.new nW), (S9.set Wa Wb).up (by omega), [], [], [], upd_same, rfl, rfl, rfl, fun q h => by simp at h, List.nodup_nil, fun j n t q r row _ h2 => by simp at h2⟩ (fun i H' _ h => SqL.of (hc8 h.1)) ?_ ?_
      · rintro i v H10 H11 hi ⟨M11, S11, ts, qs, rws, hW, lt, lq, lw, hqs, qnd, htq⟩ ⟨rfl, hv⟩
        rw [List.length_map] at hi
        rw [List.getElem?_map] at hv
        obtain ⟨n, hnI, rfl⟩ := Option.map_eq_some_iff.mp hv
        obtain ⟨l, hl⟩ : ∃ l, ls[i]? = some l := ⟨ls[i]'(by omega), List.getElem?_eq_getElem _⟩
        obtain ⟨row, hrow⟩ : ∃ row, rows[i]? = some row := ⟨rows[i]'(by omega), List.getElem?_eq_getElem _⟩
        have hcl := M11.c i l row hl hrow
        have gi : DGet H11 F0 (.str n) (some (.ref l)) := by
          rw [← valV_zip M11.ll hnd hnI hl]
          exact DGet.k (k := Sum.inr n) M11.d
        have rl : row.length ≤ 63 := by
          obtain ⟨g1, g2⟩ := M11.g i row hrow
          have := pigeon g1 (l2 := ns) fun x hx => by
            obtain ⟨k, e, _⟩ := g2 x hx
            exact List.mem_of_getElem? e
          omega
        refine ⟨rfl, _, rfl, _, rfl, _, rfl, _, rfl, F0, .ref l, rfl, gi, a, b, l, _, _, rfl, S11, .inl (SqL.of hcl), by rw [List.length_map]; omega, by omega, fun H12 q ys S12 kb12 nq hq pm => ⟨(show 2 ≤ sizeLine by decide), fun t nt => ?_⟩⟩
        obtain ⟨r, pr, rfl⟩ := perm_strs pm
        have hW12 := kb12 W _ Wa Wb hW
        have st := sameUp (o := .tup [.str n, .ref q]) nt
        have qW : q ≠ W := (ne_of_none hW nq).symm
        have tW : t ≠ W := (ne_of_none hW12 nt).symm
        have qH : H q = none := kb_free M11.k S11.na.1 S11.na.2 nq
        have qnew : q ∉ qs := fun z => by
          obtain ⟨j, hj⟩ := List.getElem?_of_mem z
          have hjl := lt_of_get hj
          have := (htq j _ _ q _ _ (List.getElem?_eq_getElem (by omega)) (List.getElem?_eq_getElem (by omega)) hj (List.getElem?_eq_getElem (by omega)) (List.getElem?_eq_getElem (by omega))).2.1
          rw [nq] at this
          cases this
        refine ⟨_, st _ _ hW12, small1000 (by rw [List.length_map, lt]; omega), ((M11.keep S kb12).keep S (KeepBut.same st)).put nWH FW lW, ((S12.ext (ExtN.of st)).set Wa Wb).up (by omega), ts ++ [t], qs ++ [q], rws ++ [r], ?_, ?_, ?_, ?_, fun q' hq' => ?_, ?_, fun j n' t' q' r' row' h1 h2 h3 h4 h5 => ?_⟩
        · rw [upd_same, List.map_append]
          rfl
        · rw [List.length_append, lt]
          rfl
        · rw [List.length_append, lq]
          rfl
        · rw [List.length_append, lw]
          rfl
        · rcases List.mem_append.mp hq' with h | h
          · exact hqs q' h
          · obtain rfl : q' = q := by simpa using h
            exact ⟨qH, qW⟩
        · rw [List.nodup_append]
          exact ⟨qnd, by simp, fun y hy z hz e => by
            obtain rfl : z = q := by simpa using hz
            exact qnew (e ▸ hy)⟩
        · rcases snoc_get h2 with ⟨c2, h2⟩ | ⟨c2, rfl⟩
          · rcases snoc_get h3 with ⟨_, h3⟩ | ⟨c3, _⟩
            · rcases snoc_get h4 with ⟨_, h4⟩ | ⟨c4, _⟩
              · obtain ⟨e1, e2, e3⟩ := htq j n' t' q' r' row' h1 h2 h3 h4 h5
                obtain ⟨ta, tb⟩ := S11.off e1 (fun xs z => by cases z)
                obtain ⟨qa, qb⟩ := S.nd (hqs q' (List.mem_of_getElem? h3)).1
                refine ⟨?_, ?_, e3⟩
                · rw [upd_ne (fun z => by rw [z, hW] at e1; cases e1)]
                  exact st _ _ (kb12 _ _ ta tb e1)
                · rw [upd_ne (hqs q' (List.mem_of_getElem? h3)).2]
                  exact st _ _ (kb12 _ _ qa qb e2)
              · omega
            · omega
          · rcases snoc_get h3 with ⟨c3, _⟩ | ⟨_, rfl⟩
            · omega
            · rcases snoc_get h4 with ⟨c4, _⟩ | ⟨_, rfl⟩
              · omega
              · have ej : j = i := by omega
                subst ej
                rw [hnI] at h1
                obtain rfl := Option.some.inj h1
                rw [hrow] at h5
                obtain rfl := Option.some.inj h5
                exact ⟨by rw [upd_ne tW]; exact upd_same, by rw [upd_ne qW]; exact st _ _ hq, pr⟩
      · rintro H10 ⟨M10, S10, ts, qs, rws, hW, lt, lq, lw, hqs, qnd, htq⟩
        rw [List.length_map] at lt lq lw S10
        refine ⟨W, ts, _, rfl, SqL.of hW, zip_paired ns ts qs lt lq fun j n t q a1 a2 a3 => ?_, fun D nD => ?_⟩
        · have hj := lt_of_get a1
          exact (htq j n t q _ _ a1 a2 a3 (List.getElem?_eq_getElem (by omega)) (List.getElem?_eq_getElem (by omega))).1
        rw [mergeK_zip lq hnd]
        have sD := sameUp (o := .dK ((ns.zip qs).map fun p => ((Sum.inr p.1 : Key), V.ref p.2))) nD
        have at_ : ∀ {j : Nat} {n : Str}, ns[j]? = some n → ∃ r row, rws[j]? = some r ∧ rows[j]? = some row ∧ r.Perm row ∧ rwOf ns rws n = r := fun {j n} h => by
          have hj := lt_of_get h
          have e4 : rws[j]? = some (rws[j]'(by omega)) := List.getElem?_eq_getElem _
          have e5 : rows[j]? = some (rows[j]'(by omega)) := List.getElem?_eq_getElem _
          exact ⟨_, _, e4, e5, (htq j n _ _ _ _ h (List.getElem?_eq_getElem (by omega)) (List.getElem?_eq_getElem (by omega)) e4 e5).2.2, rwOf_at hnd h e4⟩
        refine k _ D (rwOf ns rws) qs ((S10.ext (ExtN.of sD)).up (by omega)) (M10.k.trans (KeepBut.same sD)) ⟨⟨lq, upd_same, fun j n q h1 h3 => ?_, kb_free M10.k S10.na.1 S10.na.2 nD, fun q hq => (hqs q hq).1, qnd⟩, fun n hn' => ?_⟩
        · obtain ⟨r, row, e4, e5, pr, er⟩ := at_ h1
          rw [er]
          exact sD _ _ (htq j n _ q r row h1 (List.getElem?_eq_getElem (by have := lt_of_get h1; omega)) h3 e4 e5).2.1
        · obtain ⟨j, hj⟩ := List.getElem?_of_mem hn'
          obtain ⟨r, row, e4, e5, pr, er⟩ := at_ hj
          obtain ⟨g1, g2⟩ := M10.g j row e5
          rw [er]
          refine ⟨pr.nodup_iff.mpr g1, fun z => ?_, fun x hx => ?_⟩
          · obtain ⟨k', e1, e2, _⟩ := g2 n (pr.mem_iff.mp z)
            exact e2 ((List.getElem?_inj (lt_of_get e1) hnd).mp (e1.trans hj.symm))
          · obtain ⟨k', e1, _⟩ := g2 x (pr.mem_iff.mp hx)
            exact List.mem_of_getElem? e1
end
end Mn
/-! _law_odd_needs -/
namespace Mn
open PySem PySem.Spec PyProof.Rows L2 Md Me Ml LamX Mi Mo
abbrev sOdd : Stmt := top 50
/-- what stands in an odd list of needs -/
inductive ItE (a b : Addr) (H : Hp) : V → Prop
  | non : ItE a b H .non
  | int (i : Int) : ItE a b H (.int i)
  | bl (y : Bool) : ItE a b H (.bl y)
  | str {x : Str} (h : x.length ≤ sizeLine) : ItE a b H (.str x)
  | row {p : Addr} {ss : List Str} (h : H p = some (.lst (ss.map V.str))) (hn : ss.length ≤ 100) (hp : p ≠ a ∧ p ≠ b) : ItE a b H (.ref p)
  | dic {p : Addr} (h : H p = some (.dK [])) : ItE a b H (.ref p)
/-- an odd thing for needs -/
inductive OddE (a b : Addr) (H : Hp) : V → Prop
  | non : OddE a b H .non
  | int (i : Int) : OddE a b H (.int i)
  | bl (y : Bool) : OddE a b H (.bl y)
  | str (x : Str) : OddE a b H (.str x)
  | dic {p : Addr} {kvs : List (Key × V)} (h : H p = some (.dK kvs)) : OddE a b H (.ref p)
  | lst {q : Addr} {xs : List V} (h : H q = some (.lst xs)) (hn : xs.length ≤ 200) (hx : ∀ v ∈ xs, ItE a b H v) (hq : q ≠ a ∧ q ≠ b) : OddE a b H (.ref q)
def KL (L : Addr) (H H' : Hp) : Prop := ∀ b o, b ≠ L → H b = some o → H' b = some o
theorem KL.of {L : Addr} {H H' : Hp} (s : Same H H') : KL L H H' := fun b o _ e => s b o e
theorem KL.trans {L : Addr} {H H1 H2 : Hp} (a : KL L H H1) (b : KL L H1 H2) : KL L H H2 := fun c o n e => b c o n (a c o n e)
theorem KL.set {L : Addr} {H : Hp} {o : HO} : KL L H (upd H L o) := fun c u n e => by
  rw [upd_ne n]
  exact e
theorem KL.back {L : Addr} {H H1 H' : Hp} (n : H L = none) (s : Same H H1) (k : KL L H1 H') : Same H H' := fun b o e => k b o (ne_of_none e n) (s b o e)
theorem ItE.same {a b : Addr} {H H' : Hp} {v : V} (s : Same H H') (h : ItE a b H v) : ItE a b H' v := by
  cases h with
  | non => exact .non
  | int i => exact .int i
  | bl b => exact .bl b
  | str h => exact .str h
  | row h hn hp => exact .row (s _ _ h) hn hp
  | dic h => exact .dic (s _ _ h)
theorem OddE.same {a b : Addr} {H H' : Hp} {v : V} (s : Same H H') (h : OddE a b H v) : OddE a b H' v := by
  cases h with
  | non => exact .non
  | int i => exact .int i
  | bl b => exact .bl b
  | str x => exact .str x
  | dic h => exact .dic (s _ _ h)
  | lst h hn hx hq => exact .lst (s _ _ h) hn (fun v hv => (hx v hv).same s) hq
theorem it_strs {a b : Addr} {H : Hp} {ns : List Str} (h : ∀ n ∈ ns, n.length ≤ sizeLine) : ∀ v ∈ ns.map V.str, ItE a b H v := fun v hv => by
  obtain ⟨n, hn, rfl⟩ := List.mem_map.mp hv
  exact .str (h n hn)
theorem it_app {a b : Addr} {H : Hp} {xs ys : List V} (h1 : ∀ v ∈ xs, ItE a b H v) (h2 : ∀ v ∈ ys, ItE a b H v) : ∀ v ∈ xs ++ ys, ItE a b H v := fun v hv => (List.mem_append.mp hv).elim (h1 v) (h2 v)
theorem it_one {a b : Addr} {H : Hp} {v : V} (h : ItE a b H v) : ∀ u ∈ [v], ItE a b H u := fun u hu => by
  obtain rfl : u = v := by simpa using hu
  exact h
theorem it_sub {a b : Addr} {H : Hp} {xs ys : List V} (h : ∀ v ∈ xs, ItE a b H v) (s : ∀ v ∈ ys, v ∈ xs) : ∀ v ∈ ys, ItE a b H v := fun v hv => h v (s v hv)
theorem cut_toN (xs : List V) (n : Nat) : cutV xs none (some (n : Int)) = xs.take n := by
  show (xs.drop (HT.sIx xs.length 0 none)).take (HT.sIx xs.length xs.length (some (n : Int)) - HT.sIx xs.length 0 none) = xs.take n
  rw [HT.sIx_nat, HT.sIx_none, List.drop_zero, Nat.sub_zero]
  rcases Nat.le_total n xs.length with h | h
  · rw [Nat.min_eq_left h]
  · rw [Nat.min_eq_right h, List.take_of_length_le (Nat.le_refl _), List.take_of_length_le h]
theorem cut_fromM (xs : List V) (n : Nat) : cutV xs (some (n : Int)) none = xs.drop n := cut_fromN xs n
theorem paired_ones {K : PySem.W.Frag} {H : Hp} : ∀ (zs : List Str) (ts : List Addr), ts.length = zs.length → (∀ (j : Nat) (n : Str) (t : Addr), zs[j]? = some n → ts[j]? = some t → H t = some (.tup [.str n, .int 1])) → Paired (fun p kv => SqT K H p [kV kv.1, kv.2]) ts (zs.map fun z => ((Sum.inr z : Key), V.int 1))
  | [], ts, h1, _ => by
    obtain rfl := List.length_eq_zero_iff.mp h1
    exact .nil
  | z :: zs, [], h1, _ => by cases h1
  | z :: zs, t :: ts, h1, h3 => .cons (SqT.of (h3 0 z t rfl rfl)) (paired_ones zs ts (by simpa using h1) fun j n t a1 a2 => h3 (j + 1) n t (by simpa using a1) (by simpa using a2))
theorem len200 {n : Nat} (h : n ≤ 200) : n ≤ sizeLine := Nat.le_trans h (by decide)
def spOdd : Sp := fun vs H Q _ => ∃ (a b c e : Addr) (B : Nat) (ns zs : List Str), vs = [.ref a, .ref c, .ref e] ∧ Stm H a b B ∧ c ≠ a ∧ c ≠ b ∧ e ≠ a ∧ e ≠ b ∧ H c = some (.lst (ns.map V.str)) ∧ H e = some (.lst (zs.map V.str)) ∧ ns.length ≤ 60 ∧ zs.length ≤ 60 ∧ zs.Nodup ∧ (∀ n ∈ ns, n.length ≤ sizeLine) ∧ (∀ n ∈ zs, n.length ≤ sizeLine) ∧ B < 1000000000000 ∧
  ∀ (H' : Hp) (l : Addr) (xs : List V), KeepBut a b H H' → Stm H' a b (B + 1) → H l = none → H' l = some (.lst xs) → xs.length ≤ 100 → (∀ v ∈ xs, OddE a b H' v) → Q (.ref l) H'
section
variable {P : Program} {w : World} {K : PySem.W.Frag} {mg : Str → Option Value} {base : Heap}
theorem scOdd : FnScope ["_law_stream", "_law_people", "_law_needs", "_law_at", "_law_found", "_law_odd", "_law_one"] ["_law_stream", "_law_people", "_law_needs"] (defScope sOdd) := ⟨rfl, rfl, rfl, by decide +kernel, rfl, by decide +kernel, by decide +kernel⟩
theorem ok_odd {f : Addr} {fd : FuncData} (F : Fun K "_law_odd_needs" "_law_odd_needs" sOdd f fd) (CD : Cl P w K mg base 1 "_law_draw" ["_law_stream", "_law_many"] spDrawB) (gLen : mg "len" = none) (gDict : mg "dict" = none) : FnOk P w K mg base CX0 2 f fd ["_law_stream", "_law_people", "_law_needs"] spOdd := by
  obtain ⟨fD, fdD, GD, kD, bD, gD⟩ := CD.ex
  refine F.ok scOdd (fun vs H Q E h => ?_) (fun cdv A outer s H vs Q E hr h => ?_)
  · obtain ⟨a, b, c, e, B, ns, zs, rfl, _⟩ := h
    rfl
  · obtain ⟨a, b, c, e, B, ns, zs, rfl, S, ca, cb, ea, eb, hc, he, hn, hz, hnd, ln, lz, hB, k⟩ := h
    have nd := scOdd.nd
    refine ⟨_, pss_cons (ps_set (i := 3) nd rfl (Or.inl rfl) (pe_call GD (hr.mono (by decide)) rfl gD kD bD .nil pass0 (pa_cons (pv 0) (pa_cons (pe_op op_add (pe_callB call_len_seq (by rfl) gLen PySem.boot_len (pa_cons (pv 2) pa_nil)) pe_int) pa_nil))))
      (pss_cons (ps_set (i := 4) nd rfl (Or.inl rfl) (pe_lst (pa_cons pe_non (pa_cons pe_int (pa_cons pe_str (pa_cons pe_bl (pa_cons pe_dnewK (pa_cons (pe_slice sl_list (pv 2) po_none (po_some (pe_un un_neg pe_int))) (pa_cons (pe_op op_cat (pv 2) (pe_lst (pa_cons pe_str pa_nil))) (pa_cons (pe_op op_cat (pv 2) (pv 2)) (pa_cons (pv 1) (pa_cons (pe_revL (pv 1)) (pa_cons (pe_lst (pa_cons pe_non pa_nil)) pa_nil)))))))))))))
      (pss_cons (ps_for PassesOwn.never rfl (pi_tup (pe_tup (pa_cons pe_non (pa_cons pe_int (pa_cons pe_str (pa_cons pe_str (pa_cons (pe_lst (pa_cons pe_str pa_nil)) (pa_cons pe_bl (pa_cons pe_dnewK pa_nil))))))))) (pg_name (i := 5) nd rfl (Or.inl rfl)) (pss_one (ps_expr (pe_bm PySem.F.plainAttrs_list PySem.F.slot_list_append PySem.F.type_list_append mt_append (pv 4) (pa_cons (pe_op op_cat (pe_op op_cat (pe_slice sl_list (pv 2) po_none (po_some (pv 3))) (pe_lst (pa_cons (pv 5) pa_nil))) (pe_slice sl_list (pv 2) (po_some (pv 3)) po_none)) pa_nil)))))
      (pss_cons (ps_expr (pe_bm PySem.F.plainAttrs_list PySem.F.slot_list_extend PySem.F.type_list_extend mt_extend (pv 4) (pa_cons (pe_lst (pa_cons (pe_op op_cat (pe_slice sl_list (pv 2) po_none (po_some (pv 3))) (pe_slice sl_list (pv 2) (po_some (pe_op op_add (pv 3) pe_int)) po_none)) (pa_cons (pe_op op_cat (pe_op op_cat (pe_slice sl_list (pv 2) po_none (po_some (pv 3))) (pe_slice sl_list (pv 2) po_none (po_some pe_int))) (pe_slice sl_list (pv 2) (po_some (pv 3)) po_none)) (pa_cons (pe_lst (pa_cons (pe_lst pa_nil) pa_nil)) pa_nil)))) pa_nil)))
      (pss_one (ps_ret (pe_op op_cat (pv 4) (pe_lst (pa_cons (pe_callTy (call_dictP rfl) rfl gDict boot_dict2 (pa_cons (pe_lc (own := [("_law_one", 6)]) (g := gName 6) (tt := tYes) (te := tTup (tCons (tVar 6) (tCons (tC (.int 1)) tNil))) rfl nd (pi_list (pv 2)) (blkOk_by (N := ["_law_stream", "_law_people", "_law_needs", "_law_at", "_law_found", "_law_odd", "_law_one"]) (sc := defScope sOdd) (by decide +kernel)) (fun _ _ _ _ _ => pg_name (i := 6) nd rfl (Or.inl rfl)) (fun _ _ _ _ _ => pts_nil) (fun _ _ _ _ _ => by exact pe_tup (pa_cons (pv 6) (pa_cons pe_int pa_nil)))) pa_nil)) pa_nil)))))))), ?_⟩
    refine ⟨_, rfl, _, rfl, e, _, rfl, .inl (SqL.of he), _, _, rfl, rfl, a, b, B, _, rfl, S, hB, by omega, by rw [List.length_map]; omega, fun H1 d d0 d1 S1 kb1 => ?_⟩
    obtain ⟨at_, rfl⟩ := Int.eq_ofNat_of_zero_le d0
    have hc1 := kb1 c _ ca cb hc
    have he1 := kb1 e _ ea eb he
    have lzs : (zs.map V.str).length ≤ 60 := by rw [List.length_map]; exact hz
    have lns : (ns.map V.str).length ≤ 60 := by rw [List.length_map]; exact hn
    -- eleven things
    refine fun p1 m1 => ?_
    have s1 := sameUp (o := .dK []) m1
    refine ⟨_, rfl, _, rfl, _, rfl, e, _, rfl, SqL.of (s1 _ _ he1), fun p2 m2 => ?_⟩
    rw [cut_last]
    have s2 := sameUp (o := .lst (zs.map V.str).dropLast) m2
    refine ⟨_, rfl, (show 1 ≤ sizeLine by decide), fun p3 m3 => ?_⟩
    have s3 := sameUp (o := .lst [.str "nobody"]) m3
    refine ⟨e, p3, _, _, rfl, rfl, s3 _ _ (s2 _ _ (s1 _ _ he1)), upd_same, len200 (show (zs.map V.str).length + 1 ≤ 200 by omega), fun p4 m4 => ?_⟩
    have s4 := sameUp (o := .lst (zs.map V.str ++ [.str "nobody"])) m4
    have s14 := ((s1.trans s2).trans s3).trans s4
    refine ⟨_, rfl, _, rfl, e, e, _, _, rfl, rfl, s14 _ _ he1, s14 _ _ he1, len200 (by omega), fun p5 m5 => ?_⟩
    have s5 := sameUp (o := .lst (zs.map V.str ++ zs.map V.str)) m5
    refine ⟨_, rfl, _, rfl, c, _, rfl, SqL.of (s5 _ _ (s14 _ _ hc1)), fun p6 m6 => ?_⟩
    have s6 := sameUp (o := .lst (ns.map V.str).reverse) m6
    refine ⟨(show 1 ≤ sizeLine by decide), fun p7 m7 => ⟨(show 11 ≤ sizeLine by decide), fun L nL => ?_⟩⟩
    have s7 := sameUp (o := .lst [.non]) m7
    have s27 := ((((s2.trans s3).trans s4).trans s5).trans s6).trans s7
    have s37 := (((s3.trans s4).trans s5).trans s6).trans s7
    have s57 := (s5.trans s6).trans s7
    have s67 := s6.trans s7
    have s17 := s1.trans s27
    have k2 := S1.nd (s1.free m2)
    have k4 := S1.nd (((s1.trans s2).trans s3).free m4)
    have k5 := S1.nd (s14.free m5)
    have k6 := S1.nd ((s14.trans s5).free m6)
    have k7 := S1.nd (((s14.trans s5).trans s6).free m7)
    have f1 := s27 _ _ (upd_same (a := p1) (o := HO.dK []) (H := H1))
    have f2 := s37 _ _ (upd_same (a := p2) (o := HO.lst (zs.map V.str).dropLast))
    have f4 := s57 _ _ (upd_same (a := p4) (o := HO.lst (zs.map V.str ++ [.str "nobody"])))
    have f5 := s67 _ _ (upd_same (a := p5) (o := HO.lst (zs.map V.str ++ zs.map V.str)))
    have f6 := s7 _ _ (upd_same (a := p6) (o := HO.lst (ns.map V.str).reverse))
    have hc7 := s17 _ _ hc1
    have he7 := s17 _ _ he1
    have f7 : upd (upd (upd (upd (upd (upd (upd H1 p1 (.dK [])) p2 (.lst (zs.map V.str).dropLast)) p3 (.lst [.str "nobody"])) p4 (.lst (zs.map V.str ++ [.str "nobody"]))) p5 (.lst (zs.map V.str ++ zs.map V.str))) p6 (.lst (ns.map V.str).reverse)) p7 (.lst [.non]) p7 = some (.lst [.non]) := upd_same
    generalize upd (upd (upd (upd (upd (upd (upd H1 p1 (.dK [])) p2 (.lst (zs.map V.str).dropLast)) p3 (.lst [.str "nobody"])) p4 (.lst (zs.map V.str ++ [.str "nobody"]))) p5 (.lst (zs.map V.str ++ zs.map V.str))) p6 (.lst (ns.map V.str).reverse)) p7 (.lst [.non]) = G7 at nL s17 f1 f2 f4 f5 f6 f7 hc7 he7 ⊢
    have jz : ∀ {H' : Hp}, ∀ v ∈ zs.map V.str, ItE a b H' v := fun {H'} => it_strs lz
    have jn : ∀ {H' : Hp}, ∀ v ∈ ns.map V.str, ItE a b H' v := fun {H'} => it_strs ln
    have lnob : ("nobody" : Str).length ≤ sizeLine := Nat.le_trans (show ("nobody" : Str).length ≤ 6 by decide +kernel) (by decide)
    have all11 : ∀ v ∈ ([.non, .int 5, .str "ann", .bl true, .ref p1, .ref p2, .ref p4, .ref p5, .ref c, .ref p6, .ref p7] : List V), OddE a b G7 v := by
      intro v hv
      simp only [List.mem_cons, List.not_mem_nil, or_false] at hv
      rcases hv with rfl | rfl | rfl | rfl | rfl | rfl | rfl | rfl | rfl | rfl | rfl
      · exact .non
      · exact .int _
      · exact .str _
      · exact .bl _
      · exact .dic f1
      · exact .lst f2 (by rw [List.length_dropLast]; omega) (it_sub jz fun v h => (List.dropLast_sublist _).subset h) k2
      · exact .lst f4 (show (zs.map V.str ++ [V.str "nobody"]).length ≤ 200 by rw [List.length_append]; show (zs.map V.str).length + 1 ≤ 200; omega) (it_app jz (it_one (.str lnob))) k4
      · exact .lst f5 (by rw [List.length_append]; omega) (it_app jz jz) k5
      · exact .lst hc7 (by omega) jn ⟨ca, cb⟩
      · exact .lst f6 (by rw [List.length_reverse]; omega) (it_sub jn fun v h => List.mem_reverse.mp h) k6
      · exact .lst f7 (by simp) (it_one .non) k7
    have sL := sameUp (o := .lst [.non, .int 5, .str "ann", .bl true, .ref p1, .ref p2, .ref p4, .ref p5, .ref c, .ref p6, .ref p7]) nL
    have eL : upd G7 L (.lst [.non, .int 5, .str "ann", .bl true, .ref p1, .ref p2, .ref p4, .ref p5, .ref c, .ref p6, .ref p7]) L = _ := upd_same
    have l11 : ([.non, .int 5, .str "ann", .bl true, .ref p1, .ref p2, .ref p4, .ref p5, .ref c, .ref p6, .ref p7] : List V).length = 11 := rfl
    have OE11 : ∀ v ∈ ([.non, .int 5, .str "ann", .bl true, .ref p1, .ref p2, .ref p4, .ref p5, .ref c, .ref p6, .ref p7] : List V), ∀ H', KL L (upd G7 L (.lst [.non, .int 5, .str "ann", .bl true, .ref p1, .ref p2, .ref p4, .ref p5, .ref c, .ref p6, .ref p7])) H' → OddE a b H' v := fun v hv H' kl => (all11 v hv).same (kl.back nL sL)
    generalize upd G7 L (.lst [.non, .int 5, .str "ann", .bl true, .ref p1, .ref p2, .ref p4, .ref p5, .ref c, .ref p6, .ref p7]) = G8 at sL eL OE11 ⊢
    generalize ([.non, .int 5, .str "ann", .bl true, .ref p1, .ref p2, .ref p4, .ref p5, .ref c, .ref p6, .ref p7] : List V) = ys0 at eL l11 OE11
    have s18 := s17.trans sL
    have he8 := sL _ _ he7
    have cL : e ≠ L := ne_of_none he7 nL
    -- the seven odd ones
    refine ⟨(show 1 ≤ sizeLine by decide), fun r1 x1 r2 x2 => ⟨(show 7 ≤ sizeLine by decide), fun Tp nT => ⟨Tp, rfl, ⟨_, SqT.of upd_same⟩, ?_⟩⟩⟩
    have t1 := sameUp (o := .lst [.str "a"]) x1
    have t2 := sameUp (o := .dK []) x2
    have t3 := sameUp (o := .tup [.non, .int 5, .str "nobody", .str "", .ref r1, .bl true, .ref r2]) nT
    have g1 := t3 _ _ (t2 _ _ (upd_same (a := r1) (o := HO.lst [.str "a"]) (H := G8)))
    have g2 := t3 _ _ (upd_same (a := r2) (o := HO.dK []))
    have gT : upd (upd (upd G8 r1 (.lst [.str "a"])) r2 (.dK [])) Tp (.tup [.non, .int 5, .str "nobody", .str "", .ref r1, .bl true, .ref r2]) Tp = _ := upd_same
    have kr1 := S1.nd (s18.free x1)
    have r1L : r1 ≠ L := (ne_of_none eL x1).symm
    have r2L : r2 ≠ L := (ne_of_none (t1 _ _ eL) x2).symm
    have TL : Tp ≠ L := (ne_of_none (t2 _ _ (t1 _ _ eL)) nT).symm
    have t13 := (t1.trans t2).trans t3
    generalize upd (upd (upd G8 r1 (.lst [.str "a"])) r2 (.dK [])) Tp (.tup [.non, .int 5, .str "nobody", .str "", .ref r1, .bl true, .ref r2]) = G9 at g1 g2 gT t13 ⊢
    have la : ("a" : Str).length ≤ sizeLine := Nat.le_trans (show ("a" : Str).length ≤ 6 by decide +kernel) (by decide)
    have le : ("" : Str).length ≤ sizeLine := Nat.le_trans (show ("" : Str).length ≤ 6 by decide +kernel) (by decide)
    have odd7 : ∀ v ∈ ([.non, .int 5, .str "nobody", .str "", .ref r1, .bl true, .ref r2] : List V), ∀ H', KL L G9 H' → ItE a b H' v := by
      intro v hv H' kl
      simp only [List.mem_cons, List.not_mem_nil, or_false] at hv
      rcases hv with rfl | rfl | rfl | rfl | rfl | rfl | rfl
      · exact .non
      · exact .int _
      · exact .str lnob
      · exact .str le
      · exact .row (ss := ["a"]) (kl _ _ r1L g1) (by simp) kr1
      · exact .bl _
      · exact .dic (kl _ _ r2L g2)
    have l7 : ([.non, .int 5, .str "nobody", .str "", .ref r1, .bl true, .ref r2] : List V).length = 7 := rfl
    generalize ([.non, .int 5, .str "nobody", .str "", .ref r1, .bl true, .ref r2] : List V) = els at gT odd7 l7
    have fr : ∀ {H' : Hp} {q : Addr}, KL L G9 H' → H' q = none → q ≠ a ∧ q ≠ b := fun {H' q} kl nq => S1.nd ((s17.trans (KL.back nL sL ((KL.of t13).trans kl))).free nq)
    have he9 := t13 _ _ he8
    refine for_it (walk_tup (xs := els)) (fun i σ H' => ∃ ov ys, σ = [some (.ref a), some (.ref c), some (.ref e), some (.int (at_ : Nat)), some (.ref L), ov, none] ∧ KL L G9 H' ∧ H' L = some (.lst ys) ∧ ys.length = 11 + i ∧ ∀ v ∈ ys, ∀ H'', KL L H' H'' → OddE a b H'' v)
      ⟨none, ys0, rfl, fun _ _ _ e => e, t13 _ _ eL, l11, fun v hv H'' kl => OE11 v hv H'' ((KL.of t13).trans kl)⟩ (fun i σ H' _ ⟨_, _, _, kl, _⟩ => SqT.of (kl _ _ TL gT)) ?_ ?_
    · rintro i v σ H2 H3 hi ⟨ov, ys, rfl, kl, hL, hly, hys⟩ ⟨rfl, hv⟩
      have heH := kl _ _ cL he9
      refine ⟨_, rfl, .inl ⟨rfl, _, SqL.of hL⟩, _, rfl, _, rfl, _, rfl, e, _, rfl, SqL.of heH, fun q1 w1 => ?_⟩
      rw [cut_toN]
      have a1 := sameUp (o := .lst ((zs.map V.str).take at_)) w1
      have lt : ((zs.map V.str).take at_).length ≤ 60 := by rw [List.length_take]; omega
      have ld : ((zs.map V.str).drop at_).length ≤ 60 := by rw [List.length_drop]; omega
      refine ⟨_, rfl, (show 1 ≤ sizeLine by decide), fun q2 w2 => ?_⟩
      have a2 := sameUp (o := .lst [v]) w2
      refine ⟨q1, q2, _, _, rfl, rfl, a2 _ _ upd_same, upd_same, len200 (show ((zs.map V.str).take at_).length + 1 ≤ 200 by omega), fun q3 w3 => ?_⟩
      have a3 := sameUp (o := .lst ((zs.map V.str).take at_ ++ [v])) w3
      refine ⟨_, rfl, _, rfl, _, rfl, e, _, rfl, SqL.of (((a1.trans a2).trans a3) _ _ heH), fun q4 w4 => ?_⟩
      rw [cut_fromN]
      have a4 := sameUp (o := .lst ((zs.map V.str).drop at_)) w4
      refine ⟨q3, q4, _, _, rfl, rfl, a4 _ _ upd_same, upd_same, len200 (by rw [List.length_append]; show ((zs.map V.str).take at_).length + 1 + ((zs.map V.str).drop at_).length ≤ 200; omega), fun q5 w5 => ?_⟩
      have a5 := sameUp (o := .lst ((zs.map V.str).take at_ ++ [v] ++ (zs.map V.str).drop at_)) w5
      have a15 := (((a1.trans a2).trans a3).trans a4).trans a5
      have kq5 := fr (kl.trans (KL.of (((a1.trans a2).trans a3).trans a4))) w5
      have q5L : q5 ≠ L := (ne_of_none (((((a1.trans a2).trans a3).trans a4)) _ _ hL) w5).symm
      have e5 : upd (upd (upd (upd (upd H3 q1 (.lst ((zs.map V.str).take at_))) q2 (.lst [v])) q3 (.lst ((zs.map V.str).take at_ ++ [v]))) q4 (.lst ((zs.map V.str).drop at_))) q5 (.lst ((zs.map V.str).take at_ ++ [v] ++ (zs.map V.str).drop at_)) q5 = _ := upd_same
      refine ⟨L, ys, .ref q5, rfl, rfl, a15 _ _ hL, small1000 (by omega), _, _, rfl, kl.trans ((KL.of a15).trans KL.set), upd_same, by rw [List.length_append, hly]; rfl, fun u hu H'' kl2 => ?_⟩
      have kd : KL L H3 H'' := ((KL.of a15).trans KL.set).trans kl2
      rcases List.mem_append.mp hu with hu | hu
      · exact hys u hu H'' kd
      · obtain rfl : u = .ref q5 := by simpa using hu
        refine .lst (kl2 _ _ q5L (KL.set _ _ q5L e5)) (by rw [List.length_append, List.length_append]; show ((zs.map V.str).take at_).length + 1 + ((zs.map V.str).drop at_).length ≤ 200; omega) (it_app (it_app (it_sub jz fun v h => List.mem_of_mem_take h) (it_one (odd7 v (List.mem_of_getElem? hv) H'' (kl.trans kd)))) (it_sub jz fun v h => List.mem_of_mem_drop h)) kq5
    · rintro σ H2 ⟨ov, ys, rfl, kl, hL, hly, hys⟩
      have heH := kl _ _ cL he9
      have lt : ∀ k, ((zs.map V.str).take k).length ≤ 60 := fun k => by rw [List.length_take]; omega
      have ld : ∀ k, ((zs.map V.str).drop k).length ≤ 60 := fun k => by rw [List.length_drop]; omega
      refine ⟨_, rfl, .inl ⟨rfl, _, SqL.of hL⟩, _, rfl, _, rfl, _, rfl, e, _, rfl, SqL.of heH, fun q1 w1 => ?_⟩
      rw [cut_toN]
      have a1 := sameUp (o := .lst ((zs.map V.str).take at_)) w1
      have ec : cutV (zs.map V.str) (some ((at_ : Int) + 1)) none = (zs.map V.str).drop (at_ + 1) := by
        rw [show ((at_ : Int) + 1) = ((at_ + 1 : Nat) : Int) by push_cast; rfl, cut_fromN]
      refine ⟨_, rfl, _, rfl, _, _, rfl, rfl, _, rfl, e, _, rfl, SqL.of (a1 _ _ heH), fun q2 w2 => ?_⟩
      have a2 := sameUp (o := .lst (cutV (zs.map V.str) (some ((at_ : Int) + 1)) none)) w2
      have b2 : upd (upd H2 q1 (.lst ((zs.map V.str).take at_))) q2 (.lst (cutV (zs.map V.str) (some ((at_ : Int) + 1)) none)) q2 = some (.lst ((zs.map V.str).drop (at_ + 1))) := by rw [upd_same, ec]
      have b1 := a2 _ _ (upd_same (a := q1) (o := HO.lst ((zs.map V.str).take at_)) (H := H2))
      refine ⟨q1, q2, _, _, rfl, rfl, b1, b2, len200 (by have := lt at_; have := ld (at_ + 1); omega), fun q3 w3 => ?_⟩
      have a3 := sameUp (o := .lst ((zs.map V.str).take at_ ++ (zs.map V.str).drop (at_ + 1))) w3
      have a13 := (a1.trans a2).trans a3
      have c3 : upd (upd (upd H2 q1 (.lst ((zs.map V.str).take at_))) q2 (.lst (cutV (zs.map V.str) (some ((at_ : Int) + 1)) none))) q3 (.lst ((zs.map V.str).take at_ ++ (zs.map V.str).drop (at_ + 1))) q3 = _ := upd_same
      have kq3 := fr (kl.trans (KL.of (a1.trans a2))) w3
      have q3L : q3 ≠ L := (ne_of_none ((a1.trans a2) _ _ hL) w3).symm
      generalize upd (upd (upd H2 q1 (.lst ((zs.map V.str).take at_))) q2 (.lst (cutV (zs.map V.str) (some ((at_ : Int) + 1)) none))) q3 (.lst ((zs.map V.str).take at_ ++ (zs.map V.str).drop (at_ + 1))) = G3 at a13 c3 ⊢
      refine ⟨_, rfl, _, rfl, _, rfl, e, _, rfl, SqL.of (a13 _ _ heH), fun q4 w4 => ?_⟩
      rw [cut_toN]
      have a4 := sameUp (o := .lst ((zs.map V.str).take at_)) w4
      refine ⟨_, rfl, _, rfl, e, _, rfl, SqL.of (a4 _ _ (a13 _ _ heH)), fun q5 w5 => ?_⟩
      rw [cut_to1]
      have a5 := sameUp (o := .lst ((zs.map V.str).take 1)) w5
      refine ⟨q4, q5, _, _, rfl, rfl, a5 _ _ upd_same, upd_same, len200 (by have := lt at_; have := lt 1; omega), fun q6 w6 => ?_⟩
      have a6 := sameUp (o := .lst ((zs.map V.str).take at_ ++ (zs.map V.str).take 1)) w6
      have a46 := (a4.trans a5).trans a6
      refine ⟨_, rfl, _, rfl, _, rfl, e, _, rfl, SqL.of (a46 _ _ (a13 _ _ heH)), fun q7 w7 => ?_⟩
      rw [cut_fromN]
      have a7 := sameUp (o := .lst ((zs.map V.str).drop at_)) w7
      refine ⟨q6, q7, _, _, rfl, rfl, a7 _ _ upd_same, upd_same, len200 (by rw [List.length_append]; have := lt at_; have := lt 1; have := ld at_; omega), fun q8 w8 => ?_⟩
      have a8 := sameUp (o := .lst ((zs.map V.str).take at_ ++ (zs.map V.str).take 1 ++ (zs.map V.str).drop at_)) w8
      have a48 := (a46.trans a7).trans a8
      refine ⟨Nat.zero_le _, fun q9 w9 => ⟨(show 1 ≤ sizeLine by decide), fun q10 w10 => ⟨(show 3 ≤ sizeLine by decide), fun q11 w11 => ?_⟩⟩⟩
      have a9 := sameUp (o := .lst []) w9
      have a10 := sameUp (o := .lst [.ref q9]) w10
      have a11 := sameUp (o := .lst [.ref q3, .ref q8, .ref q10]) w11
      have a911 := (a9.trans a10).trans a11
      have c8 := a911 _ _ (upd_same (a := q8) (o := HO.lst ((zs.map V.str).take at_ ++ (zs.map V.str).take 1 ++ (zs.map V.str).drop at_)))
      have c9 := a11 _ _ (a10 _ _ (upd_same (a := q9) (o := HO.lst [])))
      have c10 := a11 _ _ (upd_same (a := q10) (o := HO.lst [.ref q9]))
      have c3' := a911 _ _ (a48 _ _ c3)
      have aAll := a13.trans (a48.trans a911)
      refine ⟨L, q11, ys, _, rfl, rfl, aAll _ _ hL, upd_same, len200 (show ys.length + 3 ≤ 200 by rw [hly, l7]; omega), ?_⟩
      have kq8 := fr (kl.trans (KL.of (a13.trans (a46.trans a7)))) w8
      have kq9 := fr (kl.trans (KL.of (a13.trans a48))) w9
      have kq10 := fr (kl.trans (KL.of (a13.trans (a48.trans a9)))) w10
      have q8L : q8 ≠ L := (ne_of_none ((a13.trans (a46.trans a7)) _ _ hL) w8).symm
      have q9L : q9 ≠ L := (ne_of_none ((a13.trans a48) _ _ hL) w9).symm
      have q10L : q10 ≠ L := (ne_of_none ((a13.trans (a48.trans a9)) _ _ hL) w10).symm
      have kAll : ∀ o, KL L H2 (upd (upd (upd (upd (upd (upd (upd (upd (upd G3 q4 (.lst ((zs.map V.str).take at_))) q5 (.lst ((zs.map V.str).take 1))) q6 (.lst ((zs.map V.str).take at_ ++ (zs.map V.str).take 1))) q7 (.lst ((zs.map V.str).drop at_))) q8 (.lst ((zs.map V.str).take at_ ++ (zs.map V.str).take 1 ++ (zs.map V.str).drop at_))) q9 (.lst [])) q10 (.lst [.ref q9])) q11 (.lst [.ref q3, .ref q8, .ref q10])) L o) := fun o => (KL.of aAll).trans KL.set
      have d3 : ∀ o, _ := fun o => KL.set (o := o) _ _ q3L c3'
      have d8 : ∀ o, _ := fun o => KL.set (o := o) _ _ q8L c8
      have d9 : ∀ o, _ := fun o => KL.set (o := o) _ _ q9L c9
      have d10 : ∀ o, _ := fun o => KL.set (o := o) _ _ q10L c10
      have hLn : ∀ o, upd (upd (upd (upd (upd (upd (upd (upd (upd G3 q4 (.lst ((zs.map V.str).take at_))) q5 (.lst ((zs.map V.str).take 1))) q6 (.lst ((zs.map V.str).take at_ ++ (zs.map V.str).take 1))) q7 (.lst ((zs.map V.str).drop at_))) q8 (.lst ((zs.map V.str).take at_ ++ (zs.map V.str).take 1 ++ (zs.map V.str).drop at_))) q9 (.lst [])) q10 (.lst [.ref q9])) q11 (.lst [.ref q3, .ref q8, .ref q10])) L o L = some o := fun o => upd_same
      generalize upd (upd (upd (upd (upd (upd (upd (upd G3 q4 (.lst ((zs.map V.str).take at_))) q5 (.lst ((zs.map V.str).take 1))) q6 (.lst ((zs.map V.str).take at_ ++ (zs.map V.str).take 1))) q7 (.lst ((zs.map V.str).drop at_))) q8 (.lst ((zs.map V.str).take at_ ++ (zs.map V.str).take 1 ++ (zs.map V.str).drop at_))) q9 (.lst [])) q10 (.lst [.ref q9])) q11 (.lst [.ref q3, .ref q8, .ref q10]) = G11 at kAll d3 d8 d9 d10 hLn ⊢
      replace kAll := kAll (.lst (ys ++ [.ref q3, .ref q8, .ref q10]))
      replace d3 := d3 (.lst (ys ++ [.ref q3, .ref q8, .ref q10]))
      replace d8 := d8 (.lst (ys ++ [.ref q3, .ref q8, .ref q10]))
      replace d9 := d9 (.lst (ys ++ [.ref q3, .ref q8, .ref q10]))
      replace d10 := d10 (.lst (ys ++ [.ref q3, .ref q8, .ref q10]))
      replace hLn := hLn (.lst (ys ++ [.ref q3, .ref q8, .ref q10]))
      generalize upd G11 L (.lst (ys ++ [.ref q3, .ref q8, .ref q10])) = G12 at kAll d3 d8 d9 d10 hLn ⊢
      have heN := kAll _ _ cL heH
      refine ⟨_, rfl, _, rfl, e, rfl, ⟨_, SqL.of heN⟩, fun W nW => ?_⟩
      refine lc_it (walk_list (xs := zs.map V.str)) (fun i H' => Same G12 H' ∧ ∃ ts : List Addr, H' W = some (.lst (ts.map V.ref)) ∧ ts.length = i ∧ ∀ (j : Nat) (n : Str) (t : Addr), zs[j]? = some n → ts[j]? = some t → H' t = some (.tup [.str n, .int 1])) ⟨sameUp nW, [], upd_same, rfl, fun j n t _ h2 => by simp at h2⟩ (fun i H' _ h => SqL.of (h.1 _ _ heN)) ?_ ?_
      · rintro i v H5 H6 hi ⟨s7, ts, hW7, lt', htq⟩ ⟨rfl, hv⟩
        rw [List.length_map] at hi
        rw [List.getElem?_map] at hv
        obtain ⟨n, hnI, rfl⟩ := Option.map_eq_some_iff.mp hv
        refine ⟨rfl, _, rfl, (show 2 ≤ sizeLine by decide), fun t nt => ?_⟩
        have sT := sameUp (o := .tup [.str n, .int 1]) nt
        have tW : t ≠ W := (ne_of_none hW7 nt).symm
        refine ⟨_, sT _ _ hW7, small1000 (by rw [List.length_map, lt']; omega), same_un nW (s7.trans sT), ts ++ [t], ?_, ?_, fun j n' t' h1 h2 => ?_⟩
        · rw [upd_same, List.map_append]
          rfl
        · rw [List.length_append, lt']
          rfl
        · rcases snoc_get h2 with ⟨c2, h2⟩ | ⟨c2, rfl⟩
          · have e1 := htq j n' t' h1 h2
            rw [upd_ne (fun z => by rw [z, hW7] at e1; cases e1)]
            exact sT _ _ e1
          · have ej : j = i := by omega
            subst ej
            rw [hnI] at h1
            obtain rfl := Option.some.inj h1
            rw [upd_ne tW]
            exact upd_same
      · rintro H5 ⟨s7, ts, hW7, lt', htq⟩
        rw [List.length_map] at lt'
        refine ⟨W, ts, _, rfl, SqL.of hW7, paired_ones zs ts lt' htq, fun D nD => ⟨(show 1 ≤ sizeLine by decide), fun q12 w12 => ?_⟩⟩
        have sD := sameUp (o := .dK (mergeK [] (zs.map fun z => ((Sum.inr z : Key), V.int 1)))) nD
        have s12 := sameUp (o := .lst [.ref D]) w12
        have sE := s7.trans (sD.trans s12)
        refine ⟨L, q12, _, _, rfl, rfl, sE _ _ hLn, upd_same, len200 (show (ys ++ [V.ref q3, V.ref q8, V.ref q10]).length + 1 ≤ 200 by rw [List.length_append, hly, l7]; show 11 + 7 + 3 + 1 ≤ 200; decide), fun R nR => ?_⟩
        have sR := sameUp (o := .lst (ys ++ [.ref q3, .ref q8, .ref q10] ++ [.ref D])) nR
        have sF := sE.trans sR
        have kF := kAll.trans (KL.of sF)
        have eD := (s12.trans sR) _ _ (upd_same (a := D) (o := HO.dK (mergeK [] (zs.map fun z => ((Sum.inr z : Key), V.int 1)))) (H := H5))
        have s7F := KL.back nL sL ((KL.of t13).trans (kl.trans kF))
        have s7E := KL.back nL sL ((KL.of t13).trans (kl.trans (kAll.trans (KL.of sE))))
        have SE := S1.ext (ExtN.of (s17.trans s7E))
        refine k _ R _ (kb1.trans (KeepBut.same (s17.trans s7F))) (S1.ext (ExtN.of (s17.trans s7F))) (kb_free (kb1.trans (KeepBut.same (s17.trans s7E))) SE.na.1 SE.na.2 nR) upd_same ?_ fun v hv => ?_
        · rw [List.length_append, List.length_append, hly, l7]
          show 11 + 7 + 3 + 1 ≤ 100
          decide
        · rcases List.mem_append.mp hv with hv | hv
          · rcases List.mem_append.mp hv with hv | hv
            · exact hys v hv _ kF
            · rcases List.mem_cons.mp hv with rfl | hv
              · exact .lst (sF _ _ d3) (by rw [List.length_append]; have := lt at_; have := ld (at_ + 1); omega) (it_app (it_sub jz fun v h => List.mem_of_mem_take h) (it_sub jz fun v h => List.mem_of_mem_drop h)) kq3
              · rcases List.mem_cons.mp hv with rfl | hv
                · exact .lst (sF _ _ d8) (by rw [List.length_append, List.length_append]; have := lt at_; have := lt 1; have := ld at_; omega) (it_app (it_app (it_sub jz fun v h => List.mem_of_mem_take h) (it_sub jz fun v h => List.mem_of_mem_take h)) (it_sub jz fun v h => List.mem_of_mem_drop h)) kq8
                · obtain rfl : v = .ref q10 := by simpa using hv
                  exact .lst (sF _ _ d10) (by simp) (it_one (.row (ss := []) (sF _ _ d9) (by simp) kq9)) kq10
          · obtain rfl : v = .ref D := by simpa using hv
            exact .dic eD
end
end Mn
/-! several except clauses with a name -/
namespace Mn
open PySem PySem.Spec PyProof.Rows L2 Md Me Ml LamX
/-- the ends behind a suite: the name is gone -/
abbrev gone (i : Nat) (D : Ends) : Ends := { nx := fun σ' H' => D.nx (σ'.set i none) H', rt := D.rt, bk := fun σ' H' => D.bk (σ'.set i none) H', ct := fun σ' H' => D.ct (σ'.set i none) H' }
def wManyAs (K : PySem.W.Frag) (i : Nat) (Wout : WX) (D : Ends) : List (Value × (Addr → Value → Option Addr → TS)) → WX
  | [] => Wout
  | (c, ts) :: r => fun cls d σ H => ∃ b, PySem.W.exmOne K cls c = some b ∧ (b = true → ∀ a, H a = none → ts a cls d (gone i D) (σ.set i (some (.ref a))) H) ∧ (b = false → wManyAs K i Wout D r cls d σ H)
inductive HdsAs (X : Cx) (n : Str) : List ExceptHandler → List (Value × (Addr → Value → Option Addr → TS)) → Prop
  | nil : HdsAs X n [] []
  | cons {x : Str} {c : Value} {ts : Addr → Value → Option Addr → TS} {b₀ : Stmt} {suite : List Stmt} {np pos' : Pos} {hds : List ExceptHandler} {l : List (Value × (Addr → Value → Option Addr → TS))} (hc : Names X x c)
      (hsu : ∀ (a : Addr) (oe : Obj) (cls : Value) (d : Option Addr) (pn : List (Addr × Obj)), Zc cls d oe → (∃ vs, oe.data = .fields vs) → PSs (X.suite a ((a, oe) :: pn)) (b₀ :: suite) (ts a cls d)) (r : HdsAs X n hds l) :
      HdsAs X n (.ExceptHandler (some (.Name x np)) (some n) (b₀ :: suite) pos' :: hds) ((c, ts) :: l)
section
variable {X : Cx} {n : Str} {i : Nat} {body : List Stmt} {h₀ : ExceptHandler} {hds : List ExceptHandler} {l : List (Value × (Addr → Value → Option Addr → TS))} {pos : Pos} {tb : WX → TS} {Wout : WX}
theorem ps_try_manyAs (hs : X.stack = X.env :: X.outer) (hf : X.env.frame = some X.env.locals) (hN : X.N.Nodup) (hi : X.N[i]? = some n) (hln : X.env.kindOf n = some .local) (tk : Takes X Wout)
    (hb : ∀ (W : WX) (pn : List (Addr × Obj)) (xe : Value → Shared → Prop), Takes (X.tr pn xe) W → PassesOwn (model X.prog X.w) X.A X.env xe → PSs (X.tr pn xe) body (tb W))
    (hh : HdsAs X n (h₀ :: hds) l) : PS X (.Try body (h₀ :: hds) [] [] pos) (fun D σ H => tb (wManyAs X.K i Wout D l) D σ H) := by
  refine ⟨fun pins s σ H D I h => ?_⟩
  have ok := I.ok
  have hfr : X.A.frames = some (X.env :: X.outer) := by rw [ok.frames, hs]
  have hloc : Loc X.env.scope n := .inl hln
  refine wpAny_Try_except ?_
  refine wpAny_mono ((hb (wManyAs X.K i Wout D l) (X.pn ++ pins) (fun e s₁ => wpAny (model X.prog X.w) X.A (noteFrame e X.env) (fun _ s₂ => wpAny (model X.prog X.w) X.A (setFlight e none) (fun _ s₃ =>
    wpAny (model X.prog X.w) X.A (handleBy e X.env (h₀ :: hds)) (SP X pins D) X.xe s₃) X.xe s₂) X.xe s₁) (fun u s' xx => ?_) PassesOwn.looking).run [] s σ H D (I.toTry _) h) (fun f s1 hsp => ?_) (fun e s1 he => he)
  · obtain ⟨a, B, sI, pins', σ', H', cls, d, rfl, J', nb, up, sky, na, os, ag, w⟩ := xx
    have J : Inv X pins σ' H' sI := J'.ofTry ok
    have sky' : Sky B (X.env :: X.outer) a (Zc cls d) X.env.locals s'.heap := by
      rw [← hs]
      exact sky
    show wpAny (model X.prog X.w) X.A (noteFrame (.ref a) X.env) _ _ _
    refine Sky.land Zc.steady hfr hf sky' fun h3 fl3 up3 => ?_
    have J3 : Inv X pins σ' H' { s' with heap := h3 } := J.landed nb fl3.1 (up.trans up3) os ag
    obtain ⟨oe3, vs3, he3, hz3, hd3⟩ := fl3.there
    have notFr : ∀ {h : Heap} {o : Obj} {vs : Array Value}, h.FunFrames B (X.env :: X.outer) → h.get? a = some o → o.data = .fields vs → a ∉ frs (X.env :: X.outer) := fun {h o vs} ff e dd hm => by
      obtain ⟨_, o', e', hnf⟩ := ff.mem hm
      rw [e] at e'
      cases e'
      exact hnf _ dd
    have nfr := notFr fl3.2.2.1 he3 hd3
    have nL : a ≠ X.env.locals := fun z => nfr (List.mem_filterMap.mpr ⟨X.env, List.mem_cons_self, by rw [hf, z]⟩)
    have nF : a ∉ X.fs := fun hm => by
      obtain ⟨e, he, q⟩ := List.mem_filterMap.mp hm
      exact nfr (List.mem_filterMap.mpr ⟨e, List.mem_cons_of_mem _ he, q⟩)
    have S3 := J3.suite he3 hd3 na nL nF
    have go : ∀ {hds' : List ExceptHandler} {l' : List (Value × (Addr → Value → Option Addr → TS))}, HdsAs X n hds' l' → wManyAs X.K i Wout D l' cls d σ' H' →
        wpAny (model X.prog X.w) X.A (handleBy (.ref a) X.env hds') (SP X pins D) X.xe { s' with heap := h3 } := by
      intro hds' l' hk
      induction hk with
      | nil =>
        intro w
        refine wpAny_handleBy_nil ?_
        obtain ⟨k1, k2, k3, oe, vs, T, oT, ts', he, hz, hd, h1, hr⟩ := id fl3
        unfold PySem.passOn
        refine wpAny_bind (wpAny_field he hd h1 ?_)
        rw [if_neg (show ¬ ((Value.ref T == Value.none) = true) from by simp)]
        have fin : wpAny (model X.prog X.w) X.A (setFlight (.ref a) X.env.frame) (fun _ s4 => wpAny (model X.prog X.w) X.A (throw (.ref a) : Sem Flow) (SP X pins D) X.xe s4) X.xe { s' with heap := h3 } := by
          rw [hf]
          refine HandSPX.setFlight_upZ fl3 fun h4 hh4 up4 => wpAny_throw (tk _ _ ?_)
          exact ⟨a, B, sI, pins, σ', H', cls, d, rfl, J, nb, (up.trans up3).trans up4, .inr (.inr (by rw [hs]; exact hh4)), na, os, ag, w⟩
        first
          | exact wpAny_bind (wpAny_pure (wpAny_bind fin))
          | exact wpAny_bind fin
      | @cons x c ts b₀ suite np pos' hds2 l2 hc hsu r ih =>
        intro w
        obtain ⟨b, hb1, hyes, hno⟩ := w
        refine wpAny_handleBy_cons (codeAny_handlers_test ?_) (by intro q; cases q)
        have LT : PySem.W.Looks (model X.prog X.w) h3 (typeOf (.ref a)) cls := fun A Q E s k q => wpAny_typeOf_ref (k _ _ he3) (by rw [hz3.1]; exact q)
        have LM := PySem.W.exm_one (M := model X.prog X.w) (J3.kIn) LT hb1
        have test : ∀ {Q : Value → Shared → Prop} {E : Value → Shared → Prop}, Q c { s' with heap := h3 } → wpAny (model X.prog X.w) (X.A.mark (some (.ref a))) (eval (.Name x np) X.env) Q E { s' with heap := h3 } := fun {Q E} q => by
          obtain ⟨hg, hdbg, hm | ⟨hm, hv, hnn⟩⟩ := hc
          · exact ld_glob (X := X.suite a ((a, oe3) :: (X.pn ++ pins))) S3 hg hm q hdbg
          · exact ld_blt (X := X.suite a ((a, oe3) :: (X.pn ++ pins))) S3 hg hm hv q hnn hdbg
        refine test (LM.here ?_)
        cases b with
        | true =>
          refine codeAny_handlers_suite_as ?_
          refine HandSPX.lands_againZ fl3 fun h4 fl4 up4 => ?_
          have J4 : Inv X pins σ' H' { s' with heap := h4 } := J.landed nb fl4.1 ((up.trans up3).trans up4) os ag
          obtain ⟨oe4, vs4, he4, hz4, hd4⟩ := fl4.there
          have S4 := J4.suite he4 hd4 na nL nF
          refine store_ok (X := X.suite a ((a, oe4) :: (X.pn ++ pins))) (v := .ref a) S4 hN hi hloc rfl (fun s5 S5 => ?_) (.inr hln)
          refine wpAny_mono ((hsu a oe4 cls d (X.pn ++ pins) hz4 ⟨_, hd4⟩).run [] s5 _ H' _ S5 (hyes rfl a na)) (fun f s6 hsp => ?_) (fun _ _ z => False.elim z)
          have end_ : ∀ {σ6 : L2.St} {H6 : Hp} {Q : Shared → Prop}, Inv (X.suite a ((a, oe4) :: (X.pn ++ pins))) [] σ6 H6 s6 → (∀ s7, Inv X pins (σ6.set i none) H6 s7 → Q s7) →
              wpAny (model X.prog X.w) X.A (do bindName X.env n .none; unbindBehindTheSuite X.env n pos') (fun _ s7 => Q s7) X.xe s6 := fun {σ6 H6 Q} S6 hq => gone_ok (S6.unsuite ok) hN hi hln hq
          cases f with
          | next =>
            obtain ⟨σ6, H6, S6, q6⟩ := hsp
            exact end_ S6 fun s7 J7 => ⟨_, _, J7, q6⟩
          | brk =>
            obtain ⟨σ6, H6, S6, q6⟩ := hsp
            exact end_ S6 fun s7 J7 => ⟨_, _, J7, q6⟩
          | cont =>
            obtain ⟨σ6, H6, S6, q6⟩ := hsp
            exact end_ S6 fun s7 J7 => ⟨_, _, J7, q6⟩
          | ret u =>
            obtain ⟨v6, σ6, H6, S6, r6, q6⟩ := hsp
            exact end_ S6 fun s7 J7 => ⟨_, _, _, J7, r6, q6⟩
        | false =>
          show wpAny _ X.A (handleBy (.ref a) X.env hds2) _ _ _
          exact ih (hno rfl)
    exact go hh w
  · cases f with
    | next =>
      obtain ⟨σ', H', J', q⟩ := hsp
      exact wpAny_execs_nil ⟨σ', H', J'.ofTry ok, q⟩
    | brk =>
      obtain ⟨σ', H', J', q⟩ := hsp
      exact ⟨σ', H', J'.ofTry ok, q⟩
    | cont =>
      obtain ⟨σ', H', J', q⟩ := hsp
      exact ⟨σ', H', J'.ofTry ok, q⟩
    | ret u =>
      obtain ⟨v, σ', H', J', r, q⟩ := hsp
      exact ⟨v, σ', H', J'.ofTry ok, r, q⟩
end
end Mn
/-! _law_met -/
namespace Mn
open PySem PySem.Spec PyProof.Rows L2 Md Me Ml LamX
abbrev sMet : Stmt := top 47
theorem scMet : FnScope ["_law_ask", "e"] ["_law_ask"] (defScope sMet) := ⟨rfl, rfl, rfl, by decide +kernel, rfl, by decide +kernel, by decide +kernel⟩
/-- which except clause takes which of the three errors -/
structure Exm3 (K : PySem.W.Frag) (P W N : Addr) : Prop where
  pp : PySem.W.exmOne K (.ref P) (.ref P) = some true
  wp : PySem.W.exmOne K (.ref W) (.ref P) = some false
  ww : PySem.W.exmOne K (.ref W) (.ref W) = some true
  np : PySem.W.exmOne K (.ref N) (.ref P) = some false
  nw : PySem.W.exmOne K (.ref N) (.ref W) = some false
  nn : PySem.W.exmOne K (.ref N) (.ref N) = some true
/-- how a refusal is told -/
inductive Tells (P W N : Addr) : Value → Str → Str → Prop
  | p : Tells P W N (.ref P) "thing" "rule"
  | w : Tells P W N (.ref W) "thing" "market"
  | n : Tells P W N (.ref N) "index" "needs"
theorem takes_len {X : Cx} {W : WX} (tk : Takes X W) : Takes X (fun cls d σ H => σ.length = X.N.length → W cls d σ H) := fun u s' ⟨a, B, sI, pins, σ, H, cls, d, e, I, nb, up, sky, na, os, ag, w⟩ =>
  tk u s' ⟨a, B, sI, pins, σ, H, cls, d, e, I, nb, up, sky, na, os, ag, w I.len⟩
theorem two_set {σ : L2.St} {v : Option V} (h : σ.length = 2) : (σ.set 1 v)[1]? = some v := by
  match σ, h with
  | [_, _], _ => rfl
def TTmet (P W N : Addr) : (XK → Hp → VK → Prop) → Hp → VK → Prop := fun tl H Q =>
  tl (fun cls d H' => ∃ (f tag : Str) (dd : Addr) (v : V), Tells P W N cls f tag ∧ d = some dd ∧ H' dd = some (.xd [(f, v)]) ∧ ∀ p, H' p = none → Q (.ref p) (upd H' p (.tup [.str tag, v]))) H
    (fun v H' => 2 ≤ sizeLine ∧ ∀ p, H' p = none → Q (.ref p) (upd H' p (.tup [.str "told", v])))
abbrev tSu (K : PySem.W.Frag) (C : Addr) (f tag : Str) : Addr → Value → Option Addr → TS := fun a cls d => tRet (tTup (tCons (tC (.str tag)) (tCons (tXf a cls d C f (tVar 1)) tNil)))
theorem met_gives {X : Cx} {g : Addr} {cdv : Value} {q : Str} (BP : ExX X.K X.mg "BadRule" "thing") (BW : ExX X.K X.mg "BadMarket" "thing") (BN : ExX X.K X.mg "BadNeeds" "index") (ex : Exm3 X.K (He.ga X.K "BadRule") (He.ga X.K "BadMarket") (He.ga X.K "BadNeeds")) :
    GivesTo X ["_law_ask", "e"] "_law_met" (defScope sMet) g cdv (defBody sMet) "_law_ask" q (TTmet (He.ga X.K "BadRule") (He.ga X.K "BadMarket") (He.ga X.K "BadNeeds")) := by
  intro f c' s H Q tl act hc h
  refine ⟨_, pss_one (ps_try_manyAs (i := 1) (n := "e") (X := (cxOf C8.CX0 X.prog X.w X.K X.mg X.base ["_law_ask", "e"] "_law_met" (defScope sMet) g cdv X.A X.stack s H C8.E0).nox)
      (l := [(.ref (He.ga X.K "BadRule"), tSu X.K (He.ga X.K "BadRule") "thing" "rule"), (.ref (He.ga X.K "BadMarket"), tSu X.K (He.ga X.K "BadMarket") "thing" "market"), (.ref (He.ga X.K "BadNeeds"), tSu X.K (He.ga X.K "BadNeeds") "index" "needs")])
      (tb := fun W D σ H => ∃ Ech : XK, (∀ cls d (σ' : L2.St) H', σ'.length = 2 → Ech cls d H' → W cls d σ' H') ∧ σ[0]? = some (some (.ref f)) ∧ H c' = some (CodeO c' q) ∧ tl Ech H (fun v H' => 2 ≤ sizeLine ∧ ∀ p, H' p = none → D.rt (.ref p) (upd H' p (.tup [.str "told", v]))))
      rfl rfl scMet.nd rfl rfl LamX.takes0 (fun W pn xe tk _ => ?_) (.cons ⟨rfl, by decide, .inl BP.g⟩ (fun a oe cls d pn hz hf => ?_) (.cons ⟨rfl, by decide, .inl BW.g⟩ (fun a oe cls d pn hz hf => ?_) (.cons ⟨rfl, by decide, .inl BN.g⟩ (fun a oe cls d pn hz hf => ?_) .nil)))), ?_⟩
  · refine ⟨fun pins s' σ H' D I h' => ?_⟩
    obtain ⟨Ech, hW, h1, h2, h3⟩ := h'
    exact (pss_one (ps_ret (pe_tup (pa_cons pe_str (pa_cons (act _ pn xe Ech _ _ (takes_len tk) (fun cls d σ' H' e hl => hW cls d σ' H' hl e)) pa_nil))))).run pins s' σ H' D I ⟨h1, h2, h3⟩
  · exact pss_one (ps_ret (pe_tup (pa_cons pe_str (pa_cons (pe_xf BP.xf BP.no hz hf (pv 1)) pa_nil))))
  · exact pss_one (ps_ret (pe_tup (pa_cons pe_str (pa_cons (pe_xf BW.xf BW.no hz hf (pv 1)) pa_nil))))
  · exact pss_one (ps_ret (pe_tup (pa_cons pe_str (pa_cons (pe_xf BN.xf BN.no hz hf (pv 1)) pa_nil))))
  · refine ⟨fun cls d H' => ∃ (f tag : Str) (dd : Addr) (v : V), Tells (He.ga X.K "BadRule") (He.ga X.K "BadMarket") (He.ga X.K "BadNeeds") cls f tag ∧ d = some dd ∧ H' dd = some (.xd [(f, v)]) ∧ ∀ p, H' p = none → Q (.ref p) (upd H' p (.tup [.str tag, v])), fun cls d σ' H' hl e => ?_, rfl, hc, h⟩
    obtain ⟨f1, tag, dd, v, ht, rfl, hd, k⟩ := e
    have su : ∀ (C : Addr) (tg : Str), cls = .ref C → tag = tg → ∀ a, H' a = none → tSu X.K C f1 tg a cls (some dd) (gone 1 { nx := fun _ H' => Q .non H', rt := Q }) (σ'.set 1 (some (.ref a))) H' := fun C tg ec et a na => by
      subst ec et
      exact ⟨_, two_set hl, rfl, rfl, dd, [(f1, v)], v, rfl, hd, by rw [List.lookup_cons_self], (show 2 ≤ sizeLine by decide), fun p np => k p np⟩
    cases ht with
    | p => exact ⟨true, ex.pp, fun _ a na => su _ _ rfl rfl a na, fun z => by cases z⟩
    | w => exact ⟨false, ex.wp, (fun z => by cases z), fun _ => ⟨true, ex.ww, fun _ a na => su _ _ rfl rfl a na, fun z => by cases z⟩⟩
    | n => exact ⟨false, ex.np, (fun z => by cases z), fun _ => ⟨false, ex.nw, (fun z => by cases z), fun _ => ⟨true, ex.nn, fun _ a na => su _ _ rfl rfl a na, fun z => by cases z⟩⟩⟩
end Mn
/-! lemmas for _law_refused_right -/
namespace Mn
open PySem PySem.Spec PyProof.Rows L2 Md Me Ml LamX Mi Mo
section
variable {K : PySem.W.Frag} {C0 : Addr} {H H' : Hp}
theorem smR_lst {n : Nat} {a : Addr} {xs : List V} (h : H a = some (.lst xs)) (hn : xs.length ≤ 1000) (hx : ∀ v ∈ xs, Sm C0 H n v v) : Sm C0 H (n + 1) (.ref a) (.ref a) := .lst h h rfl hn fun i x y h1 h2 => by
  rw [h1] at h2
  rw [← Option.some.inj h2]
  exact hx x (List.mem_of_getElem? h1)
theorem smR_tup {n : Nat} {a : Addr} {xs : List V} (h : H a = some (.tup xs)) (hn : xs.length ≤ 1000) (hx : ∀ v ∈ xs, Sm C0 H n v v) : Sm C0 H (n + 1) (.ref a) (.ref a) := .tup h h rfl hn fun i x y h1 h2 => by
  rw [h1] at h2
  rw [← Option.some.inj h2]
  exact hx x (List.mem_of_getElem? h1)
theorem smR_dic {n : Nat} {a : Addr} {xs : List (Key × V)} (h : H a = some (.dK xs)) (hn : xs.length ≤ 1000) (hx : ∀ v ∈ xs, Sm C0 H n v.2 v.2) : Sm C0 H (n + 3) (.ref a) (.ref a) := .dic h h rfl hn (fun i p q h1 h2 => by
  rw [h1] at h2
  rw [← Option.some.inj h2]) fun i x y h1 h2 => by
  rw [h1] at h2
  rw [← Option.some.inj h2]
  exact hx x (List.mem_of_getElem? h1)
theorem noS_non : NoSeq K H .non := ⟨_, .base .non, (kitAny2 (a := false) (b := false) (kit_ty (by decide +kernel)) (kit_ty (by decide +kernel)) : _ = some (false || false))⟩
theorem noS_int {i : Int} : NoSeq K H (.int i) := ⟨_, .base (.int i), (kitAny2 (a := false) (b := false) (kit_ty (by decide +kernel)) (kit_ty (by decide +kernel)) : _ = some (false || false))⟩
theorem noS_bl {i : Bool} : NoSeq K H (.bl i) := ⟨_, .base (.bl i), (kitAny2 (a := false) (b := false) (kit_ty (by decide +kernel)) (kit_ty (by decide +kernel)) : _ = some (false || false))⟩
theorem noS_str {i : Str} : NoSeq K H (.str i) := ⟨_, .base (.str i), (kitAny2 (a := false) (b := false) (kit_ty (by decide +kernel)) (kit_ty (by decide +kernel)) : _ = some (false || false))⟩
theorem noS_dK {a : Addr} {xs : List (Key × V)} (h : H a = some (.dK xs)) : NoSeq K H (.ref a) := ⟨_, .base (.dK h), (kitAny2 (a := false) (b := false) (kit_ty (by decide +kernel)) (kit_ty (by decide +kernel)) : _ = some (false || false))⟩
theorem sm_strL {n : Nat} {xs : List Str} : ∀ v ∈ xs.map V.str, Sm C0 H n v v := fun v hv => by
  obtain ⟨x, _, rfl⟩ := List.mem_map.mp hv
  exact .str _ _
theorem same_disp {H : Hp} {p q : Addr} {o1 o2 o3 : HO} (np : H p = none) (nq : upd H p o1 q = none) : Same H (upd (upd (upd H p o1) q o2) p o3) := same_un np ((sameUp np).trans (sameUp nq))
theorem ne_fresh {H : Hp} {p q : Addr} {o1 : HO} (nq : upd H p o1 q = none) : q ≠ p := fun z => by
  rw [z, upd_same] at nq
  cases nq
theorem at_disp {H : Hp} {p q : Addr} {o1 o2 o3 : HO} (nq : upd H p o1 q = none) : upd (upd (upd H p o1) q o2) p o3 q = some o2 := by
  rw [upd_ne (ne_fresh nq), upd_same]
theorem mergeK2 {k k' : Key} {x x' : V} (h : k ≠ k') : mergeK [] [(k, x), (k', x')] = [(k, x), (k', x')] := by
  show putK [(k, x)] k' x' = _
  rw [putK_new (fun kv hk z => ?_)]
  · rfl
  · obtain rfl : kv = (k, x) := by simpa using hk
    exact h z
theorem mem2 {X : V → Prop} {x y : V} (h1 : X x) (h2 : X y) : ∀ v ∈ [x, y], X v := fun v hv => by
  rcases List.mem_cons.mp hv with rfl | hv
  · exact h1
  · obtain rfl : v = y := by simpa using hv
    exact h2
theorem mem1 {X : V → Prop} {x : V} (h1 : X x) : ∀ v ∈ [x], X v := fun v hv => by
  obtain rfl : v = x := by simpa using hv
  exact h1
theorem noStr_non : NoStr K H .non := ⟨_, .base .non, kit_ty (by decide +kernel)⟩
theorem noStr_int {i : Int} : NoStr K H (.int i) := ⟨_, .base (.int i), kit_ty (by decide +kernel)⟩
theorem noStr_bl {i : Bool} : NoStr K H (.bl i) := ⟨_, .base (.bl i), kit_ty (by decide +kernel)⟩
theorem noStr_lst {p : Addr} {xs : List V} (h : H p = some (.lst xs)) : NoStr K H (.ref p) := ⟨_, .base (.lst h), kit_ty (by decide +kernel)⟩
theorem noStr_tup {p : Addr} {xs : List V} (h : H p = some (.tup xs)) : NoStr K H (.ref p) := ⟨_, .base (.tup h), kit_ty (by decide +kernel)⟩
theorem noStr_dK {p : Addr} {xs : List (Key × V)} (h : H p = some (.dK xs)) : NoStr K H (.ref p) := ⟨_, .base (.dK h), kit_ty (by decide +kernel)⟩
theorem noStr_seq {p : Addr} {xs : List V} (h : Seq H p xs) : NoStr K H (.ref p) := h.elim noStr_lst noStr_tup
theorem mk_start {H1 : Hp} {x dx : Addr} {C : Addr} (nx : H1 x = none) (ndx : H1 dx = none) (ne : dx ≠ x) : Same H1 (upd (upd H1 dx (.own x)) x (.ins C dx [])) := by
  refine (sameUp (o := .own x) ndx).trans (sameUp (o := .ins C dx []) ?_)
  rw [upd_ne ne.symm]
  exact nx
theorem sm_pair {C0 p q1 q2 q3 : Addr} {H : Hp} {t : Str} {v : V} {n : Nat} (e1 : H q1 = some (.lst [.ref p])) (e3 : H q3 = some (.lst [.ref q2])) (ep : H p = some (.tup [.str t, v])) (eq : H q2 = some (.tup [.str t, v])) (s : Sm C0 H n v v) : Sm C0 H (n + 2) (.ref q1) (.ref q3) := by
  refine .lst (n := n + 1) e1 e3 rfl (by simp) fun i x y h1 h2 => ?_
  obtain rfl : x = .ref p := by simpa using List.mem_of_getElem? h1
  obtain rfl : y = .ref q2 := by simpa using List.mem_of_getElem? h2
  refine .tup (n := n) ep eq rfl (by simp) fun i x y h1 h2 => ?_
  rw [h1] at h2
  obtain rfl := Option.some.inj h2
  exact mem2 (X := fun x => Sm C0 _ n x x) (.str _ _) s x (List.mem_of_getElem? h1)
theorem mem_putK {kvs : List (Key × V)} {k : Key} {x : V} {p : Key × V} (h : p ∈ putK kvs k x) : p ∈ kvs ∨ p.2 = x := by
  unfold putK at h
  by_cases hc : (kvs.any fun kv => decide (kv.1 = k)) = true
  · rw [if_pos hc] at h
    obtain ⟨kv, hk, e⟩ := List.mem_map.mp h
    by_cases h1 : kv.1 = k
    · rw [if_pos h1] at e
      exact .inr (by rw [← e])
    · rw [if_neg h1] at e
      exact .inl (e ▸ hk)
  · rw [if_neg hc] at h
    rcases List.mem_append.mp h with h | h
    · exact .inl h
    · obtain rfl : p = (k, x) := by simpa using h
      exact .inr rfl
theorem NoMk.ext {v : V} (s : ExtN H H') (h : NoMk K C0 H v) : NoMk K C0 H' v := by
  obtain ⟨t, h1, h2⟩ := h
  exact ⟨t, TyX.ext s h1, h2⟩
theorem NfBad.ext {v : V} {ds : List Str} {i : Nat} (s : ExtN H H') (h : NfBad K H v ds i) : NfBad K H' v ds i := by
  rcases h with ⟨h, e⟩ | ⟨a, xs, e, h1, h2, h3⟩
  · exact .inl ⟨h.ext s, e⟩
  · exact .inr ⟨a, xs, e, h1.ext s, fun v hv => (h2 v hv).ext s, h3⟩
theorem mk_badRule {T : List (Addr × Str)} {CN : Addr} {H1 : Hp} {rv mv nv : V} {R : VK} {E : XK} (NC : NtC K CN) (hT : Tabs T H1) (hb : (∃ r : Str, rv = .str r ∧ r ∉ rules) ∨ NoStr K H1 rv)
    (k : ∀ H' d, Up T H1 H' → H' d = some (.xd [("thing", rv)]) → E (.ref (He.ga K "BadRule")) (some d) H') :
    ∀ x dx, H1 x = none → H1 dx = none → dx ≠ x → spNt K T C0 [.ref x, rv, mv, nv] (upd (upd H1 dx (.own x)) x (.ins CN dx [])) R E := by
  intro x dx nx ndx ne
  have s2 := mk_start (C := CN) nx ndx ne
  exact ⟨x, CN, dx, rv, mv, nv, rfl, upd_same, NC, hT.ext s2, .inl ⟨hb.imp id fun h => h.ext (ExtN.of s2), fun H' d u e => k H' d ((Up.same hT s2).trans u) e⟩⟩
theorem mk_badMarket {T : List (Addr × Str)} {CN : Addr} {H1 : Hp} {r : Str} {mv nv : V} {R : VK} {E : XK} (NC : NtC K CN) (hT : Tabs T H1) (hr : r ∈ rules) (hb : NoMk K C0 H1 mv)
    (k : ∀ H' d, Up T H1 H' → H' d = some (.xd [("thing", mv)]) → E (.ref (He.ga K "BadMarket")) (some d) H') :
    ∀ x dx, H1 x = none → H1 dx = none → dx ≠ x → spNt K T C0 [.ref x, .str r, mv, nv] (upd (upd H1 dx (.own x)) x (.ins CN dx [])) R E := by
  intro x dx nx ndx ne
  have s2 := mk_start (C := CN) nx ndx ne
  exact ⟨x, CN, dx, _, mv, nv, rfl, upd_same, NC, hT.ext s2, .inr ⟨r, rfl, hr, .inl ⟨hb.ext (ExtN.of s2), fun H' d u e => k H' d ((Up.same hT s2).trans u) e⟩⟩⟩
theorem mk_badNeeds {T : List (Addr × Str)} {CN m : Addr} {H1 : Hp} {r : Str} {nv : V} {ns ys : List Str} {rw_ : Str → List Str} {i : Nat} {R : VK} {E : XK} (NC : NtC K CN) (hT : Tabs T H1) (hr : r ∈ rules) (M : MkAt H1 C0 m ns ys rw_) (hn : ns.length ≤ 63) (hb : NfBad K H1 nv (dueNs r ns) i)
    (k : ∀ H' d, Up T H1 H' → H' d = some (.xd [("index", .int (i : Nat))]) → E (.ref (He.ga K "BadNeeds")) (some d) H') :
    ∀ x dx, H1 x = none → H1 dx = none → dx ≠ x → spNt K T C0 [.ref x, .str r, .ref m, nv] (upd (upd H1 dx (.own x)) x (.ins CN dx [])) R E := by
  intro x dx nx ndx ne
  have s2 := mk_start (C := CN) nx ndx ne
  obtain ⟨dm, fm, hm, _⟩ := M.ins
  exact ⟨x, CN, dx, _, _, nv, rfl, upd_same, NC, hT.ext s2, .inr ⟨r, rfl, hr, .inr ⟨m, ns, ys, rw_, rfl, ne_of_none hm nx, M.ext (ExtN.of s2), hn, .inl ⟨i, hb.ext (ExtN.of s2), fun H' d u e => k H' d ((Up.same hT s2).trans u) e⟩⟩⟩⟩
/-! needs that are loosened -/
def Al (K : PySem.W.Frag) (H : Hp) (v x : V) : Prop := (∃ s : Str, v = .str s ∧ x = .str s ∧ s.length ≤ sizeLine) ∨ ((∀ s : Str, v ≠ .str s) ∧ (∀ s : Str, x ≠ .str s) ∧ NoStr K H x)
theorem odd_item {a b : Addr} {B : Nat} {v : V} (S : Stm H a b B) (h : ItE a b H v) : ∃ t, DatT K H a b t v ∧ Dep 1 t ∧ ∀ H' x' Sx, KeepBut a b H H' → OutT H' t x' Sx → Al K H' v x' := by
  cases h with
  | str l => exact ⟨_, .leaf noS_str, .leaf _ _, fun H' x' Sx _ o => by
      cases o
      exact .inl ⟨_, rfl, rfl, l⟩⟩
  | non => exact ⟨_, .leaf noS_non, .leaf _ _, fun H' x' Sx _ o => by
      cases o
      exact .inr ⟨(fun x z => by cases z), (fun x z => by cases z), noStr_non⟩⟩
  | int i => exact ⟨_, .leaf noS_int, .leaf _ _, fun H' x' Sx _ o => by
      cases o
      exact .inr ⟨(fun x z => by cases z), (fun x z => by cases z), noStr_int⟩⟩
  | bl i => exact ⟨_, .leaf noS_bl, .leaf _ _, fun H' x' Sx _ o => by
      cases o
      exact .inr ⟨(fun x z => by cases z), (fun x z => by cases z), noStr_bl⟩⟩
  | @row p ss h hn hp => exact ⟨_, dat_row (r := ss) hp.1 hp.2 (.inl h) (by omega), dep_row _, fun H' x' Sx _ o => by
      obtain ⟨q, rfl, hq, _⟩ := out_row o
      exact .inr ⟨(fun x z => by cases z), (fun x z => by cases z), noStr_seq hq⟩⟩
  | dic h =>
    obtain ⟨pa, pb⟩ := S.off h fun is z => by cases z
    exact ⟨_, .leaf (noS_dK h), .leaf _ _, fun H' x' Sx kb o => by
      cases o
      exact .inr ⟨(fun x z => by cases z), (fun x z => by cases z), noStr_dK (kb _ _ pa pb h)⟩⟩
inductive AlL (K : PySem.W.Frag) (H : Hp) : List V → List V → Prop
  | nil : AlL K H [] []
  | cons {v x : V} {vs xs : List V} (h : Al K H v x) (r : AlL K H vs xs) : AlL K H (v :: vs) (x :: xs)
theorem odd_items {a b : Addr} {B : Nat} (S : Stm H a b B) : ∀ {xs : List V}, (∀ v ∈ xs, ItE a b H v) → ∃ ts, DatTs K H a b ts xs ∧ (∀ t ∈ ts, Dep 1 t) ∧ ∀ H' ys Sx, KeepBut a b H H' → OutTs H' ts ys Sx → AlL K H' xs ys
  | [], _ => ⟨[], .nil, fun t ht => by simp at ht, fun H' ys Sx _ o => by
      cases o
      exact .nil⟩
  | v :: vs, h => by
    obtain ⟨t, d1, p1, k1⟩ := odd_item (K := K) S (h v (by simp))
    obtain ⟨ts, d2, p2, k2⟩ := odd_items S (xs := vs) fun u hu => h u (by simp [hu])
    refine ⟨t :: ts, .cons d1 d2, fun u hu => ?_, fun H' ys Sx kb o => ?_⟩
    · rcases List.mem_cons.mp hu with rfl | hu
      · exact p1
      · exact p2 u hu
    · cases o with
      | cons o1 o2 _ => exact .cons (k1 _ _ _ kb o1) (k2 _ _ _ kb o2)
theorem AlL.fw {xs ys : List V} (h : AlL K H xs ys) : ∀ (fit : Str → Bool) (seen : List Str) (i : Nat), fwI fit ys seen i = fwI fit xs seen i := by
  induction h with
  | nil => intros; rfl
  | cons h r ih =>
    intro fit seen i
    rcases h with ⟨s, rfl, rfl, _⟩ | ⟨h1, h2, _⟩
    · show (if (decide (s ∈ seen) || !fit s) = true then some i else fwI fit _ (s :: seen) (i + 1)) = (if (decide (s ∈ seen) || !fit s) = true then some i else fwI fit _ (s :: seen) (i + 1))
      rw [ih]
    · rw [fwI_no h1, fwI_no h2]
theorem AlL.len {xs ys : List V} (h : AlL K H xs ys) : ys.length = xs.length := by
  induction h with
  | nil => rfl
  | cons h r ih => rw [List.length_cons, List.length_cons, ih]
theorem AlL.nf {xs ys : List V} (h : AlL K H xs ys) (ds : List Str) : nfI ds ys = nfI ds xs := by
  unfold nfI
  rw [h.fw, h.len]
theorem AlL.itm {xs ys : List V} (h : AlL K H xs ys) : ∀ y ∈ ys, Itm K H y := by
  induction h with
  | nil => intro y hy; simp at hy
  | cons h r ih =>
    intro y hy
    rcases List.mem_cons.mp hy with rfl | hy
    · rcases h with ⟨s, _, rfl, l⟩ | ⟨_, _, h⟩
      · exact .inl ⟨s, rfl, l⟩
      · exact .inr h
    · exact ih y hy
theorem ItE.itm {a b : Addr} {v : V} (h : ItE a b H v) : Itm K H v := by
  cases h with
  | str l => exact .inl ⟨_, rfl, l⟩
  | non => exact .inr noStr_non
  | int i => exact .inr noStr_int
  | bl i => exact .inr noStr_bl
  | row h hn hp => exact .inr (noStr_lst h)
  | dic h => exact .inr (noStr_dK h)
theorem odd_need {a b : Addr} {B : Nat} {v : V} (S : Stm H a b B) (h : OddE a b H v) : ∃ t, DatT K H a b t v ∧ Dep 2 t ∧
    ((NoSeq K H v ∧ ∀ H' x' Sx, KeepBut a b H H' → OutT H' t x' Sx → NoSeq K H' x') ∨
     ∃ (q : Addr) (xs : List V), v = .ref q ∧ Seq H q xs ∧ (∀ v ∈ xs, Itm K H v) ∧ xs.length ≤ 200 ∧ ∀ H' x' Sx, KeepBut a b H H' → OutT H' t x' Sx → ∃ (p : Addr) (ys : List V), x' = .ref p ∧ Seq H' p ys ∧ (∀ y ∈ ys, Itm K H' y) ∧ ys.length ≤ 200 ∧ ∀ ds, nfI ds ys = nfI ds xs) := by
  have lf : ∀ {u : V}, NoSeq K H u → ∃ t, DatT K H a b t u ∧ Dep 2 t ∧ ((NoSeq K H u ∧ ∀ H' x' Sx, KeepBut a b H H' → OutT H' t x' Sx → NoSeq K H' x') ∨
     ∃ (q : Addr) (xs : List V), u = .ref q ∧ Seq H q xs ∧ (∀ v ∈ xs, Itm K H v) ∧ xs.length ≤ 200 ∧ ∀ H' x' Sx, KeepBut a b H H' → OutT H' t x' Sx → ∃ (p : Addr) (ys : List V), x' = .ref p ∧ Seq H' p ys ∧ (∀ y ∈ ys, Itm K H' y) ∧ ys.length ≤ 200 ∧ ∀ ds, nfI ds ys = nfI ds xs) :=
    fun {u} nu => ⟨_, .leaf nu, .leaf _ _, .inl ⟨nu, fun H' x' Sx kb o => by
      cases o
      exact nu.but kb S.ha S.hb⟩⟩
  cases h with
  | non => exact lf noS_non
  | int i => exact lf noS_int
  | bl i => exact lf noS_bl
  | str x => exact lf noS_str
  | dic h => exact lf (noS_dK h)
  | @lst q xs h hn hx hq =>
    obtain ⟨ts, d, p, k⟩ := odd_items (K := K) S hx
    refine ⟨.node ts, .node hq.1 hq.2 (.inl h) hn d, .node p, .inr ⟨q, xs, rfl, .inl h, fun v hv => (hx v hv).itm, hn, fun H' x' Sx kb o => ?_⟩⟩
    cases o with
    | @node _ p ys Sq hq hr _ =>
      have al := k _ _ _ kb hr
      exact ⟨p, ys, rfl, hq, al.itm, by rw [al.len]; exact hn, al.nf⟩
theorem fw_nd {fit : Str → Bool} : ∀ (zs seen : List Str) (i : Nat), fwI fit (zs.map V.str) seen i = none → zs.Nodup ∧ ∀ z ∈ zs, fit z = true ∧ z ∉ seen
  | [], _, _, _ => ⟨.nil, fun z hz => by simp at hz⟩
  | z :: zs, seen, i, h => by
    have h' : (if (decide (z ∈ seen) || !fit z) = true then some i else fwI fit (zs.map V.str) (z :: seen) (i + 1)) = none := h
    by_cases hc : (decide (z ∈ seen) || !fit z) = true
    · rw [if_pos hc] at h'
      cases h'
    · rw [if_neg hc] at h'
      obtain ⟨nd, al⟩ := fw_nd zs _ _ h'
      have hc' : ¬ (z ∈ seen) ∧ fit z = true := by simpa using hc
      refine ⟨List.nodup_cons.mpr ⟨fun hz => (al z hz).2 (by simp), nd⟩, fun u hu => ?_⟩
      rcases List.mem_cons.mp hu with rfl | hu
      · exact ⟨hc'.2, hc'.1⟩
      · exact ⟨(al u hu).1, fun z' => (al u hu).2 (by simp [z'])⟩
theorem nf_good {ds : List Str} {p : Addr} {ys : List V} (hd : ds.length ≤ 63) (nd : ds.Nodup) (h : Seq H p ys) (hi : ∀ y ∈ ys, Itm K H y) (e : nfI ds ys = none) : ∃ zs, NfOk K H (.ref p) ds zs := by
  have e0 : fwI (fun x => decide (x ∈ ds)) ys [] 0 = none := by
    unfold nfI at e
    cases h : fwI (fun x => decide (x ∈ ds)) ys [] 0 with
    | none => rfl
    | some i =>
      rw [h] at e
      cases e
  have st := fwI_strs ys [] 0 e0
  obtain ⟨zs, rfl⟩ : ∃ zs : List Str, ys = zs.map V.str := by
    clear e e0 h hi
    induction ys with
    | nil => exact ⟨[], rfl⟩
    | cons y ys ih =>
      obtain ⟨x, rfl⟩ := st y (by simp)
      obtain ⟨zs, rfl⟩ := ih fun v hv => st v (by simp [hv])
      exact ⟨x :: zs, rfl⟩
  obtain ⟨nz, al⟩ := fw_nd zs [] 0 e0
  have hl := left_len nd nz fun x hx => of_decide_eq_true (al x hx).1
  refine ⟨zs, p, rfl, h, fun z hz => ?_, by omega, e⟩
  rcases hi (.str z) (List.mem_map.mpr ⟨z, hz, rfl⟩) with ⟨x, ex, l⟩ | n
  · rw [V.str.inj ex]
    exact l
  · exact absurd rfl (n.ne z)
end
end Mn
/-! _law_told_right -/
namespace Mn
open PySem PySem.Spec PyProof.Rows L2 Md Me Ml LamX Mi Mo
abbrev sTN : Stmt := top 49
/-- what == asks of the class Notice -/
structure NtQ (K : PySem.W.Frag) (CN C0 : Addr) : Prop where
  nm : PySem.W.notFirst K CN (.ref C0) = true
  nt : PySem.W.notFirst K CN (.type "tuple") = true
  nn : PySem.W.notFirst K CN (.ref CN) = true
  km : PySem.W.kitOne K (.ref C0) (.ref CN) = some false
  kt : PySem.W.kitOne K (.type "tuple") (.ref CN) = some false
section
variable {K : PySem.W.Frag} {C0 CN n m n' m' : Addr} {H : Hp} {r r' : Str} {ns ys zs ns' ys' zs' : List Str} {rw_ rw' : Str → List Str} {neg : Bool} {Q : VK}
theorem eq_nt (NQ : NtQ K CN C0) (N1 : NtAll H C0 CN n r m ns ys rw_ zs) (N2 : NtAll H C0 CN n' r' m' ns' ys' rw' zs') (k : Q (.bl (if neg then !eqN r ns rw_ zs r' ns' rw' zs' else eqN r ns rw_ zs r' ns' rw' zs')) H) : rOwnG K CN (spEqN K C0 CN) neg (.ref n) (.ref n') H Q := by
  obtain ⟨dx, nl, hn, hl⟩ := N1.o
  obtain ⟨dx', nl', hn', hl'⟩ := N2.o
  exact ⟨n, dx, _, _, rfl, hn, .ins hn', NQ.nn, n, m, _, r, ns, ys, rw_, zs, rfl, N1, .inr ⟨n', m', r', ns', ys', rw', zs', rfl, N2, _, rfl, k⟩⟩
theorem eq_nt_mk {fE : Addr} (NQ : NtQ K CN C0) (ME : MkE K C0 fE) (N1 : NtAll H C0 CN n r m ns ys rw_ zs) (M' : MkAt H C0 m' ns' ys' rw') (k : Q (.bl (if neg then true else false)) H) : rOwnG K CN (spEqN K C0 CN) neg (.ref n) (.ref m') H Q := by
  obtain ⟨dx, nl, hn, hl⟩ := N1.o
  obtain ⟨dx', fs', hm', _⟩ := M'.ins
  refine ⟨n, dx, _, _, rfl, hn, .ins hm', NQ.nm, n, m, _, r, ns, ys, rw_, zs, rfl, N1, .inl ⟨_, ME.ty hm', NQ.km, _, rfl, ?_⟩⟩
  cases neg <;> exact k
theorem eq_nt_tup {a : Addr} {xs : List V} (NQ : NtQ K CN C0) (N1 : NtAll H C0 CN n r m ns ys rw_ zs) (h : H a = some (.tup xs)) (k : Q (.bl (if neg then true else false)) H) : rOwnG K CN (spEqN K C0 CN) neg (.ref n) (.ref a) H Q := by
  obtain ⟨dx, nl, hn, hl⟩ := N1.o
  refine ⟨n, dx, _, _, rfl, hn, .tup h, NQ.nt, n, m, _, r, ns, ys, rw_, zs, rfl, N1, .inl ⟨_, .base (.tup h), NQ.kt, _, rfl, ?_⟩⟩
  cases neg <;> exact k
end
theorem eqN_refl {r : Str} {ns zs : List Str} {rw_ : Str → List Str} : eqN r ns rw_ zs r ns rw_ zs = true := by
  unfold eqN
  rw [decide_eq_true rfl, decide_eq_true rfl, eqM_refl]
  rfl
theorem NtAll.ext {H H' : Hp} {C0 CN n m : Addr} {r : Str} {ns ys zs : List Str} {rw_ : Str → List Str} (s : ExtN H H') (h : NtAll H C0 CN n r m ns ys rw_ zs) : NtAll H' C0 CN n r m ns ys rw_ zs := ⟨h.o.ext s, h.m.ext s, h.ok, h.z⟩
mutual
theorem Ow.kind {H : Hp} : ∀ {n : Nat} {v : V} {S : List Addr}, Ow H n v S → ∀ s ∈ S, ∃ o, H s = some o ∧ (∀ ps, o ≠ .tbl ps) ∧ ∀ φ, o ≠ .ext φ
  | _, _, _, .leaf n x, s, hs => by simp at hs
  | _, _, _, .seq h hl r hp, s, hs => by
    rcases List.mem_cons.mp hs with z | z
    · rw [z]
      rcases h with h | h
      · exact ⟨_, h, ntb_lst, fun φ z => by cases z⟩
      · exact ⟨_, h, ntb_tup, fun φ z => by cases z⟩
    · exact Ows.kind r s z
  | _, _, _, .dic h hl r hp, s, hs => by
    rcases List.mem_cons.mp hs with z | z
    · rw [z]
      exact ⟨_, h, ntb_dK, fun φ z => by cases z⟩
    · exact Ows.kind r s z
theorem Ows.kind {H : Hp} : ∀ {n : Nat} {vs : List V} {S : List Addr}, Ows H n vs S → ∀ s ∈ S, ∃ o, H s = some o ∧ (∀ ps, o ≠ .tbl ps) ∧ ∀ φ, o ≠ .ext φ
  | _, _, _, .nil n, s, hs => by simp at hs
  | _, _, _, .cons h r d, s, hs => by
    rcases List.mem_append.mp hs with z | z
    · exact Ow.kind h s z
    · exact Ows.kind r s z
end
theorem Tabs.ow {T : List (Addr × Str)} {H H' : Hp} {n : Nat} {v : V} {S : List Addr} (t : Tabs T H) (o : Ow H n v S) (k : ∀ c o, c ∉ S → H c = some o → H' c = some o) : Tabs T H' := Tabs.keepS t fun q u hu e => k q u (fun z => by
  obtain ⟨o', e', n1, n2⟩ := o.kind q z
  rw [e] at e'
  obtain rfl := Option.some.inj e'
  rcases hu with ⟨ps, w⟩ | ⟨φ, w⟩
  · exact n1 _ w
  · exact n2 _ w) e
theorem ow_told3 {H : Hp} {L l1 l2 D : Addr} {zs ns ys : List Str} {bs : List Addr} {rw_ : Str → List Str} (hL : H L = some (.lst [.ref l1, .ref l2, .ref D])) (h1 : H l1 = some (.lst (zs.map V.str))) (h2 : H l2 = some (.lst (ns.map V.str))) (hD : H D = some (.dK ((ys.zip bs).map fun p => (Sum.inr p.1, V.ref p.2)))) (lb : bs.length = ys.length)
    (hr : ∀ (i : Nat) (n : Str) (c : Addr), ys[i]? = some n → bs[i]? = some c → H c = some (.lst ((rw_ n).map V.str))) (nb : bs.Nodup) (z1 : zs.length ≤ 1000) (z2 : ns.length ≤ 1000) (z3 : ys.length ≤ 1000) (z4 : ∀ n ∈ ys, (rw_ n).length ≤ 1000) (d12 : l1 ≠ l2) (b1 : l1 ∉ bs) (b2 : l2 ∉ bs) (f1 : L ≠ l1) (f2 : L ≠ l2) (f3 : L ∉ bs) :
    Ow H 3 (.ref L) (L :: ([l1] ++ ([l2] ++ ((D :: bs) ++ [])))) := by
  have row : ∀ c ∈ bs, ∃ n ∈ ys, H c = some (.lst ((rw_ n).map V.str)) := fun c hc => by
    obtain ⟨i, hi⟩ := List.getElem?_of_mem hc
    obtain ⟨n, hn⟩ : ∃ n, ys[i]? = some n := ⟨ys[i]'(by have := lt_of_get hi; omega), List.getElem?_eq_getElem _⟩
    exact ⟨n, List.mem_of_getElem? hn, hr i n c hn hi⟩
  have dl : ∀ {q : Addr} {xs : List V}, H q = some (.lst xs) → q ≠ D := fun {q xs} e z => by
    rw [z, hD] at e
    cases e
  have db : D ∉ bs := fun z => by
    obtain ⟨n, _, e⟩ := row D z
    exact dl e rfl
  have e : ((ys.zip bs).map fun p => ((Sum.inr p.1 : Key), V.ref p.2)).map Prod.snd = bs.map V.ref := by
    rw [List.map_map]
    have e1 : (Prod.snd ∘ fun p : Str × Addr => ((Sum.inr p.1 : Key), V.ref p.2)) = V.ref ∘ Prod.snd := rfl
    rw [e1, ← List.map_map, List.map_snd_zip (by omega)]
  refine .seq (.inl hL) (by simp) (.cons (ow_strs (.inl h1) z1) (.cons (ow_strs (.inl h2) z2) (.cons (.dic hD ?_ ?_ db) (.nil _) (fun s _ z => by simp at z)) ?_) ?_) ?_
  · rw [List.length_map, List.length_zip, lb, Nat.min_self]
    exact z3
  · rw [e]
    exact ows_refs nb fun c hc => by
      obtain ⟨n, hn, h⟩ := row c hc
      exact ⟨_, .inl h, z4 n hn⟩
  · intro s hs z
    obtain rfl : s = l2 := by simpa using hs
    rw [List.append_nil] at z
    rcases List.mem_cons.mp z with z | z
    · exact dl h2 z
    · exact b2 z
  · intro s hs z
    obtain rfl : s = l1 := by simpa using hs
    rw [List.append_nil] at z
    rcases List.mem_append.mp z with z | z
    · exact d12 (by simpa using z)
    · rcases List.mem_cons.mp z with z | z
      · exact dl h1 z
      · exact b1 z
  · intro z
    rw [List.append_nil] at z
    rcases List.mem_append.mp z with z | z
    · exact f1 (by simpa using z)
    · rcases List.mem_append.mp z with z | z
      · exact f2 (by simpa using z)
      · rcases List.mem_cons.mp z with z | z
        · exact dl hL z
        · exact f3 z
theorem NtOwn.ins {H : Hp} {CN n m : Addr} {r : Str} {zs : List Str} (h : NtOwn H CN n r m zs) : ∃ dx fs, H n = some (.ins CN dx fs) ∧ fs.lookup ("rule" : Str) = none ∧ fs.lookup ("needs" : Str) = none ∧ fs.lookup ("market" : Str) = none := by
  obtain ⟨dx, nl, h1, _⟩ := h
  exact ⟨dx, _, h1, rfl, rfl, rfl⟩
/-- a notice unlike the one at hand, that stays while the objects at X change -/
def OtS (C0 CN : Addr) (X : List Addr) (H : Hp) (q : Addr) (r : Str) (ns : List Str) (rw_ : Str → List Str) (zs : List Str) : Prop := ∃ (r' : Str) (m' : Addr) (ns' ys' : List Str) (rw' : Str → List Str) (zs' : List Str),
  (∀ H'' : Hp, (∀ c o, c ∉ X → H c = some o → (∀ ps, o ≠ .tbl ps) → H'' c = some o) → NtAll H'' C0 CN q r' m' ns' ys' rw' zs') ∧ eqN r ns rw_ zs r' ns' rw' zs' = false
section
variable {C0 CN q : Addr} {X Y : List Addr} {H H' : Hp} {r : Str} {ns zs : List Str} {rw_ : Str → List Str}
theorem OtS.re (h : OtS C0 CN X H q r ns rw_ zs) (k : ∀ c o, c ∉ X → H c = some o → (∀ ps, o ≠ .tbl ps) → c ∉ Y ∧ H' c = some o) : OtS C0 CN Y H' q r ns rw_ zs := by
  obtain ⟨r', m', ns', ys', rw', zs', h1, h2⟩ := h
  exact ⟨r', m', ns', ys', rw', zs', fun H'' kk => h1 H'' fun c o n e nt => kk c o (k c o n e nt).1 (k c o n e nt).2 nt, h2⟩
theorem OtS.at_ (h : OtS C0 CN X H q r ns rw_ zs) : ∃ (r' : Str) (m' : Addr) (ns' ys' : List Str) (rw' : Str → List Str) (zs' : List Str), NtAll H C0 CN q r' m' ns' ys' rw' zs' ∧ eqN r ns rw_ zs r' ns' rw' zs' = false := by
  obtain ⟨r', m', ns', ys', rw', zs', h1, h2⟩ := h
  exact ⟨r', m', ns', ys', rw', zs', h1 H fun _ _ _ e _ => e, h2⟩
theorem OtS.mk {Hb H1 H3 : Hp} {m' : Addr} {r' : Str} {ns' ys' zs' : List Str} {rw' : Str → List Str} (u : ExtN Hb H3) (fX : ∀ c ∈ X, Nw Hb c) (M : MkAt Hb C0 m' ns' ys' rw') (nx : H1 q = none) (keep : ∀ H'', (∀ c o, (Nw H1 c ∨ c = q) → (∀ ps, o ≠ .tbl ps) → H3 c = some o → H'' c = some o) → NtOwn H'' CN q r' m' zs')
    (hX : ∀ c ∈ X, ∃ o, H1 c = some o ∧ ∀ ps, o ≠ .tbl ps) (ok : MkOk ns' rw') (z : StrsOk zs') (e : eqN r ns rw_ zs r' ns' rw' zs' = false) : OtS C0 CN X H3 q r ns rw_ zs := by
  refine ⟨r', m', ns', ys', rw', zs', fun H'' kk => ⟨keep H'' fun c o hc nt e => kk c o (fun hx => ?_) e nt, M.ext fun c o e nt => kk c o (fun hx => ?_) (u c o e nt) nt, ok, z⟩, e⟩
  · obtain ⟨o', e', n'⟩ := hX c hx
    rcases hc with w | w
    · obtain ⟨ps, w⟩ := w _ e'
      exact n' ps w
    · rw [w, nx] at e'
      cases e'
  · obtain ⟨ps, w⟩ := fX c hx o e
    exact nt ps w
end
/-- the list of the others -/
structure TnI (T : List (Addr × Str)) (C0 CN L : Addr) (Hb H' : Hp) (r : Str) (ns : List Str) (rw_ : Str → List Str) (zs : List Str) (k : Nat) : Prop where
  u : ExtN Hb H'
  t : Tabs T H'
  f : Nw Hb L
  o : ∃ ms : List Addr, ms.length ≤ k ∧ H' L = some (.lst (ms.map V.ref)) ∧ ∀ q ∈ ms, OtS C0 CN [L] H' q r ns rw_ zs
section
variable {T : List (Addr × Str)} {C0 CN L : Addr} {Hb H' H'' : Hp} {r : Str} {ns zs : List Str} {rw_ : Str → List Str} {k : Nat}
theorem TnI.up (I : TnI T C0 CN L Hb H' r ns rw_ zs k) (u : Up T H' H'') : TnI T C0 CN L Hb H'' r ns rw_ zs k := by
  obtain ⟨ms, l, e, h⟩ := I.o
  exact ⟨I.u.trans u.e, u.t, I.f, ms, l, u.e _ _ e ntb_lst, fun q hq => (h q hq).re fun c o n e nt => ⟨n, u.e c o e nt⟩⟩
theorem TnI.more {n' : Nat} (I : TnI T C0 CN L Hb H' r ns rw_ zs k) (n : k ≤ n') : TnI T C0 CN L Hb H' r ns rw_ zs n' := by
  obtain ⟨ms, l, e, h⟩ := I.o
  exact ⟨I.u, I.t, I.f, ms, by omega, e, h⟩
theorem TnI.set {ms ms2 : List Addr} (I : TnI T C0 CN L Hb H' r ns rw_ zs k) (l : ms.length ≤ k) (e : H' L = some (.lst (ms.map V.ref))) (h : ∀ q ∈ ms, OtS C0 CN [L] H' q r ns rw_ zs) (h2 : ∀ q ∈ ms2, OtS C0 CN [L] H' q r ns rw_ zs) :
    TnI T C0 CN L Hb (upd H' L (.lst (ms.map V.ref ++ ms2.map V.ref))) r ns rw_ zs (k + ms2.length) := by
  refine ⟨fun c o e1 nt => ?_, Tabs.put I.t e ntb_lst (fun φ z => by cases z), I.f, ms ++ ms2, by rw [List.length_append]; omega, by rw [upd_same, List.map_append], fun q hq => ?_⟩
  · rw [upd_ne (fun z => by
      obtain ⟨ps, w⟩ := I.f o (z ▸ e1)
      exact nt ps w)]
    exact I.u c o e1 nt
  · refine OtS.re ((List.mem_append.mp hq).elim (h q) (h2 q)) fun c o n e nt => ⟨n, ?_⟩
    rw [upd_ne (by simpa using n)]
    exact e
end
theorem rot_ne {zs : List Str} (nd : zs.Nodup) (l : 1 < zs.length) : zs ≠ zs.drop 1 ++ zs.take 1 := by
  match zs, nd, l with
  | z :: y :: rest, nd, _ =>
    intro e
    have e : z :: y :: rest = (y :: rest) ++ [z] := e
    have : z = y := (List.cons.inj e).1
    exact (List.nodup_cons.mp nd).1 (by simp [this])
def spTN (T : List (Addr × Str)) : Sp := fun vs H Q _ => ∃ (a b t c D e : Addr) (B : Nat) (r : Str) (ns : List Str) (rw_ : Str → List Str) (as : List Addr) (zs : List Str), vs = [.ref a, .ref t] ∧ NIni T H a b t c D e B r ns rw_ as zs ∧ ns.length ≤ 12 ∧ ("extra1" : Str) ∉ ns ∧ B + 6000000 ≤ 1000000000 ∧ ∀ H', UpS T a b H H' → Stm H' a b (B + 6000000) → Q (.bl true) H'
section
variable {P : Program} {w : World} {K : PySem.W.Frag} {mg : Str → Option Value} {base : Heap}
theorem kb_nt {f : Addr} {fd : FuncData} (F : Fun K "__init__" "Notice.__init__" (sNt 0) f fd) : KBn K fd ["self", "rule", "market", "needs"] 1 ["needs", "market", "rule"] (fun us ws => us ++ ws.reverse) (fun vs zs => vs ++ zs.reverse) := by
  obtain ⟨oc, od, kV, doc, pm, an, cdv, ct, osl, rfl, lk, hcd⟩ := F.ex
  refine ⟨fun s us ws X l1 l2 => ?_, fun {vs us zs ws} r1 r2 => r1.append (vals_rev r2)⟩
  match us, ws, l1, l2 with
  | [u], [x, y, z], _, _ => exact BindsTo.of_looks fun M => PySem.W.Looks.of_pure rfl
theorem scTN : FnScope ["_law_stream", "_law_notice", "_law_rule", "_law_people", "_law_wishes", "_law_needs", "_law_market", "_law_handed", "_law_was", "_law_made", "_law_twin", "_law_longer", "_law_others", "_law_some", "_law_one", "_law_other"] ["_law_stream", "_law_notice"] (defScope sTN) := ⟨rfl, rfl, rfl, by decide +kernel, rfl, by decide +kernel, by decide +kernel⟩
theorem ok_tn {T : List (Addr × Str)} {f fI fE fNt fNE fNR fNM fNN fP fW C0 CN : Addr} {fd fdI fdE fdNt fdNE fdNR fdNM fdNN fdP fdW : FuncData} (F : Fun K "_law_told_right" "_law_told_right" sTN f fd) (hs : ∃ o, base.get? sysModules = some o)
    (MC : MkC K C0) (MM : Mk K C0 fI) (gM : mg "Market" = some (.ref C0)) (ME : MkE K C0 fE) (MQ : MkQ K C0)
    (GI : FnOk P w K mg base (L2.CX P w) 6 fI fdI ["self", "people", "wishes"] (spInit K T)) (bI : Binds K fdI ["self", "people", "wishes"] [])
    (GE : FnOk P w K mg base CX0 1 fE fdE ["self", "other"] (spEqM K C0)) (bE : Binds K fdE ["self", "other"] [])
    (GP : FnOk P w K mg base CX0 1 fP fdP ["self"] (spPeopleM C0)) (mP : Meth K C0 "people" fP) (bP : Binds K fdP ["self"] [])
    (GW : FnOk P w K mg base CX0 1 fW fdW ["self"] (spWishesM C0)) (mW : Meth K C0 "wishes" fW) (bW : Binds K fdW ["self"] [])
    (NC : NtC K CN) (NE : NtE K CN fNE) (NQ : NtQ K CN C0) (NM : Mk K CN fNt) (gNt : mg "Notice" = some (.ref CN)) (GNt : FnOk P w K mg base (L2.CX P w) 4 fNt fdNt ["self", "rule", "market", "needs"] (spNt K T C0)) (bNt : Binds K fdNt ["self", "rule", "market", "needs"] [])
    (kbN : KBn K fdNt ["self", "rule", "market", "needs"] 1 ["needs", "market", "rule"] (fun us ws => us ++ ws.reverse) (fun vs zs => vs ++ zs.reverse))
    (GNE : FnOk P w K mg base CX0 2 fNE fdNE ["self", "other"] (spEqN K C0 CN)) (bNE : Binds K fdNE ["self", "other"] [])
    (GNR : FnOk P w K mg base CX0 1 fNR fdNR ["self"] (spNRule CN)) (mNR : Meth K CN "rule" fNR) (bNR : Binds K fdNR ["self"] [])
    (GNN : FnOk P w K mg base CX0 1 fNN fdNN ["self"] (spNNeeds CN)) (mNN : Meth K CN "needs" fNN) (bNN : Binds K fdNN ["self"] [])
    (GNM : FnOk P w K mg base CX0 8 fNM fdNM ["self"] (spNMarket T C0 CN)) (mNM : Meth K CN "market" fNM) (bNM : Binds K fdNM ["self"] [])
    (CA : Cl P w K mg base 8 "_law_a_made" ["_law_stream", "_law_people", "_law_wishes"] (spMade K T C0)) (CL : Cl P w K mg base 3 "_law_loose" ["_law_stream", "_law_thing"] (spLoose K 1))
    (CS : Cl P w K mg base 8 "_law_same" ["_law_found", "_law_due"] (spSame C0 5)) (CSp : Cl P w K mg base 5 "_law_a_spoiled" ["_law_thing"] (spSp 3)) (CN_ : Cl P w K mg base 9 "_law_a_notice_made" ["_law_stream", "_law_notice"] (spANotM T C0 CN))
    (gRepr : mg "repr" = none) (gLen : mg "len" = none) (gAny : mg "any" = none) : Mg.FnG P w K mg base 10 f fd ["_law_stream", "_law_notice"] (spTN T) := by
  obtain ⟨fA, fdA, GA, kA, bA, gA⟩ := CA.ex
  obtain ⟨fL, fdL, GL, kL, bL, gL⟩ := CL.ex
  obtain ⟨fS, fdS, GS, kS, bS, gS⟩ := CS.ex
  obtain ⟨fSp, fdSp, GP_, kP_, bP_, gP_⟩ := CSp.ex
  obtain ⟨fN, fdN, GN, kN, bN, gN⟩ := CN_.ex
  refine Mg.FnG.made F scTN (fun vs H Q E h => ?_) (fun cdv A outer s H vs Q E hgd hr h => ?_)
  · obtain ⟨a, b, t, c, D, e, B, r, ns, rw_, as, zs, rfl, _⟩ := h
    rfl
  · obtain ⟨a, b, t, c, D, e, B, r, ns, rw_, as, zs, rfl, I0, hn12, nx1, hB, k⟩ := h
    have nd := scTN.nd
    have hu64 : A.units + 3 + 64 < cLine := by
      have := hr.un
      exact Nat.lt_of_le_of_lt (by show A.units + 3 + 64 ≤ A.units + 3 + 16 * 9 + 200; omega) this
    refine ⟨_, pss_cons (ps_asg (pv 1) (pg_tup rfl (pgs_cons (pg_name (i := 2) nd rfl (Or.inr rfl)) (pgs_cons (pg_name (i := 3) nd rfl (Or.inr rfl)) (pgs_cons (pg_name (i := 4) nd rfl (Or.inl rfl)) (pgs_cons (pg_name (i := 5) nd rfl (Or.inl rfl)) pgs_nil))))))
      (pss_cons (ps_asg (pe_tup (pa_cons (pe_call GA (hr.mono (by decide)) rfl gA kA bA .nil pass0 (pa_cons (pv 0) (pa_cons (pv 3) (pa_cons (pv 4) pa_nil)))) (pa_cons (pe_call GL (hr.mono (by decide)) rfl gL kL bL .nil pass0 (pa_cons (pv 0) (pa_cons (pv 5) pa_nil))) pa_nil))) (pg_tup rfl (pgs_cons (pg_name (i := 6) nd rfl (Or.inr rfl)) (pgs_cons (pg_name (i := 7) nd rfl (Or.inl rfl)) pgs_nil))))
      (pss_cons (ps_asg (pe_tup (pa_cons (pe_callB (Mq.call_repr hgd hu64 hs) (by rfl) gRepr boot_repr (pa_cons (pv 7) pa_nil)) (pa_cons (pe_makeK0 NM GNt (hr.mono (by decide)) rfl gNt kbN passE0 (pk_cons (pv 7) (pk_cons (pv 6) (pk_cons (pv 2) pk_nil)))) pa_nil))) (pg_tup rfl (pgs_cons (pg_name (i := 8) nd rfl (Or.inl rfl)) (pgs_cons (pg_name (i := 9) nd rfl (Or.inr rfl)) pgs_nil))))
      (pss_cons (ps_if (PW.pt (pw_or (pt_not (pt_val (pe_call GS (hr.mono (by decide)) rfl gS kS bS .nil pass0 (pa_cons (pe_lst (pa_cons (pe_meth0 (pv 9) NC.c mNR GNR (hr.mono (by decide)) bNR .nil pass0) (pa_cons (pe_meth0 (pv 9) NC.c mNN GNN (hr.mono (by decide)) bNN .nil pass0) pa_nil))) (pa_cons (pe_lst (pa_cons (pv 2) (pa_cons (pv 5) pa_nil))) pa_nil))))) (pw_or1 (pt_cmpR op_ne (pe_callB (Mq.call_repr hgd hu64 hs) (by rfl) gRepr boot_repr (pa_cons (pv 7) pa_nil)) (pv 8) (nomark _))))) (pss_one (ps_ret pe_bl)) pss_nil)
      (pss_cons (ps_if (pt_not (pt_cmpR (op_eqM GE bE ME (hr.mono (by decide))) (pe_meth0 (pv 9) NC.c mNM GNM (hr.mono (by decide)) bNM .nil pass0) (pv 6) (nomark _))) (pss_one (ps_ret pe_bl)) pss_nil)
      (pss_cons (ps_expr (pe_call GP_ (hr.mono (by decide)) rfl gP_ kP_ bP_ .nil pass0 (pa_cons (pv 7) pa_nil)))
      (pss_cons (ps_expr (pe_call GP_ (hr.mono (by decide)) rfl gP_ kP_ bP_ .nil pass0 (pa_cons (pe_lst (pa_cons (pe_meth0 (pv 9) NC.c mNN GNN (hr.mono (by decide)) bNN .nil pass0) (pa_cons (pe_meth0 (pe_meth0 (pv 9) NC.c mNM GNM (hr.mono (by decide)) bNM .nil pass0) MC.c mP GP (hr.mono (by decide)) bP .nil pass0) (pa_cons (pe_meth0 (pe_meth0 (pv 9) NC.c mNM GNM (hr.mono (by decide)) bNM .nil pass0) MC.c mW GW (hr.mono (by decide)) bW .nil pass0) pa_nil)))) pa_nil)))
      (pss_cons (ps_if (PW.pt (pw_or (pt_not (pt_val (pe_call GS (hr.mono (by decide)) rfl gS kS bS .nil pass0 (pa_cons (pe_lst (pa_cons (pe_meth0 (pv 9) NC.c mNR GNR (hr.mono (by decide)) bNR .nil pass0) (pa_cons (pe_meth0 (pv 9) NC.c mNN GNN (hr.mono (by decide)) bNN .nil pass0) pa_nil))) (pa_cons (pe_lst (pa_cons (pv 2) (pa_cons (pv 5) pa_nil))) pa_nil))))) (pw_or1 (pt_not (pt_cmpR (op_eqM GE bE ME (hr.mono (by decide))) (pe_meth0 (pv 9) NC.c mNM GNM (hr.mono (by decide)) bNM .nil pass0) (pe_make MM GI (hr.mono (by decide)) rfl gM bI .nil passE0 (pa_cons (pv 3) (pa_cons (pv 4) pa_nil))) (nomark _)))))) (pss_one (ps_ret pe_bl)) pss_nil)
      (pss_cons (ps_par (i := 10) (j := 11) rfl nd rfl rfl (by decide) rfl rfl (pa_cons (pe_call GN (hr.mono (by decide)) rfl gN kN bN .nil pass0 (pa_cons (pv 0) (pa_cons (pv 1) pa_nil))) (pa_cons (pe_make MM GI (hr.mono (by decide)) rfl gM bI .nil passE0 (pa_cons (pe_op op_cat (pv 3) (pe_lst (pa_cons pe_str pa_nil))) (pa_cons (pv 4) pa_nil))) pa_nil)) rfl)
      (C8.pss_cut (ps_set (i := 12) nd rfl (Or.inl rfl) (pe_lst (pa_cons (pe_make NM GNt (hr.mono (by decide)) rfl gNt bNt .nil passE0 (pa_cons (pv 2) (pa_cons (pv 11) (pa_cons (pe_ifExp (pt_cmpR op_eq (pv 2) pe_str (nomark _)) (pe_op op_cat (pv 5) (pe_lst (pa_cons pe_str pa_nil))) (pe_lst pa_nil)) pa_nil)))) pa_nil)))
      (C8.pss_cut (ps_if (pt_cmpR op_gt (pe_callB call_len_seq (by rfl) gLen PySem.boot_len (pa_cons (pv 5) pa_nil)) pe_int (nomark _)) (pss_one (ps_expr (pe_bm PySem.F.plainAttrs_list PySem.F.slot_list_append PySem.F.type_list_append mt_append (pv 12) (pa_cons (pe_make NM GNt (hr.mono (by decide)) rfl gNt bNt .nil passE0 (pa_cons (pv 2) (pa_cons (pv 6) (pa_cons (pe_op op_cat (pe_slice sl_list (pv 5) (po_some pe_int) po_none) (pe_slice sl_list (pv 5) po_none (po_some pe_int))) pa_nil)))) pa_nil)))) pss_nil)
      (C8.pss_cut (ps_set (i := 13) nd rfl (Or.inl rfl) (pe_ifExp (pt_cmpR op_eq (pv 2) pe_str (nomark _)) (pe_lst (pa_cons pe_str (pa_cons pe_str pa_nil))) (pe_lst (pa_cons pe_str (pa_cons pe_str (pa_cons pe_str pa_nil))))))
      (pss_cons (ps_expr (pe_bm PySem.F.plainAttrs_list PySem.F.slot_list_extend PySem.F.type_list_extend mt_extend (pv 12) (pa_cons (pe_lc (own := [("_law_one", 14)]) (g := gName 14) (tt := tTest (tOp rNe (tVar 14) (tVar 2))) (te := tMake CN (spNt K T C0) [] E0 (tCons (tVar 14) (tCons (tVar 6) (tCons (tIf (tTest (tOp rEq (tVar 14) (tC (.str "pairs")))) (tVar 3) (tLst tNil)) tNil)))) rfl nd (pi_list (pv 13)) (blkOk_by (N := ["_law_stream", "_law_notice", "_law_rule", "_law_people", "_law_wishes", "_law_needs", "_law_market", "_law_handed", "_law_was", "_law_made", "_law_twin", "_law_longer", "_law_others", "_law_some", "_law_one", "_law_other"]) (sc := (defScope sTN)) (by decide +kernel)) (fun _ _ _ _ _ => pg_name (i := 14) nd rfl (Or.inl rfl)) (fun _ _ _ _ _ => pts_one (pt_cmpR op_ne (pv 14) (pv 2) (nomark _))) (fun _ _ _ _ _ => by exact pe_make NM GNt (hr.mono (by decide)) rfl gNt bNt .nil passE0 (pa_cons (pv 14) (pa_cons (pv 6) (pa_cons (pe_ifExp (pt_cmpR op_eq (pv 14) pe_str (nomark _)) (pv 3) (pe_lst pa_nil)) pa_nil))))) pa_nil)))
      (pss_cons (ps_if (PW.pt (pw_or (pt_cmpR (op_eqG GNE bNE NE.e (hr.mono (by decide))) (pv 9) (pv 6) (nomark _)) (pw_or (pt_cmpR (op_eqG GNE bNE NE.e (hr.mono (by decide))) (pv 9) (pv 1) (nomark _)) (pw_or (pt_not (pt_cmpR (op_eqG GNE bNE NE.e (hr.mono (by decide))) (pv 9) (pv 10) (nomark _))) (pw_or1 (pt_cmpR (op_neG GNE bNE NE.e (hr.mono (by decide))) (pv 9) (pv 10) (nomark _))))))) (pss_one (ps_ret pe_bl)) pss_nil)
      (pss_one (ps_ret (pe_not (pe_callB ((cr_any rfl)) (by rfl) gAny (by decide +kernel) (pa_cons (pe_lc (own := [("_law_other", 15)]) (g := gName 15) (tt := tYes) (te := tOrV (tOp (rOwnG K CN (spEqN K C0 CN) false) (tVar 9) (tVar 15)) (tNotV (tOp (rOwnG K CN (spEqN K C0 CN) true) (tVar 9) (tVar 15)))) rfl nd (pi_list (pv 12)) (blkOk_by (N := ["_law_stream", "_law_notice", "_law_rule", "_law_people", "_law_wishes", "_law_needs", "_law_market", "_law_handed", "_law_was", "_law_made", "_law_twin", "_law_longer", "_law_others", "_law_some", "_law_one", "_law_other"]) (sc := (defScope sTN)) (by decide +kernel)) (fun _ _ _ _ _ => pg_name (i := 15) nd rfl (Or.inl rfl)) (fun _ _ _ _ _ => pts_nil) (fun _ _ _ _ _ => by exact pe_or (pe_cmpR (op_eqG GNE bNE NE.e (hr.mono (by decide))) (pv 9) (pv 15) (nomark _)) (pe_one (pe_not (pe_cmpR (op_neG GNE bNE NE.e (hr.mono (by decide))) (pv 9) (pv 15) (nomark _)))))) pa_nil)))))))))))))))))), ?_⟩
    have gn := I0.I.gn
    have gr := I0.I.gr
    have S := I0.I.S
    have hT := I0.I.T
    have hl63 := gn.l
    have rl : ∀ n ∈ ns, (rw_ n).length ≤ 1000 := fun n hn => Nat.le_trans (rowOk_of gn gr hn).2 (by decide)
    have zl : zs.length ≤ ns.length := by
      rw [I0.pz.length_eq]
      exact due_len
    have gz : ∀ z ∈ zs, goodNm z = true := fun z hz => gn.g z (due_sub z (I0.pz.mem_iff.mp hz))
    refine ⟨_, rfl, t, _, rfl, SqT.of I0.ht, rfl, _, _, rfl, _, _, rfl, _, _, rfl, _, _, rfl, rfl, ?_⟩
    -- a market, needs to be handed
    refine ⟨_, rfl, _, rfl, _, rfl, a, b, c, D, B, ns, rw_, as, rfl, S, hT, I0.I.ca, I0.I.cb, I0.I.c, I0.I.R, gn, gr, by omega, fun H1 m ys u1 S1 nm M1 st1 => ?_⟩
    have he1 := u1.e _ _ I0.ea I0.eb I0.he ntb_lst
    refine ⟨_, rfl, _, rfl, a, b, _, _, rowT zs, rfl, S1, by omega, dat_row I0.ea I0.eb (.inl he1) (by omega), dep_row _, by decide, fun H2 x' S0 S2 kb2 ot fr => ?_⟩
    obtain ⟨p, rfl, hp, rfl⟩ := out_row ot
    have np1 : H1 p = none := fr p (by simp)
    have u2 : UpS T a b H1 H2 := .kb u1.t S1 kb2
    refine ⟨(show 2 ≤ sizeLine by decide), fun t1 nt1 => ?_⟩
    have s3 := sameUp (o := .tup [.ref m, .ref p]) nt1
    refine ⟨t1, _, rfl, SqT.of upd_same, rfl, _, _, rfl, _, _, rfl, rfl, ?_⟩
    have hp3 := hp.same s3
    have u3 : UpS T a b H1 _ := u2.trans (.same u2.t s3)
    have S3 := S2.ext (ExtN.of s3)
    have M3 := st1 _ fun q o n1 n2 e nt => u3.e q o n1 n2 e nt
    generalize upd H2 t1 (.tup [.ref m, .ref p]) = H3 at s3 hp3 u3 S3 M3 ⊢
    -- the notice
    obtain ⟨d, dx, rd⟩ := Mq.row_dx hp3
    obtain ⟨sh, dp⟩ := Mq.row_show rd
    have ln := Mq.row_len rd gz (by omega)
    refine ⟨_, rfl, p, d, rfl, dx, sh, by omega, Nat.le_trans ln (by decide), ?_⟩
    refine ⟨_, rfl, _, rfl, _, rfl, rfl, rfl, mk_nt NC u3.t I0.hr M3 hl63 (nfOk gn I0.pz hp3) fun H4 x u4 nx o4 keep4 => ?_⟩
    have hzs : StrsOk zs := fun z hz => goodNm.ok (gz z hz)
    have ok := mkOk_of gn gr
    -- it stays while what was handed is changed
    have stN : ∀ H'', (∀ q o, q ≠ a → q ≠ b → q ≠ p → H4 q = some o → (∀ ps, o ≠ .tbl ps) → H'' q = some o) → NtAll H'' C0 CN x r m ns ys rw_ zs := fun H'' kk => by
      refine ⟨keep4 H'' fun c o hc nt e => ?_, st1 H'' fun q o n1 n2 e nt => kk q o n1 n2 (fun z => by
        rw [z, np1] at e
        cases e) (u4.e q o (u3.e q o n1 n2 e nt) nt) nt, ok, hzs⟩
      have no : ∀ {q' : Addr} {u : HO}, H3 q' = some u → (∀ ps, u ≠ .tbl ps) → c ≠ q' := fun {q' u} e1 n1 z => by
        rcases hc with w | w
        · obtain ⟨ps, e⟩ := w _ (z ▸ e1)
          exact n1 ps e
        · rw [← z, w, nx] at e1
          cases e1
      obtain ⟨_, ha⟩ := S3.ha
      obtain ⟨_, hb⟩ := S3.hb
      refine kk c o (no ha ntb_lst) (no hb ntb_lst) (fun z => ?_) e nt
      rcases hp3 with h | h
      · exact no h ntb_lst z
      · exact no h ntb_tup z
    refine ⟨(show 2 ≤ sizeLine by decide), fun t2 nt2 => ?_⟩
    refine ⟨t2, _, rfl, SqT.of upd_same, rfl, _, _, rfl, _, _, rfl, rfl, ?_⟩
    have u14 : UpS T a b H1 H4 := u3.trans (.up u4)
    have u04 : UpS T a b H H4 := u1.trans u14
    have S4 := S3.ext u4.e
    have s5 := sameUp (o := .tup [.str d.shown, .ref x]) nt2
    have u45 : Up T H4 _ := .same u4.t s5
    have N5 := stN _ fun q o _ _ _ e nt => s5 _ _ e
    have he5 := s5 _ _ (u04.e _ _ I0.ea I0.eb I0.he ntb_lst)
    generalize upd H4 t2 (.tup [.str d.shown, .ref x]) = H5 at s5 u45 N5 he5 ⊢
    -- it tells what it was made of
    obtain ⟨dxx, nl, hx5, hnl5⟩ := N5.o
    have tells : ∀ {H' : Hp}, ExtN H5 H' → NtAll H' C0 CN x r m ns ys rw_ zs ∧ H' x = some (.ins CN dxx [("_rule", .str r), ("_market", .ref m), ("_needs", .ref nl)]) := fun e => ⟨N5.ext e, e _ _ hx5 ntb_ins⟩
    refine ⟨_, rfl, x, dxx, _, rfl, hx5, rfl, x, m, r, zs, rfl, N5.o, ?_⟩
    refine ⟨_, rfl, x, dxx, _, rfl, hx5, rfl, x, m, r, zs, rfl, N5.o, fun l1 nl1 => ⟨(show 2 ≤ sizeLine by decide), fun L1 nL1 => ?_⟩⟩
    have q1 := sameUp (o := .lst (zs.map V.str)) nl1
    have q2 := sameUp (o := .lst [.str r, .ref l1]) nL1
    refine ⟨_, rfl, _, rfl, (show 2 ≤ sizeLine by decide), fun L2 nL2 => ?_⟩
    have q3 := sameUp (o := .lst [.str r, .ref e]) nL2
    have q13 := (q1.trans q2).trans q3
    have f1 := q3 _ _ (q2 _ _ (upd_same (a := l1) (o := HO.lst (zs.map V.str)) (H := H5)))
    have f2 := q3 _ _ (upd_same (a := L1) (o := HO.lst [.str r, .ref l1]) (H := upd H5 l1 (.lst (zs.map V.str))))
    have f3 : upd (upd (upd H5 l1 (.lst (zs.map V.str))) L1 (.lst [.str r, .ref l1])) L2 (.lst [.str r, .ref e]) L2 = some (.lst [.str r, .ref e]) := upd_same
    generalize upd (upd (upd H5 l1 (.lst (zs.map V.str))) L1 (.lst [.str r, .ref l1])) L2 (.lst [.str r, .ref e]) = H6 at q13 f1 f2 f3 ⊢
    have same2 : ∀ {H' : Hp} {l L1 L2 : Addr}, H' l = some (.lst (zs.map V.str)) → H' e = some (.lst (zs.map V.str)) → H' L1 = some (.lst [.str r, .ref l]) → H' L2 = some (.lst [.str r, .ref e]) → Sm C0 H' 5 (.ref L1) (.ref L2) := fun {H' l L1 L2} a1 a2 a3 a4 => by
      refine .lst (n := 4) a3 a4 rfl (by simp) fun i x y h1 h2 => ?_
      match i, h1, h2 with
      | 0, h1, h2 =>
        obtain rfl := Option.some.inj h1
        obtain rfl := Option.some.inj h2
        exact .str _ _
      | 1, h1, h2 =>
        obtain rfl := Option.some.inj h1
        obtain rfl := Option.some.inj h2
        exact sm_strs (n := 3) a1 a2 (by omega)
      | i + 2, h1, _ => cases h1
    refine ⟨_, _, rfl, same2 f1 (q13 _ _ he5) f2 f3, fun H7 s7 => ⟨true, rfl, iteF ?_⟩⟩
    have u47 : Up T H4 H7 := (u45.andS q13).andS s7
    have dx7 : Mq.Dx H7 (.ref p) d := (dx.ext u4.e).ext u47.e
    refine ⟨_, rfl, p, d, rfl, dx7, sh, by omega, Nat.le_trans ln (by decide), _, rfl, rfl, _, rfl, ?_⟩
    rw [decide_eq_true rfl]
    refine iteF ?_
    -- its market
    have u57 : ExtN H5 H7 := ExtN.of (q13.trans s7)
    obtain ⟨N7, hx7⟩ := tells u57
    refine ⟨_, rfl, x, dxx, _, rfl, hx7, rfl, x, m, r, zs, ns, ys, rw_, rfl, N7.o, u47.t, N7.m, gn, gr, fun H8 x1 ys1 u8 nx1' M8 => ⟨_, rfl, eq_mk MQ M8 ok (N7.m.ext u8.e) ok ?_⟩⟩
    rw [eqM_refl]
    refine ⟨true, rfl, iteF ?_⟩
    -- what was handed is spoiled
    have u48 := u47.trans u8
    have hp8 : Seq H8 p (zs.map V.str) := (hp3.ext u4.e).ext u48.e
    refine ⟨_, rfl, .ref p, [p], rfl, ow_strs (n := 2) hp8 (by omega), fun H9 k9 => ?_⟩
    have t9 : Tabs T H9 := Tabs.ow u48.t (ow_strs (n := 2) hp8 (by omega)) k9
    have w9 : ∀ q o, q ≠ p → H4 q = some o → (∀ ps, o ≠ .tbl ps) → H9 q = some o := fun q o n e nt => k9 q o (by simpa using n) (u48.e q o e nt)
    have N9 := stN H9 fun q o _ _ n e nt => w9 q o n e nt
    obtain ⟨dx9, fs9, hx9, lr9, ln9, lm9⟩ := N9.o.ins
    refine ⟨_, rfl, x, dx9, fs9, rfl, hx9, ln9, x, m, r, zs, rfl, N9.o, fun l3 nl3 => ?_⟩
    have v1 := sameUp (o := .lst (zs.map V.str)) nl3
    have hl3 : upd H9 l3 (.lst (zs.map V.str)) l3 = some (.lst (zs.map V.str)) := upd_same
    refine ⟨_, rfl, x, dx9, fs9, rfl, v1 _ _ hx9, lm9, x, m, r, zs, ns, ys, rw_, rfl, N9.o.ext (ExtN.of v1), t9.ext v1, N9.m.ext (ExtN.of v1), gn, gr, fun H10 x2 ys2 u10 nx2 M10 => ?_⟩
    obtain ⟨dm2, fm2, hm2, lp2, lw2, _⟩ := M10.ins
    refine ⟨x2, dm2, fm2, rfl, hm2, lp2, x2, ns, ys2, rw_, rfl, M10, fun l4 nl4 => ?_⟩
    have v2 := sameUp (o := .lst (ns.map V.str)) nl4
    have hl4 : upd H10 l4 (.lst (ns.map V.str)) l4 = some (.lst (ns.map V.str)) := upd_same
    have a10 : Up T H9 H10 := (Up.same t9 v1).trans u10
    have a11 := a10.andS v2
    have hl3' := v2 _ _ (u10.e _ _ hl3 ntb_lst)
    refine ⟨_, rfl, x, dx9, fs9, rfl, a11.e _ _ hx9 ntb_ins, lm9, x, m, r, zs, ns, ys, rw_, rfl, N9.o.ext a11.e, a11.t, N9.m.ext a11.e, gn, gr, fun H11 x3 ys3 u11 nx3 M11 => ?_⟩
    obtain ⟨dm3, fm3, hm3, lp3, lw3, _⟩ := M11.ins
    refine ⟨x3, dm3, fm3, rfl, hm3, lw3, x3, ns, ys3, rw_, rfl, M11, gn.nd, gn.l, fun H12 D3 bs3 s12 R3 => ?_⟩
    refine ⟨(show 3 ≤ sizeLine by decide), fun L3 nL3 => ?_⟩
    have v3 := sameUp (o := .lst [.ref l3, .ref l4, .ref D3]) nL3
    have g3 := u11.e _ _ hl3' ntb_lst
    have g4 := u11.e _ _ hl4 ntb_lst
    have y3l : ys3.length = ns.length := M11.pm.length_eq
    have a12 : Up T H9 (upd H12 L3 (.lst [.ref l3, .ref l4, .ref D3])) := (a11.trans u11).andS (s12.trans v3)
    have Ow3 : Ow (upd H12 L3 (.lst [.ref l3, .ref l4, .ref D3])) 3 (.ref L3) (L3 :: ([l3] ++ ([l4] ++ ((D3 :: bs3) ++ [])))) := by
      refine ow_told3 upd_same (v3 _ _ (s12 _ _ g3)) (v3 _ _ (s12 _ _ g4)) (v3 _ _ R3.d) R3.l (fun i n c e1 e2 => v3 _ _ (R3.r i n c e1 e2)) R3.n (by omega) (by omega) (by omega) (fun n hn => rl n (M11.pm.mem_iff.mp hn)) ?_ ?_ ?_ ?_ ?_ ?_
      · exact ne_of_none (u10.e _ _ hl3 ntb_lst) nl4
      · intro z
        rw [R3.f _ z] at g3
        cases g3
      · intro z
        rw [R3.f _ z] at g4
        cases g4
      · exact (ne_of_none (s12 _ _ g3) nL3).symm
      · exact (ne_of_none (s12 _ _ g4) nL3).symm
      · intro z
        obtain ⟨i, hi⟩ := List.getElem?_of_mem z
        obtain ⟨n, hn⟩ : ∃ n, ys3[i]? = some n := ⟨ys3[i]'(by have := lt_of_get hi; have := R3.l; omega), List.getElem?_eq_getElem _⟩
        have := R3.r i n L3 hn hi
        rw [nL3] at this
        cases this
    have nw3 : ∀ s ∈ (L3 :: ([l3] ++ ([l4] ++ ((D3 :: bs3) ++ [])))), Nw H9 s := fun s hs => by
      have hs : s = L3 ∨ s = l3 ∨ s = l4 ∨ s = D3 ∨ s ∈ bs3 := by simpa using hs
      rcases hs with rfl | rfl | rfl | rfl | hs
      · exact Nw.of ((a11.trans u11).andS s12).e nL3
      · exact fun o e => by
          rw [nl3] at e
          cases e
      · exact Nw.of a10.e nl4
      · exact Nw.of (a11.trans u11).e R3.fD
      · exact Nw.of (a11.trans u11).e (R3.f s hs)
    generalize (L3 :: ([l3] ++ ([l4] ++ ((D3 :: bs3) ++ [])))) = S3_ at Ow3 nw3
    refine ⟨.ref L3, S3_, rfl, Ow3, fun H13 k13 => ?_⟩
    have t13 : Tabs T H13 := Tabs.ow a12.t Ow3 k13
    have w13 : ∀ q o, q ≠ p → H4 q = some o → (∀ ps, o ≠ .tbl ps) → H13 q = some o := fun q o n e nt => k13 q o (fun z => by
      obtain ⟨ps, e2⟩ := nw3 q z o (w9 q o n e nt)
      exact nt ps e2) (a12.e q o (w9 q o n e nt) nt)
    obtain ⟨pa, pb⟩ := S1.nd np1
    have N13 := stN H13 fun q o _ _ n e nt => w13 q o n e nt
    have v13 : ∀ q o, q ≠ a → q ≠ b → H q = some o → (∀ ps, o ≠ .tbl ps) → H13 q = some o := fun q o n1 n2 e nt => w13 q o (fun z => by
      have := u1.e q o n1 n2 e nt
      rw [z, np1] at this
      cases this) (u04.e q o n1 n2 e nt) nt
    have u13 : UpS T a b H H13 := ⟨v13, t13⟩
    have S13 : Stm H13 a b (B + 1000000 + 1000 ^ 1) := by
      obtain ⟨xa, ha⟩ := S4.ha
      obtain ⟨xb, hb⟩ := S4.hb
      refine S4.two (fun o e => ?_) (fun o e => ?_)
      · rw [ha] at e
        rw [← Option.some.inj e]
        exact w13 _ _ pa.symm ha ntb_lst
      · rw [hb] at e
        rw [← Option.some.inj e]
        exact w13 _ _ pb.symm hb ntb_lst
    clear nw3
    -- it tells the same
    have he13 := v13 _ _ I0.ea I0.eb I0.he ntb_lst
    obtain ⟨dxz, fsz, hxz, lrz, lnz, lmz⟩ := N13.o.ins
    refine ⟨_, rfl, x, dxz, fsz, rfl, hxz, lrz, x, m, r, zs, rfl, N13.o, ?_⟩
    refine ⟨_, rfl, x, dxz, fsz, rfl, hxz, lnz, x, m, r, zs, rfl, N13.o, fun l5 nl5 => ⟨(show 2 ≤ sizeLine by decide), fun L5 nL5 => ?_⟩⟩
    have j1 := sameUp (o := .lst (zs.map V.str)) nl5
    have j2 := sameUp (o := .lst [.str r, .ref l5]) nL5
    refine ⟨_, rfl, _, rfl, (show 2 ≤ sizeLine by decide), fun L6 nL6 => ?_⟩
    have j3 := sameUp (o := .lst [.str r, .ref e]) nL6
    have j13 := (j1.trans j2).trans j3
    have i1 := j3 _ _ (j2 _ _ (upd_same (a := l5) (o := HO.lst (zs.map V.str)) (H := H13)))
    have i2 := j3 _ _ (upd_same (a := L5) (o := HO.lst [.str r, .ref l5]) (H := upd H13 l5 (.lst (zs.map V.str))))
    have i3 : upd (upd (upd H13 l5 (.lst (zs.map V.str))) L5 (.lst [.str r, .ref l5])) L6 (.lst [.str r, .ref e]) L6 = some (.lst [.str r, .ref e]) := upd_same
    generalize upd (upd (upd H13 l5 (.lst (zs.map V.str))) L5 (.lst [.str r, .ref l5])) L6 (.lst [.str r, .ref e]) = H14 at j13 i1 i2 i3 ⊢
    refine ⟨_, _, rfl, same2 i1 (j13 _ _ he13) i2 i3, fun H15 s15 => ⟨true, rfl, iteF ?_⟩⟩
    have a15 : Up T H13 H15 := (Up.same t13 j13).andS s15
    have N15 := N13.ext a15.e
    have u15 := u13.trans (.up a15)
    refine ⟨_, rfl, x, dxz, fsz, rfl, a15.e _ _ hxz ntb_ins, lmz, x, m, r, zs, ns, ys, rw_, rfl, N15.o, a15.t, N15.m, gn, gr, fun H16 x4 ys4 u16 nx4 M16 => ?_⟩
    have I16 : Ini T H16 a b c D _ ns rw_ as := I0.I.up (u15.trans (.up u16)) ((S13.ext a15.e).ext u16.e)
    refine ⟨_, rfl, _, rfl, mk_reads MC u16.t (pplOk (.inl I16.c) gn) (wshOk (ini_rows I16.R.l I16.R.d I16.R.r gn.nd (fun n hn => ⟨hn, rfl⟩) fun n hn z => absurd hn z) gr gn) fun H17 m5 ys5 u17 nm5 M17 keep17 => eq_mk MQ (M16.ext u17.e) ok M17 ok ?_⟩
    rw [eqM_refl]
    refine ⟨true, rfl, iteF ?_⟩
    -- its twin, a market with one more
    have a17 : Up T H13 H17 := (a15.trans u16).trans u17
    have I17 : NIni T H17 a b t c D e _ r ns rw_ as zs := I0.up (u13.trans (.up a17)) (S13.ext a17.e)
    refine ⟨_, rfl, _, rfl, a, b, t, c, D, e, _, r, ns, rw_, as, zs, rfl, I17, by omega, fun H18 n2 m2 ys2' u18 S18 nw2 st2 => ?_⟩
    have I18 := I17.up u18 S18
    refine ⟨_, rfl, (show 1 ≤ sizeLine by decide), fun p1 np1' => ?_⟩
    have z1 := sameUp (o := .lst [V.str "extra1"]) np1'
    refine ⟨c, p1, _, _, rfl, rfl, z1 _ _ I18.I.c, upd_same, Nat.le_trans (by rw [List.length_map]; exact (show ns.length + 1 ≤ 64 by omega)) (by decide), fun p2 np2 => ?_⟩
    have z2 := sameUp (o := .lst (ns.map V.str ++ [V.str "extra1"])) np2
    have hp2 : upd (upd H18 p1 (.lst [V.str "extra1"])) p2 (.lst (ns.map V.str ++ [V.str "extra1"])) p2 = some (.lst ((ns ++ [("extra1" : Str)]).map V.str)) := by
      rw [upd_same, List.map_append]
      rfl
    have b19 := Up.same I18.I.T (z1.trans z2)
    have I19 := I18.up (.up b19) (S18.ext b19.e)
    generalize upd (upd H18 p1 (.lst [V.str "extra1"])) p2 (.lst (ns.map V.str ++ [V.str "extra1"])) = H19 at hp2 b19 I19 ⊢
    have gnC : GoodNs (ns ++ [("extra1" : Str)]) := ⟨by
      rw [List.nodup_append]
      exact ⟨gn.nd, by simp, fun p hp q hq z => nx1 (by
        have e : q = "extra1" := by simpa using hq
        rw [← e, ← z]
        exact hp)⟩, fun n hn => by
      rcases List.mem_append.mp hn with h | h
      · exact gn.g n h
      · rw [List.mem_singleton.mp h]
        decide +kernel, by rw [List.length_append, List.length_singleton]; omega⟩
    have grC : GoodRows (ns ++ [("extra1" : Str)]) (fun n => if n ∈ ns then rw_ n else []) := fun n hn => by
      show GoodRow (ns ++ [("extra1" : Str)]) n (if n ∈ ns then rw_ n else [])
      by_cases z : n ∈ ns
      · rw [if_pos z]
        exact ⟨(gr n z).nd, (gr n z).ne, fun y hy => List.mem_append_left _ ((gr n z).sub y hy)⟩
      · rw [if_neg z]
        exact ⟨by simp, by simp, fun y hy => by simp at hy⟩
    refine ⟨_, rfl, mk_reads MC I19.I.T (pplOk (.inl hp2) gnC) (wshOk (ini_rows I19.I.R.l I19.I.R.d I19.I.R.r gn.nd (fun n hn => ⟨List.mem_append_left _ hn, if_pos hn⟩) fun n _ z => if_neg z) grC gnC) fun H20 lg ysL u20 nlg M20 keep20 => ?_⟩
    refine ⟨_, _, rfl, ?_⟩
    have I20 := I19.up (.up u20) (I19.I.S.ext u20.e)
    have b20 : Up T H18 H20 := b19.trans u20
    have N20 : NtAll H20 C0 CN x r m ns ys rw_ zs := stN H20 fun q o n1 n2 n3 e nt => b20.e q o (u18.e q o n1 n2 (a17.e q o (w13 q o n3 e nt) nt) nt) nt
    have W20 : NtAll H20 C0 CN n2 r m2 ns ys2' rw_ zs := st2.at_.ext b20.e
    have okC := mkOk_of gnC grC
    have lC : (ns ++ [("extra1" : Str)]).length ≤ 63 := gnC.l
    have eqLonger : ∀ zs', eqN r ns rw_ zs r (ns ++ [("extra1" : Str)]) (fun n => if n ∈ ns then rw_ n else []) zs' = false := fun zs' => by
      unfold eqN eqM
      rw [decide_eq_false (p := ns = ns ++ [("extra1" : Str)]) (fun z => by
        have := congrArg List.length z
        rw [List.length_append, List.length_singleton] at this
        omega)]
      simp
    have base : ∀ {H' : Hp}, ExtN H20 H' → H' c = some (.lst (ns.map V.str)) ∧ H' e = some (.lst (zs.map V.str)) := fun u => ⟨u _ _ I20.I.c ntb_lst, u _ _ I20.he ntb_lst⟩
    -- the others: one of the market with one more
    refine ⟨fun σ H' => ∃ L, σ = [some (.ref a), some (.ref t), some (.str r), some (.ref c), some (.ref D), some (.ref e), some (.ref m), some (.ref p), some (.str d.shown), some (.ref x), some (.ref n2), some (.ref lg), some (.ref L), none, none, none] ∧ TnI T C0 CN L H20 H' r ns rw_ zs 1, ?_, ?_⟩
    · have fin : ∀ {H1 H3 : Hp} {nv : V} {n3 L : Addr} {zs3 : List Str}, Up T H20 H1 → Up T H1 H3 → H1 n3 = none → NtOwn H3 CN n3 r lg zs3 → (∀ H'', (∀ c o, (Nw H1 c ∨ c = n3) → (∀ ps, o ≠ .tbl ps) → H3 c = some o → H'' c = some o) → NtOwn H'' CN n3 r lg zs3) → StrsOk zs3 → H3 L = none → TnI T C0 CN L H20 (upd H3 L (.lst [.ref n3])) r ns rw_ zs 1 := fun {H1 H3 nv n3 L zs3} x1 x3 nn o kk zk nL => by
        have sL := sameUp (o := .lst [.ref n3]) nL
        refine ⟨(x1.trans x3).e.trans (ExtN.of sL), x3.t.ext sL, Nw.of (x1.trans x3).e nL, [n3], by simp, upd_same, fun q hq => ?_⟩
        obtain rfl : q = n3 := by simpa using hq
        exact (OtS.mk (X := []) (x1.trans x3).e (fun c hc => by simp at hc) M20 nn kk (fun c hc => by simp at hc) okC zk (eqLonger zs3)).re fun c o _ e nt => ⟨by simpa using (ne_of_none e nL), sL _ _ e⟩
      refine ⟨_, rfl, _, rfl, _, rfl, rfl, _, rfl, ?_⟩
      by_cases ep : r = "pairs"
      · rw [decide_eq_true (by rw [ep])]
        refine iteT ⟨_, rfl, (show 1 ≤ sizeLine by decide), fun p3 np3 => ?_⟩
        have y1 := sameUp (o := .lst [V.str "extra1"]) np3
        refine ⟨e, p3, _, _, rfl, rfl, y1 _ _ I20.he, upd_same, Nat.le_trans (by rw [List.length_map]; exact (show zs.length + 1 ≤ 64 by omega)) (by decide), fun p4 np4 => ?_⟩
        have y2 := sameUp (o := .lst (zs.map V.str ++ [V.str "extra1"])) np4
        have hp4 : upd (upd H20 p3 (.lst [V.str "extra1"])) p4 (.lst (zs.map V.str ++ [V.str "extra1"])) p4 = some (.lst ((zs ++ [("extra1" : Str)]).map V.str)) := by
          rw [upd_same, List.map_append]
          rfl
        have y12 := Up.same I20.I.T (y1.trans y2)
        generalize upd (upd H20 p3 (.lst [V.str "extra1"])) p4 (.lst (zs.map V.str ++ [V.str "extra1"])) = H21 at hp4 y12 ⊢
        have pC : (zs ++ [("extra1" : Str)]).Perm (dueNs r (ns ++ [("extra1" : Str)])) := by
          have pz := I0.pz
          unfold dueNs at pz ⊢
          rw [if_pos ep] at pz ⊢
          exact pz.append_right _
        refine mk_nt NC y12.t I0.hr (M20.ext y12.e) lC (nfOk gnC pC (.inl hp4)) fun H22 n3 u22 nn3 o3 kk3 => ⟨(show 1 ≤ sizeLine by decide), fun L nL => ?_⟩
        exact ⟨L, rfl, fin (nv := .non) y12 u22 nn3 o3 kk3 (fun z hz => goodNm.ok (gnC.g z (due_sub z (pC.mem_iff.mp hz)))) nL⟩
      · rw [decide_eq_false (fun z => ep (V.str.inj z))]
        refine iteF ⟨Nat.zero_le _, fun p3 np3 => ?_⟩
        have y12 := Up.same I20.I.T (sameUp (o := .lst []) np3)
        have hp4 : upd H20 p3 (.lst []) p3 = some (.lst ((([] : List Str)).map V.str)) := upd_same
        generalize upd H20 p3 (.lst []) = H21 at hp4 y12 ⊢
        have pC : ([] : List Str).Perm (dueNs r (ns ++ [("extra1" : Str)])) := by
          unfold dueNs
          rw [if_neg ep]
        refine mk_nt NC y12.t I0.hr (M20.ext y12.e) lC (nfOk gnC pC (.inl hp4)) fun H22 n3 u22 nn3 o3 kk3 => ⟨(show 1 ≤ sizeLine by decide), fun L nL => ?_⟩
        exact ⟨L, rfl, fin (nv := .non) y12 u22 nn3 o3 kk3 (fun z hz => by simp at hz) nL⟩
    rintro σ H21 ⟨L, rfl, J1⟩
    have eqRot : 1 < zs.length → eqN r ns rw_ zs r ns rw_ (zs.drop 1 ++ zs.take 1) = false := fun h => by
      unfold eqN
      rw [decide_eq_false (p := zs = zs.drop 1 ++ zs.take 1) (rot_ne (I0.pz.nodup_iff.mpr (due_nd gn.nd)) h)]
      simp
    refine ⟨fun σ H' => σ = [some (.ref a), some (.ref t), some (.str r), some (.ref c), some (.ref D), some (.ref e), some (.ref m), some (.ref p), some (.str d.shown), some (.ref x), some (.ref n2), some (.ref lg), some (.ref L), none, none, none] ∧ TnI T C0 CN L H20 H' r ns rw_ zs 2, ?_, ?_⟩
    · obtain ⟨ms, lm, hL, all⟩ := J1.o
      have he21 := (base J1.u).2
      refine ⟨_, rfl, e, _, rfl, .inl (SqL.of he21), _, _, rfl, rfl, _, rfl, ite2 (fun h1 => ?_) (fun _ => ⟨rfl, J1.more (by omega)⟩)⟩
      have hz1 : 1 < zs.length := by
        have h2 := of_decide_eq_true h1
        rw [List.length_map] at h2
        omega
      refine ⟨_, rfl, .inl ⟨rfl, _, SqL.of hL⟩, _, rfl, _, rfl, _, rfl, _, rfl, e, _, rfl, SqL.of he21, fun p3 np3 => ?_⟩
      rw [cut_from1]
      have y1 := sameUp (o := .lst ((zs.map V.str).drop 1)) np3
      refine ⟨_, rfl, _, rfl, e, _, rfl, SqL.of (y1 _ _ he21), fun p4 np4 => ?_⟩
      rw [cut_to1]
      have y2 := sameUp (o := .lst ((zs.map V.str).take 1)) np4
      refine ⟨p3, p4, _, _, rfl, rfl, y2 _ _ upd_same, upd_same, ?_, fun p5 np5 => ?_⟩
      · rw [List.length_drop, List.length_take, List.length_map]
        exact Nat.le_trans (by omega : _ ≤ 64) (by decide)
      have y3 := sameUp (o := .lst ((zs.map V.str).drop 1 ++ (zs.map V.str).take 1)) np5
      have y13 := Up.same J1.t ((y1.trans y2).trans y3)
      have hp5 : upd (upd (upd H21 p3 (.lst ((zs.map V.str).drop 1))) p4 (.lst ((zs.map V.str).take 1))) p5 (.lst ((zs.map V.str).drop 1 ++ (zs.map V.str).take 1)) p5 = some (.lst ((zs.drop 1 ++ zs.take 1).map V.str)) := by
        rw [upd_same, List.map_append, List.map_drop, List.map_take]
      generalize upd (upd (upd H21 p3 (.lst ((zs.map V.str).drop 1))) p4 (.lst ((zs.map V.str).take 1))) p5 (.lst ((zs.map V.str).drop 1 ++ (zs.map V.str).take 1)) = H22 at hp5 y13 ⊢
      have pR : (zs.drop 1 ++ zs.take 1).Perm (dueNs r ns) := (rot_perm zs).trans I0.pz
      have J2 := J1.up y13
      refine mk_nt NC y13.t I0.hr (N20.m.ext J2.u) hl63 (nfOk gn pR (.inl hp5)) fun H23 n3 u23 nn3 o3 kk3 => ?_
      have J3 := J2.up u23
      obtain ⟨ms3, lm3, hL3, all3⟩ := J3.o
      obtain ⟨ms2_, lm2_, hL2_, _⟩ := J2.o
      refine ⟨L, _, _, rfl, rfl, hL3, small1000 (by rw [List.length_map]; omega), rfl, ?_⟩
      exact J3.set (ms2 := [n3]) lm3 hL3 all3 fun q hq => by
        obtain rfl : q = n3 := by simpa using hq
        exact OtS.mk J3.u (fun c hc => by rw [List.mem_singleton.mp hc]; exact J1.f) N20.m nn3 kk3 (fun c hc => by rw [List.mem_singleton.mp hc]; exact ⟨_, hL2_, ntb_lst⟩) ok (fun z hz => hzs z ((rot_perm zs).mem_iff.mp hz)) (eqRot hz1)
    rintro σ H22 ⟨rfl, J2⟩
    refine ⟨fun σ H' => ∃ (sl : Addr) (sm : List Str), σ = [some (.ref a), some (.ref t), some (.str r), some (.ref c), some (.ref D), some (.ref e), some (.ref m), some (.ref p), some (.str d.shown), some (.ref x), some (.ref n2), some (.ref lg), some (.ref L), some (.ref sl), none, none] ∧ TnI T C0 CN L H20 H' r ns rw_ zs 2 ∧ H' sl = some (.lst (sm.map V.str)) ∧ (∀ o ∈ sm, o ∈ rules) ∧ sm.length ≤ 3, ?_, ?_⟩
    · refine ⟨_, rfl, rfl, _, rfl, ?_⟩
      by_cases ep : r = "pairs"
      · rw [decide_eq_true (by rw [ep])]
        exact iteT ⟨(show 2 ≤ sizeLine by decide), fun sl nsl => ⟨sl, ["rings", "shares"], rfl, J2.up (.same J2.t (sameUp nsl)), upd_same, by decide, by decide⟩⟩
      · rw [decide_eq_false (fun z => ep (V.str.inj z))]
        exact iteF ⟨(show 3 ≤ sizeLine by decide), fun sl nsl => ⟨sl, ["rings", "pairs", "shares"], rfl, J2.up (.same J2.t (sameUp nsl)), upd_same, by decide, by decide⟩⟩
    rintro σ H23 ⟨sl, sm, rfl, J3, hsl, hsm, lsm⟩
    obtain ⟨ms, lm, hL, all⟩ := J3.o
    refine ⟨_, rfl, .inl ⟨rfl, _, SqL.of hL⟩, _, rfl, sl, rfl, ⟨_, SqL.of hsl⟩, fun W nW => ?_⟩
    have LW : L ≠ W := ne_of_none hL nW
    refine lc_it (walk_list (xs := sm.map V.str)) (fun i H' => Up T H23 H' ∧ ∃ sel : List Addr, H' W = some (.lst (sel.map V.ref)) ∧ sel.length ≤ i ∧ ∀ q ∈ sel, OtS C0 CN [L, W] H' q r ns rw_ zs) ⟨.same J3.t (sameUp nW), [], upd_same, Nat.zero_le _, fun q hq => by simp at hq⟩ (fun i H' _ h => SqL.of (h.1.e _ _ hsl ntb_lst)) ?_ ?_
    · rintro i v H24 H25 hi ⟨u25, sel, hW, lsel, hsel⟩ ⟨rfl, hv⟩
      rw [List.length_map] at hi
      rw [List.getElem?_map] at hv
      obtain ⟨one, hone, rfl⟩ := Option.map_eq_some_iff.mp hv
      have hr1 := hsm one (List.mem_of_getElem? hone)
      refine ⟨rfl, _, rfl, _, rfl, rfl, _, rfl, ?_⟩
      by_cases e1 : one = r
      · rw [decide_eq_true (by rw [e1])]
        exact iteF ⟨u25, sel, hW, by omega, hsel⟩
      · rw [decide_eq_false (fun z => e1 (V.str.inj z))]
        have J4 := J3.up u25
        have eqO : ∀ zs', eqN r ns rw_ zs one ns rw_ zs' = false := fun zs' => by
          unfold eqN
          rw [decide_eq_false (fun z => e1 z.symm)]
          rfl
        have fin : ∀ {H1 H3 : Hp} {n3 : Addr} {zs3 : List Str}, Up T H25 H1 → Up T H1 H3 → H1 n3 = none → (∀ H'', (∀ c o, (Nw H1 c ∨ c = n3) → (∀ ps, o ≠ .tbl ps) → H3 c = some o → H'' c = some o) → NtOwn H'' CN n3 one m zs3) → StrsOk zs3 →
            ∃ acc, H3 W = some (.lst acc) ∧ acc.length < sizeLine ∧ Up T H23 (upd H3 W (.lst (acc ++ [.ref n3]))) ∧ ∃ sel : List Addr, upd H3 W (.lst (acc ++ [.ref n3])) W = some (.lst (sel.map V.ref)) ∧ sel.length ≤ i + 1 ∧ ∀ q ∈ sel, OtS C0 CN [L, W] (upd H3 W (.lst (acc ++ [.ref n3]))) q r ns rw_ zs := fun {H1 H3 n3 zs3} x1 x3 nn kk zk => by
          have hW3 := x3.e _ _ (x1.e _ _ hW ntb_lst) ntb_lst
          have hL1 := (J4.up x1).o
          obtain ⟨msx, _, hLx, _⟩ := hL1
          have keep : ∀ c o, c ∉ [L, W] → H3 c = some o → (∀ ps, o ≠ .tbl ps) → c ∉ [L, W] ∧ upd H3 W (.lst (sel.map V.ref ++ [.ref n3])) c = some o := fun c o n e nt => ⟨n, by
            rw [upd_ne (fun z => n (by rw [z]; simp))]
            exact e⟩
          refine ⟨_, hW3, small1000 (by rw [List.length_map]; omega), ⟨fun c o e nt => ?_, Tabs.put x3.t hW3 ntb_lst (fun φ z => by cases z)⟩, sel ++ [n3], by rw [upd_same, List.map_append]; rfl, by rw [List.length_append, List.length_singleton]; omega, fun q hq => ?_⟩
          · rw [upd_ne (ne_of_none e nW)]
            exact x3.e _ _ (x1.e _ _ (u25.e _ _ e nt) nt) nt
          · rcases List.mem_append.mp hq with h | h
            · exact ((hsel q h).re fun c o n e nt => ⟨n, x3.e _ _ (x1.e _ _ e nt) nt⟩).re keep
            · rw [List.mem_singleton.mp h]
              refine (OtS.mk ((J4.up x1).up x3).u (fun c hc => ?_) N20.m nn kk (fun c hc => ?_) ok zk (eqO zs3)).re keep
              · rcases List.mem_cons.mp hc with z | z
                · rw [z]
                  exact J3.f
                · rw [List.mem_singleton.mp z]
                  exact Nw.of J3.u nW
              · rcases List.mem_cons.mp hc with z | z
                · rw [z]
                  exact ⟨_, hLx, ntb_lst⟩
                · rw [List.mem_singleton.mp z]
                  exact ⟨_, x1.e _ _ hW ntb_lst, ntb_lst⟩
        refine iteT ⟨_, rfl, _, rfl, _, rfl, rfl, _, rfl, ?_⟩
        by_cases e2 : one = "pairs"
        · rw [decide_eq_true (by rw [e2])]
          have hc25 := (base J4.u).1
          have pC : ns.Perm (dueNs one ns) := by
            unfold dueNs
            rw [if_pos e2]
          refine iteT ⟨_, rfl, mk_nt NC J4.t hr1 (N20.m.ext J4.u) hl63 (nfOk gn pC (.inl hc25)) fun H26 n3 u26 nn3 o3 kk3 => ?_⟩
          exact fin (.refl J4.t) u26 nn3 kk3 (strsOk_of gn)
        · rw [decide_eq_false (fun z => e2 (V.str.inj z))]
          refine iteF ⟨Nat.zero_le _, fun p3 np3 => ?_⟩
          have y12 := Up.same J4.t (sameUp (o := .lst []) np3)
          have hp4 : upd H25 p3 (.lst []) p3 = some (.lst ((([] : List Str)).map V.str)) := upd_same
          have pC : ([] : List Str).Perm (dueNs one ns) := by
            unfold dueNs
            rw [if_neg e2]
          refine mk_nt NC y12.t hr1 (N20.m.ext (J4.up y12).u) hl63 (nfOk gn pC (.inl hp4)) fun H26 n3 u26 nn3 o3 kk3 => ?_
          exact fin y12 u26 nn3 kk3 (fun z hz => by simp at hz)
    · rintro H24 ⟨u24, sel, hW, lsel, hsel⟩
      rw [List.length_map] at lsel
      have J4 := J3.up u24
      obtain ⟨ms4, lm4, hL4, all4⟩ := J4.o
      refine ⟨L, W, _, _, rfl, rfl, hL4, hW, Nat.le_trans (by rw [List.length_map, List.length_map]; omega : _ ≤ 5) (by decide), ?_⟩
      have J5 := J4.set (ms2 := sel) lm4 hL4 all4 fun q hq => (hsel q hq).re fun c o n e nt => ⟨fun z => n (by rw [List.mem_singleton.mp z]; simp), e⟩
      generalize upd H24 L (.lst (ms4.map V.ref ++ sel.map V.ref)) = H25 at J5 ⊢
      obtain ⟨ms5, lm5, hL5, all5⟩ := J5.o
      have N25 := N20.ext J5.u
      have W25 := W20.ext J5.u
      have ht25 := J5.u _ _ I20.ht ntb_tup
      refine ⟨_, rfl, _, rfl, eq_nt_mk NQ ME N25 N25.m ⟨false, rfl, iteF ⟨_, rfl, _, rfl, eq_nt_tup NQ N25 ht25 ⟨false, rfl, iteF ⟨_, rfl, _, rfl, eq_nt NQ N25 W25 ?_⟩⟩⟩⟩⟩
      rw [eqN_refl]
      refine ⟨true, rfl, iteF ⟨_, rfl, _, rfl, eq_nt NQ N25 W25 ?_⟩⟩
      rw [eqN_refl]
      refine ⟨false, rfl, iteF ?_⟩
      -- none of the others is it
      refine ⟨_, rfl, L, rfl, ⟨_, SqL.of hL5⟩, fun L7 nL7 => ?_⟩
      refine lc_it (walk_list (xs := ms5.map V.ref)) (fun i H' => Same H25 H' ∧ H' L7 = some (.lst ((List.replicate i false).map V.bl))) ⟨sameUp nL7, upd_same⟩ (fun i H' _ h => SqL.of (h.1 _ _ hL5)) ?_ ?_
      · rintro i v H26 H27 hi ⟨s26, hL26⟩ ⟨rfl, hv⟩
        rw [List.length_map] at hi
        rw [List.getElem?_map] at hv
        obtain ⟨q, hq, rfl⟩ := Option.map_eq_some_iff.mp hv
        obtain ⟨r', m', ns', ys', rw', zs', No, he⟩ := (all5 q (List.mem_of_getElem? hq)).at_
        have No' := No.ext (ExtN.of s26)
        have N27 := N25.ext (ExtN.of s26)
        refine ⟨rfl, _, rfl, _, rfl, eq_nt NQ N27 No' ?_⟩
        rw [he]
        refine ⟨false, rfl, iteF ⟨_, rfl, _, rfl, eq_nt NQ N27 No' ?_⟩⟩
        rw [he]
        refine ⟨true, rfl, _, hL26, small1000 (by rw [List.length_map, List.length_replicate]; omega), fun q o e => ?_, ?_⟩
        · rw [upd_ne (ne_of_none e nL7)]
          exact s26 _ _ e
        · rw [upd_same, List.replicate_succ', List.map_append]
          rfl
      · rintro H26 ⟨s26, hL26⟩
        refine ⟨L7, _, rfl, SqL.of hL26, _, rfl, ?_⟩
        have e0 : (List.replicate (ms5.map V.ref).length false).any id = false := by
          rw [List.any_eq_false]
          intro x hx
          rw [List.eq_of_mem_replicate hx]
          exact Bool.false_ne_true
        rw [e0]
        have uF : Up T H20 H26 := ⟨J5.u.trans (ExtN.of s26), J5.t.ext s26⟩
        have uA : UpS T a b H H20 := (((u13.trans (.up a17)).trans u18).trans (.up b20))
        exact k _ (uA.trans (.up uF)) ((I20.I.S.ext uF.e).up (by omega))
end
end Mn
/-! _law_a_spoiled, and what stands there then -/
namespace Mn
open PySem PySem.Spec PyProof.Rows L2 Md Me Ml LamX Mi Mo
mutual
inductive OwL (H : Hp) : Nat → V → List Addr → Prop
  | str (n : Nat) (x : Str) : OwL H n (.str x) []
  | int (n : Nat) (x : Int) : OwL H n (.int x) []
  | lst {n : Nat} {p : Addr} {xs : List V} {S : List Addr} (h : H p = some (.lst xs)) (hl : xs.length ≤ 1000) (r : OwsL H n xs S) (hp : p ∉ S) : OwL H (n + 1) (.ref p) (p :: S)
  | dic {n : Nat} {p : Addr} {kvs : List (Key × V)} {S : List Addr} (h : H p = some (.dK kvs)) (hl : kvs.length ≤ 1000) (r : OwsL H n (kvs.map Prod.snd) S) (hp : p ∉ S) : OwL H (n + 1) (.ref p) (p :: S)
inductive OwsL (H : Hp) : Nat → List V → List Addr → Prop
  | nil (n : Nat) : OwsL H n [] []
  | cons {n : Nat} {v : V} {vs : List V} {S S' : List Addr} (h : OwL H n v S) (r : OwsL H n vs S') (d : ∀ s ∈ S, s ∉ S') : OwsL H n (v :: vs) (S ++ S')
end
section
variable {H H' : Hp}
mutual
theorem OwL.keep : ∀ {n : Nat} {v : V} {S : List Addr}, (∀ s ∈ S, ∀ o, H s = some o → H' s = some o) → OwL H n v S → OwL H' n v S
  | _, _, _, _, .str n x => .str n x
  | _, _, _, _, .int n x => .int n x
  | _, _, _, k, .lst h hl r hp => .lst (k _ (by simp) _ h) hl (OwsL.keep (fun s hs => k s (by simp [hs])) r) hp
  | _, _, _, k, .dic h hl r hp => .dic (k _ (by simp) _ h) hl (OwsL.keep (fun s hs => k s (by simp [hs])) r) hp
theorem OwsL.keep : ∀ {n : Nat} {vs : List V} {S : List Addr}, (∀ s ∈ S, ∀ o, H s = some o → H' s = some o) → OwsL H n vs S → OwsL H' n vs S
  | _, _, _, _, .nil n => .nil n
  | _, _, _, k, .cons h r d => .cons (OwL.keep (fun s hs => k s (by simp [hs])) h) (OwsL.keep (fun s hs => k s (by simp [hs])) r) d
end
mutual
theorem OwL.live : ∀ {n : Nat} {v : V} {S : List Addr}, OwL H n v S → ∀ s ∈ S, H s ≠ none
  | _, _, _, .str n x, s, hs => by simp at hs
  | _, _, _, .int n x, s, hs => by simp at hs
  | _, _, _, .lst h hl r hp, s, hs => by
    rcases List.mem_cons.mp hs with z | z
    · rw [z, h]
      exact fun q => by cases q
    · exact OwsL.live r s z
  | _, _, _, .dic h hl r hp, s, hs => by
    rcases List.mem_cons.mp hs with z | z
    · rw [z, h]
      exact fun q => by cases q
    · exact OwsL.live r s z
theorem OwsL.live : ∀ {n : Nat} {vs : List V} {S : List Addr}, OwsL H n vs S → ∀ s ∈ S, H s ≠ none
  | _, _, _, .nil n, s, hs => by simp at hs
  | _, _, _, .cons h r d, s, hs => by
    rcases List.mem_append.mp hs with z | z
    · exact OwL.live h s z
    · exact OwsL.live r s z
end
end
/-- what stands at a place that was spoiled -/
def Late (H H' : Hp) (s : Addr) : Prop := (∀ xs, H s = some (.lst xs) → H' s = some (.lst (xs ++ [.str "late"]))) ∧
  (∀ kvs, H s = some (.dK kvs) → ∃ q, H q = none ∧ H' s = some (.dK (putK kvs (Sum.inr "late") (.ref q))) ∧ H' q = some (.lst [.str "late"]))
/-- some are spoiled, all others stay -/
structure Spd (S : List Addr) (H H' : Hp) : Prop where
  k : ∀ c o, c ∉ S → H c = some o → H' c = some o
  l : ∀ c, H c ≠ none → H' c ≠ none
  a : ∀ s ∈ S, Late H H' s
def spSpL (n : Nat) : Sp := fun vs H Q _ => ∃ (v : V) (S : List Addr), vs = [v] ∧ OwL H n v S ∧ ∀ H', Spd S H H' → Q .non H'
def spPrevL2 : Nat → Sp
  | 0 => fun _ _ _ _ => False
  | n + 1 => spSpL n
/-- behind some of the parts -/
structure Prt (S Sr : List Addr) (H H' : Hp) : Prop where
  k : ∀ c o, (c ∉ S ∨ c ∈ Sr) → H c = some o → H' c = some o
  l : ∀ c, H c ≠ none → H' c ≠ none
  a : ∀ s ∈ S, s ∉ Sr → Late H H' s
  u : ∀ s ∈ Sr, s ∈ S
theorem Prt.same {S : List Addr} {H H' : Hp} (s : Same H H') : Prt S S H H' := by
  refine ⟨fun c o _ e => s c o e, fun c n z => ?_, fun s h n => absurd h n, fun s h => h⟩
  cases e : H c with
  | none => exact n e
  | some o =>
    rw [s c o e] at z
    cases z
theorem Prt.step {S S1 S2 : List Addr} {H H2 H4 : Hp} (lv : ∀ s ∈ S, H s ≠ none) (dj : ∀ s ∈ S1, s ∉ S2) (p : Prt S (S1 ++ S2) H H2) (d : Spd S1 H2 H4) : Prt S S2 H H4 := by
  refine ⟨fun c o hc e => ?_, fun c n => d.l c (p.l c n), fun s hs n => ?_, fun s hs => p.u s (List.mem_append_right _ hs)⟩
  · rcases hc with hc | hc
    · exact d.k c o (fun z => hc (p.u c (List.mem_append_left _ z))) (p.k c o (.inl hc) e)
    · exact d.k c o (fun z => dj c z hc) (p.k c o (.inr (List.mem_append_right _ hc)) e)
  · by_cases h1 : s ∈ S1
    · obtain ⟨a1, a2⟩ := d.a s h1
      have kk := fun o e => p.k s o (.inr (List.mem_append_left _ h1)) e
      refine ⟨fun xs e => a1 xs (kk _ e), fun kvs e => ?_⟩
      obtain ⟨q, q1, q2, q3⟩ := a2 kvs (kk _ e)
      refine ⟨q, ?_, q2, q3⟩
      cases z : H q with
      | none => rfl
      | some o => exact absurd q1 (p.l q (by rw [z]; exact fun y => by cases y))
    · have n2 : s ∉ S1 ++ S2 := fun z => (List.mem_append.mp z).elim h1 n
      obtain ⟨a1, a2⟩ := p.a s hs n2
      refine ⟨fun xs e => d.k s _ h1 (a1 xs e), fun kvs e => ?_⟩
      obtain ⟨q, q1, q2, q3⟩ := a2 kvs e
      exact ⟨q, q1, d.k s _ h1 q2, d.k q _ (fun z => lv q (p.u q (List.mem_append_left _ z)) q1) q3⟩
theorem Prt.last {S : List Addr} {H H2 H3 : Hp} {p : Addr} (q : Prt S [] H H2) (lv : ∀ s ∈ S, H s ≠ none) (hp : p ∉ S) (hpl : H p ≠ none) (k3 : ∀ c o, c ≠ p → H2 c = some o → H3 c = some o) (l3 : H3 p ≠ none) (a : Late H H3 p) : Spd (p :: S) H H3 := by
  refine ⟨fun c o hc e => k3 c o (fun z => hc (by rw [z]; exact List.mem_cons_self)) (q.k c o (.inl fun z => hc (List.mem_cons_of_mem _ z)) e), fun c n => ?_, fun s hs => ?_⟩
  · by_cases z : c = p
    · rw [z]
      exact l3
    · have := q.l c n
      cases e : H2 c with
      | none => exact absurd e this
      | some o =>
        rw [k3 c o z e]
        exact fun y => by cases y
  · rcases List.mem_cons.mp hs with rfl | hs
    · exact a
    · obtain ⟨a1, a2⟩ := q.a s hs (by simp)
      have sp : s ≠ p := fun z => hp (z ▸ hs)
      refine ⟨fun xs e => k3 s _ sp (a1 xs e), fun kvs e => ?_⟩
      obtain ⟨r, q1, q2, q3⟩ := a2 kvs e
      exact ⟨r, q1, k3 s _ sp q2, k3 r _ (fun z => hpl (z ▸ q1)) q3⟩
section
variable {P : Program} {w : World} {K : PySem.W.Frag} {mg : Str → Option Value} {base : Heap}
theorem spL_step {n : Nat} {f : Addr} {fd : FuncData} (F : Fun K "_law_a_spoiled" "_law_a_spoiled" sSp f fd) (bP : Binds K fd ["_law_thing"] []) (gP : mg "_law_a_spoiled" = some (.ref f)) (GP : FnOk P w K mg base CX0 (n + 1) f fd ["_law_thing"] (spPrevL2 n))
    (gIs : mg "isinstance" = none) (gList : mg "list" = none) (gTuple : mg "tuple" = none) (gDict : mg "dict" = none) : FnOk P w K mg base CX0 (n + 2) f fd ["_law_thing"] (spSpL n) := by
  refine F.ok scSp (fun vs H Q E h => ?_) (fun cdv A outer s H vs Q E hr h => ?_)
  · obtain ⟨v, S, rfl, _⟩ := h
    rfl
  · obtain ⟨v, S, rfl, hO, k⟩ := h
    have nd := scSp.nd
    have kP := F.kp
    have hu := hu_of hr
    refine ⟨_, pss_cons (ps_set (i := 1) nd rfl (Or.inl rfl) (pe_ifExp (pt_val (pe_callB call_isi (by rfl) gIs boot_isinstance (pa_cons (pv 0) (pa_cons (pe_bltn (v := .ty "dict") rfl gDict boot_dict2 rfl) pa_nil)))) (pe_listVals rfl (pv 0) rfl gList boot_list2) (pv 0)))
      (pss_cons (ps_for PassesOwn.never rfl (pi_or (pi_list (pe_ifExp (pt_val (pe_callB call_isiT (by rfl) gIs boot_isinstance (pa_cons (pv 1) (pa_cons (pe_tup (pa_cons (pe_bltn (v := .ty "list") rfl gList boot_list2 rfl) (pa_cons (pe_bltn (v := .ty "tuple") rfl gTuple boot_tuple2 rfl) pa_nil))) pa_nil)))) (pv 1) (pe_lst pa_nil)))
          (pi_tup (pe_ifExp (pt_val (pe_callB call_isiT (by rfl) gIs boot_isinstance (pa_cons (pv 1) (pa_cons (pe_tup (pa_cons (pe_bltn (v := .ty "list") rfl gList boot_list2 rfl) (pa_cons (pe_bltn (v := .ty "tuple") rfl gTuple boot_tuple2 rfl) pa_nil))) pa_nil)))) (pv 1) (pe_lst pa_nil))))
          (pg_name (i := 2) nd rfl (Or.inl rfl)) (pss_one (ps_expr (pe_call GP hr rfl gP kP bP .nil pass0 (pa_cons (pv 2) pa_nil)))))
      (pss_cons (ps_if (pt_val (pe_callB call_isi (by rfl) gIs boot_isinstance (pa_cons (pv 0) (pa_cons (pe_bltn (v := .ty "list") rfl gList boot_list2 rfl) pa_nil)))) (pss_one (ps_expr (pe_bm PySem.F.plainAttrs_list PySem.F.slot_list_append PySem.F.type_list_append mt_append (pv 0) (pa_cons pe_str pa_nil)))) pss_nil)
      (pss_one (ps_if (pt_val (pe_callB call_isi (by rfl) gIs boot_isinstance (pa_cons (pv 0) (pa_cons (pe_bltn (v := .ty "dict") rfl gDict boot_dict2 rfl) pa_nil)))) (pss_one (ps_dput hu (pv 0) pe_str (pe_lst (pa_cons pe_str pa_nil)) rfl)) pss_nil)))), ?_⟩
    cases hO with
    | str _ x =>
      obtain ⟨ty, t0, hl, ht, hd, hi, hb⟩ := (ans_str (K := K) (H := H) (x := x)).ex
      refine ⟨_, rfl, _, _, ty, _, _, rfl, .ty _, t0, hd, _, rfl, iteF ⟨_, rfl, ?_⟩⟩
      refine .inl ⟨_, rfl, (show 2 ≤ sizeLine by decide), fun p1 np1 => ⟨_, p1, _, ty, _, _, rfl, upd_same, .cons (.ty _) (.cons (.ty _) .nil), TyX.same (sameUp np1) t0, kitAny2 hl ht, _, rfl, iteF ⟨Nat.zero_le _, fun l hl0 => ⟨l, rfl, ⟨_, SqL.of upd_same⟩, ?_⟩⟩⟩⟩
      have s1 := (sameUp (o := .tup [.ty "list", .ty "tuple"]) np1).trans (sameUp (o := .lst []) hl0)
      refine for_it (walk_list (xs := [])) (fun i σ H' => Same H H' ∧ ∃ o, σ = [some (.str x), some (.str x), o] ∧ H' l = some (.lst [])) ⟨s1, _, rfl, upd_same⟩ (fun i σ H' _ ⟨_, _, _, e⟩ => SqL.of e) (fun i v σ H1 H2 hi => absurd hi (by simp)) ?_
      rintro σ H2 ⟨s2, o, rfl, _⟩
      have t2 := TyX.same s2 t0
      have pr := Prt.same (S := []) s2
      exact ⟨_, rfl, _, _, ty, _, _, rfl, .ty _, t2, hl, _, rfl, iteF ⟨_, rfl, _, _, ty, _, _, rfl, .ty _, t2, hd, _, rfl, iteF (k _ ⟨fun c o _ e => s2 _ _ e, pr.l, fun s hs => by simp at hs⟩)⟩⟩
    | int _ x =>
      obtain ⟨ty, t0, hl, ht, hd, hi, hb⟩ := (ans_int (K := K) (H := H) (x := x)).ex
      refine ⟨_, rfl, _, _, ty, _, _, rfl, .ty _, t0, hd, _, rfl, iteF ⟨_, rfl, ?_⟩⟩
      refine .inl ⟨_, rfl, (show 2 ≤ sizeLine by decide), fun p1 np1 => ⟨_, p1, _, ty, _, _, rfl, upd_same, .cons (.ty _) (.cons (.ty _) .nil), TyX.same (sameUp np1) t0, kitAny2 hl ht, _, rfl, iteF ⟨Nat.zero_le _, fun l hl0 => ⟨l, rfl, ⟨_, SqL.of upd_same⟩, ?_⟩⟩⟩⟩
      have s1 := (sameUp (o := .tup [.ty "list", .ty "tuple"]) np1).trans (sameUp (o := .lst []) hl0)
      refine for_it (walk_list (xs := [])) (fun i σ H' => Same H H' ∧ ∃ o, σ = [some (.int x), some (.int x), o] ∧ H' l = some (.lst [])) ⟨s1, _, rfl, upd_same⟩ (fun i σ H' _ ⟨_, _, _, e⟩ => SqL.of e) (fun i v σ H1 H2 hi => absurd hi (by simp)) ?_
      rintro σ H2 ⟨s2, o, rfl, _⟩
      have t2 := TyX.same s2 t0
      have pr := Prt.same (S := []) s2
      exact ⟨_, rfl, _, _, ty, _, _, rfl, .ty _, t2, hl, _, rfl, iteF ⟨_, rfl, _, _, ty, _, _, rfl, .ty _, t2, hd, _, rfl, iteF (k _ ⟨fun c o _ e => s2 _ _ e, pr.l, fun s hs => by simp at hs⟩)⟩⟩
    | @lst m p xs S h hlen r hp =>
      obtain ⟨ty, t0, hl, ht, hd, hi, hb⟩ := (ans_lst (K := K) h).ex
      have lv := OwsL.live r
      have hpl : H p ≠ none := by
        rw [h]
        exact fun z => by cases z
      refine ⟨_, rfl, _, _, ty, _, _, rfl, .ty _, t0, hd, _, rfl, iteF ⟨_, rfl, ?_⟩⟩
      refine .inl ⟨_, rfl, (show 2 ≤ sizeLine by decide), fun p1 np1 => ⟨_, p1, _, ty, _, _, rfl, upd_same, .cons (.ty _) (.cons (.ty _) .nil), TyX.same (sameUp np1) t0, kitAny2 hl ht, _, rfl, iteT ⟨_, rfl, p, rfl, ⟨_, SqL.of (sameUp np1 _ _ h)⟩, ?_⟩⟩⟩
      have s1 := sameUp (o := .tup [.ty "list", .ty "tuple"]) np1
      refine for_it (walk_list (xs := xs)) (fun i σ H' => ∃ ov Sr, σ = [some (.ref p), some (.ref p), ov] ∧ OwsL H' m (xs.drop i) Sr ∧ Prt S Sr H H') ⟨none, S, rfl, OwsL.keep (fun s _ o e => s1 s o e) r, .same s1⟩ (fun i σ H' _ ⟨_, _, _, _, q⟩ => SqL.of (q.k p _ (.inl hp) h)) ?_ ?_
      · rintro i v σ H2 H3 hi ⟨ov, Sr, rfl, hr2, q⟩ ⟨rfl, hv⟩
        rw [drop_of hv] at hr2
        cases hr2 with
        | @cons _ _ _ S1 S2 h1 r2 dj =>
          refine ⟨_, rfl, v, S1, rfl, h1, fun H4 d4 => ?_⟩
          exact ⟨_, S2, rfl, OwsL.keep (fun s hs o e => d4.k s o (fun z => dj s z hs) e) r2, q.step lv dj d4⟩
      · rintro σ H2 ⟨ov, Sr, rfl, hr2, q⟩
        rw [List.drop_length] at hr2
        cases hr2
        have h2 := q.k p _ (.inl hp) h
        obtain ⟨ty2, t2, l2, _, d2, _, _⟩ := (ans_lst (K := K) h2).ex
        refine ⟨_, rfl, _, _, ty2, _, _, rfl, .ty _, t2, l2, _, rfl, iteT ⟨_, rfl, .inl ⟨rfl, _, SqL.of h2⟩, p, xs, _, rfl, rfl, h2, small1000 hlen, ?_⟩⟩
        obtain ⟨ty3, t3, l3, _, d3, _, _⟩ := (ans_lst (K := K) (H := upd H2 p (.lst (xs ++ [V.str "late"]))) upd_same).ex
        refine ⟨_, rfl, _, _, ty3, _, _, rfl, .ty _, t3, d3, _, rfl, iteF (k _ (q.last lv hp hpl (fun c o hc e => by rw [upd_ne hc]; exact e) ?_ ⟨fun ys e => ?_, fun kvs e => ?_⟩))⟩
        · rw [upd_same]
          exact fun z => by cases z
        · rw [h] at e
          rw [upd_same, HO.lst.inj (Option.some.inj e)]
        · rw [h] at e
          cases e
    | @dic m p kvs S h hlen r hp =>
      obtain ⟨ty, t0, hl, ht, hd, hi, hb⟩ := (ans_dK (K := K) h).ex
      have lv := OwsL.live r
      have hpl : H p ≠ none := by
        rw [h]
        exact fun z => by cases z
      refine ⟨_, rfl, _, _, ty, _, _, rfl, .ty _, t0, hd, _, rfl, iteT ⟨_, rfl, p, kvs, rfl, h, fun L hL => ?_⟩⟩
      have sL := sameUp (o := .lst (kvs.map Prod.snd)) hL
      have hLS : L ∉ S := fun z => lv L z hL
      obtain ⟨tyL, tL, lL, lt, dL, _, _⟩ := (ans_lst (K := K) (H := upd H L (.lst (kvs.map Prod.snd))) upd_same).ex
      refine .inl ⟨_, rfl, (show 2 ≤ sizeLine by decide), fun p1 np1 => ⟨_, p1, _, tyL, _, _, rfl, upd_same, .cons (.ty _) (.cons (.ty _) .nil), TyX.same (sameUp np1) tL, kitAny2 lL lt, _, rfl, iteT ⟨_, rfl, L, rfl, ⟨_, SqL.of (sameUp np1 _ _ upd_same)⟩, ?_⟩⟩⟩
      have s1 := sL.trans (sameUp (o := .tup [.ty "list", .ty "tuple"]) np1)
      refine for_it (walk_list (xs := kvs.map Prod.snd)) (fun i σ H' => ∃ ov Sr, σ = [some (.ref p), some (.ref L), ov] ∧ OwsL H' m ((kvs.map Prod.snd).drop i) Sr ∧ H' L = some (.lst (kvs.map Prod.snd)) ∧ Prt S Sr H H') ⟨none, S, rfl, OwsL.keep (fun s _ o e => s1 s o e) r, sameUp np1 _ _ upd_same, .same s1⟩ (fun i σ H' _ ⟨_, _, _, _, e, _⟩ => SqL.of e) ?_ ?_
      · rintro i v σ H2 H3 hi ⟨ov, Sr, rfl, hr2, eL, q⟩ ⟨rfl, hv⟩
        rw [drop_of hv] at hr2
        cases hr2 with
        | @cons _ _ _ S1 S2 h1 r2 dj =>
          refine ⟨_, rfl, v, S1, rfl, h1, fun H4 d4 => ?_⟩
          exact ⟨_, S2, rfl, OwsL.keep (fun s hs o e => d4.k s o (fun z => dj s z hs) e) r2, d4.k L _ (fun z => hLS (q.u L (List.mem_append_left _ z))) eL, q.step lv dj d4⟩
      · rintro σ H2 ⟨ov, Sr, rfl, hr2, _, q⟩
        rw [List.drop_length] at hr2
        cases hr2
        have h2 := q.k p _ (.inl hp) h
        obtain ⟨ty2, t2, l2, _, d2, _, _⟩ := (ans_dK (K := K) h2).ex
        refine ⟨_, rfl, _, _, ty2, _, _, rfl, .ty _, t2, l2, _, rfl, iteF ⟨_, rfl, _, _, ty2, _, _, rfl, .ty _, t2, d2, _, rfl, iteT ⟨(show 1 ≤ sizeLine by decide), fun l hl3 => ?_⟩⟩⟩
        have s3 := sameUp (o := .lst [V.str "late"]) hl3
        have pl : p ≠ l := ne_of_none h2 hl3
        refine ⟨_, rfl, p, _, rfl, DPut.k (k := Sum.inr "late") (s3 _ _ h2) (small1000 hlen), k _ (q.last lv hp hpl (fun c o hc e => ?_) ?_ ⟨fun ys e => ?_, fun kvs' e => ⟨l, ?_, ?_, ?_⟩⟩)⟩
        · rw [upd_ne hc]
          exact s3 _ _ e
        · rw [upd_same]
          exact fun z => by cases z
        · rw [h] at e
          cases e
        · cases z : H l with
          | none => rfl
          | some o => exact absurd hl3 (q.l l (by rw [z]; exact fun y => by cases y))
        · rw [h] at e
          rw [upd_same, HO.dK.inj (Option.some.inj e)]
        · rw [upd_ne pl.symm, upd_same]
theorem ok_spL {f : Addr} {fd : FuncData} (F : Fun K "_law_a_spoiled" "_law_a_spoiled" sSp f fd) (bP : Binds K fd ["_law_thing"] []) (gP : mg "_law_a_spoiled" = some (.ref f))
    (gIs : mg "isinstance" = none) (gList : mg "list" = none) (gTuple : mg "tuple" = none) (gDict : mg "dict" = none) : ∀ n, FnOk P w K mg base CX0 (n + 2) f fd ["_law_thing"] (spSpL n)
  | 0 => spL_step F bP gP ⟨fun _ _ _ _ h => h.elim, fun _ _ _ _ _ _ _ _ _ _ _ _ _ h => h.elim⟩ gIs gList gTuple gDict
  | n + 1 => spL_step F bP gP (ok_spL F bP gP gIs gList gTuple gDict n) gIs gList gTuple gDict
end
end Mn
/-! _law_refused_right: the term and its reading -/
namespace Mn
open PySem PySem.Spec PyProof.Rows L2 Md Me Ml LamX Mi Mo
abbrev sRef : Stmt := top 51
abbrev qRef : Str := (envOfC "_law_refused_right" { kind := .function, names := [], isGenerator := false, isCoroutine := false } 0 0 .none).qual ++ "<lambda>"
structure NoK (K : PySem.W.Frag) (C : Addr) : Prop where
  k : ∀ s ∈ (["NoneType", "int", "bool", "str", "list", "tuple", "dict"] : List String), PySem.W.kitOne K (.type s) (.ref C) = some false
def spRef (T : List (Addr × Str)) : Sp := fun vs H Q _ => ∃ (a b t c D e : Addr) (B : Nat) (r : Str) (ns : List Str) (rw_ : Str → List Str) (as : List Addr) (zs : List Str), vs = [.ref a, .ref t] ∧ NIni T H a b t c D e B r ns rw_ as zs ∧ ns.length ≤ 12 ∧ ("extra1" : Str) ∉ ns ∧ B + 200000000 ≤ 10000000000 ∧ ∀ H', UpS T a b H H' → Stm H' a b (B + 200000000) → Q (.bl true) H'
theorem nk_non {K : PySem.W.Frag} {C : Addr} {H : Hp} (N : NoK K C) : NoMk K C H .non := ⟨_, .base .non, N.k _ (by simp)⟩
theorem nk_int {K : PySem.W.Frag} {C : Addr} {H : Hp} {i : Int} (N : NoK K C) : NoMk K C H (.int i) := ⟨_, .base (.int i), N.k _ (by simp)⟩
theorem nk_bl {K : PySem.W.Frag} {C : Addr} {H : Hp} {i : Bool} (N : NoK K C) : NoMk K C H (.bl i) := ⟨_, .base (.bl i), N.k _ (by simp)⟩
theorem nk_str {K : PySem.W.Frag} {C : Addr} {H : Hp} {i : Str} (N : NoK K C) : NoMk K C H (.str i) := ⟨_, .base (.str i), N.k _ (by simp)⟩
theorem nk_lst {K : PySem.W.Frag} {C : Addr} {H : Hp} {p : Addr} {xs : List V} (N : NoK K C) (h : H p = some (.lst xs)) : NoMk K C H (.ref p) := ⟨_, .base (.lst h), N.k _ (by simp)⟩
theorem nk_tup {K : PySem.W.Frag} {C : Addr} {H : Hp} {p : Addr} {xs : List V} (N : NoK K C) (h : H p = some (.tup xs)) : NoMk K C H (.ref p) := ⟨_, .base (.tup h), N.k _ (by simp)⟩
theorem nk_dK {K : PySem.W.Frag} {C : Addr} {H : Hp} {p : Addr} {xs : List (Key × V)} (N : NoK K C) (h : H p = some (.dK xs)) : NoMk K C H (.ref p) := ⟨_, .base (.dK h), N.k _ (by simp)⟩
theorem ItE.up {a b : Addr} {B : Nat} {H H' : Hp} {v : V} (S : Stm H a b B) (k : ∀ p o, p ≠ a → p ≠ b → H p = some o → (∀ ps, o ≠ .tbl ps) → H' p = some o) (h : ItE a b H v) : ItE a b H' v := by
  cases h with
  | non => exact .non
  | int i => exact .int i
  | bl b => exact .bl b
  | str h => exact .str h
  | row h hn hp => exact .row (k _ _ hp.1 hp.2 h ntb_lst) hn hp
  | dic h =>
    obtain ⟨pa, pb⟩ := S.off h fun is z => by cases z
    exact .dic (k _ _ pa pb h ntb_dK)
theorem OddE.up {a b : Addr} {B : Nat} {H H' : Hp} {v : V} (S : Stm H a b B) (k : ∀ p o, p ≠ a → p ≠ b → H p = some o → (∀ ps, o ≠ .tbl ps) → H' p = some o) (h : OddE a b H v) : OddE a b H' v := by
  cases h with
  | non => exact .non
  | int i => exact .int i
  | bl b => exact .bl b
  | str h => exact .str h
  | lst h hn hx hq => exact .lst (k _ _ hq.1 hq.2 h ntb_lst) hn (fun v hv => (hx v hv).up S k) hq
  | dic h =>
    obtain ⟨pa, pb⟩ := S.off h fun is z => by cases z
    exact .dic (k _ _ pa pb h ntb_dK)
theorem odd_both {K : PySem.W.Frag} {a b : Addr} {B : Nat} {H : Hp} {v : V} {ds : List Str} (S : Stm H a b B) (hd : ds.length ≤ 63) (nd : ds.Nodup) (h : OddE a b H v) : ∃ (t : Tree) (w : Option Nat), DatT K H a b t v ∧ Dep 2 t ∧
    ((NoSeq K H v ∧ w = some 0) ∨ ∃ (q : Addr) (xs : List V), v = .ref q ∧ Seq H q xs ∧ (∀ v ∈ xs, Itm K H v) ∧ xs.length ≤ 4000 ∧ nfI ds xs = w) ∧
    ∀ H' x' Sx, KeepBut a b H H' → OutT H' t x' Sx → (∃ i, w = some i ∧ NfBad K H' x' ds i) ∨ (w = none ∧ ∃ zs, NfOk K H' x' ds zs) := by
  obtain ⟨t, dt, dp, h⟩ := odd_need (K := K) S h
  rcases h with ⟨nu, k⟩ | ⟨q, xs, rfl, hq, hi, hn, k⟩
  · exact ⟨t, some 0, dt, dp, .inl ⟨nu, rfl⟩, fun H' x' Sx kb o => .inl ⟨0, rfl, .inl ⟨k H' x' Sx kb o, rfl⟩⟩⟩
  · refine ⟨t, nfI ds xs, dt, dp, .inr ⟨q, xs, rfl, hq, hi, by omega, rfl⟩, fun H' x' Sx kb o => ?_⟩
    obtain ⟨p, ys, rfl, hp, hy, hl, e⟩ := k H' x' Sx kb o
    cases hw : nfI ds xs with
    | some i => exact .inl ⟨i, rfl, .inr ⟨p, ys, rfl, hp, hy, by omega, by rw [e, hw]⟩⟩
    | none => exact .inr ⟨rfl, nf_good hd nd hp hy (by rw [e, hw])⟩
theorem mk_due {K : PySem.W.Frag} {H : Hp} {r : Str} {c : Addr} {v : V} {ns : List Str} {w : Option Nat} {Q : VK} {E : XK} (hc : H c = some (.lst (ns.map V.str))) (gn : GoodNs ns)
    (hd : (NoSeq K H v ∧ w = some 0) ∨ ∃ (q : Addr) (xs : List V), v = .ref q ∧ Seq H q xs ∧ (∀ v ∈ xs, Itm K H v) ∧ xs.length ≤ 4000 ∧ nfI (dueNs r ns) xs = w) (k : ∀ H', Same H H' → Q (optI w) H') : spNDue K [.str r, .ref c, v] H Q E := by
  refine ⟨r, c, v, ns, rfl, hc, gn.nd, gn.l, strsOk_of gn, ?_⟩
  rcases hd with ⟨nu, rfl⟩ | ⟨q, xs, rfl, hq, hi, hn, e⟩
  · exact .inl ⟨nu, k⟩
  · refine .inr ⟨q, xs, rfl, hq, hi, hn, ?_⟩
    rw [e]
    exact k
section
variable {P : Program} {w : World} {K : PySem.W.Frag} {mg : Str → Option Value} {base : Heap}
theorem scRef : FnScope ["_law_stream", "_law_notice", "_law_rule", "_law_people", "_law_wishes", "_law_needs", "_law_market", "_law_odd", "_law_some", "_law_due", "_law_passed", "_law_found", "_law_held"] ["_law_stream", "_law_notice"] (defScope sRef) := ⟨rfl, rfl, rfl, by decide +kernel, rfl, by decide +kernel, by decide +kernel⟩
theorem ok_ref {T : List (Addr × Str)} {f fM fI fNt fE C0 CN : Addr} {fd fdM fdI fdNt : FuncData} (F : Fun K "_law_refused_right" "_law_refused_right" sRef f fd) (hf : f = He.fAd K ("_law_refused_right", none)) (TB : TabB base mg (He.cT K ("_law_refused_right", none)).1 (He.cT K ("_law_refused_right", none)).2)
    (hmT : ((He.cT K ("_law_refused_right", none)).2, qRef) ∈ T) (hu : ∀ p ∈ T, p.1 = (He.cT K ("_law_refused_right", none)).2 → p.2 = qRef)
    (FM : Fun K "_law_met" "_law_met" sMet fM fdM) (bM : Binds K fdM ["_law_ask"] []) (gMet : mg "_law_met" = some (.ref fM))
    (BP : ExX K mg "BadRule" "thing") (BW : ExX K mg "BadMarket" "thing") (BN : ExX K mg "BadNeeds" "index") (ex : Exm3 K (He.ga K "BadRule") (He.ga K "BadMarket") (He.ga K "BadNeeds"))
    (MC : MkC K C0) (MM : Mk K C0 fI) (gMk : mg "Market" = some (.ref C0)) (ME : MkE K C0 fE) (MT : MkT K C0) (NK : NoK K C0)
    (GI : FnOk P w K mg base (L2.CX P w) 6 fI fdI ["self", "people", "wishes"] (spInit K T)) (bI : Binds K fdI ["self", "people", "wishes"] [])
    (NC : NtC K CN) (NM : Mk K CN fNt) (gNt : mg "Notice" = some (.ref CN)) (GNt : FnOk P w K mg base (L2.CX P w) 4 fNt fdNt ["self", "rule", "market", "needs"] (spNt K T C0)) (bNt : Binds K fdNt ["self", "rule", "market", "needs"] [])
    (CND : Cl P w K mg base 1 "_law_needs_due" ["_law_rule", "_law_people", "_law_needs"] (spNDue K)) (CL : Cl P w K mg base 4 "_law_loose" ["_law_stream", "_law_thing"] (spLoose K 2))
    (CO : Cl P w K mg base 2 "_law_odd_needs" ["_law_stream", "_law_people", "_law_needs"] spOdd) (CS : Cl P w K mg base 11 "_law_same" ["_law_found", "_law_due"] (spSame C0 8)) (CP : Cl P w K mg base 5 "_law_a_spoiled" ["_law_thing"] (spSpL 3)) :
    FnOk P w K mg base CX0 12 f fd ["_law_stream", "_law_notice"] (spRef T) := by
  obtain ⟨oc, od, kV, doc, pm, an, cdv, ct, osl, rfl, lk, hcd⟩ := F.ex
  obtain ⟨c0, rfl⟩ := He.codeIn_ref hcd
  have ec : He.codeOf K ("_law_refused_right", none) = c0 := He.codeOf_eq (by rw [← hf]; exact lk) rfl
  obtain ⟨oc2, od2, kV2, doc2, pm2, an2, cdv2, ct2, osl2, rfl, lk2, hcd2⟩ := FM.ex
  obtain ⟨fND, fdND, GND, kND, bND, gND⟩ := CND.ex
  obtain ⟨fL, fdL, GL, kL, bL, gL⟩ := CL.ex
  obtain ⟨fOD, fdOD, GOD, kOD, bOD, gOD⟩ := CO.ex
  obtain ⟨fS, fdS, GS, kS, bS, gS⟩ := CS.ex
  obtain ⟨fSP, fdSP, GSP, kSP, bSP, gSP⟩ := CP.ex
  refine fn_of lk hcd scRef (fun vs H Q E h => ?_) (fun A outer s H vs Q E hr h => ?_)
  · obtain ⟨a, b, t, c, D, e, B, r, ns, rw_, as, zs, rfl, _⟩ := h
    rfl
  · obtain ⟨a, b, t, c, D, e, B, r, ns, rw_, as, zs, rfl, I0, hn12, nx1, hB, k⟩ := h
    have TB' : TabB base mg c0 (He.cT K ("_law_refused_right", none)).2 := by
      rw [← ec]
      exact TB
    have nd := scRef.nd
    refine ⟨_, PSs.nox (pss_cons (ps_asg (pv 1) (pg_tup rfl (pgs_cons (pg_name (i := 2) nd rfl (Or.inr rfl)) (pgs_cons (pg_name (i := 3) nd rfl (Or.inl rfl)) (pgs_cons (pg_name (i := 4) nd rfl (Or.inl rfl)) (pgs_cons (pg_name (i := 5) nd rfl (Or.inl rfl)) pgs_nil))))))
      (pss_cons (ps_set (i := 6) nd rfl (Or.inr rfl) (pe_make MM GI (hr.mono (by decide)) rfl gMk bI .nil passE0 (pa_cons (pv 3) (pa_cons (pv 4) pa_nil))))
      (pss_cons (ps_for PassesOwn.never rfl (pi_tup (pe_tup (pa_cons pe_non (pa_cons pe_int (pa_cons pe_str (pa_cons pe_str (pa_cons pe_str (pa_cons (pe_lst (pa_cons pe_str pa_nil)) (pa_cons (pe_tup (pa_cons pe_str pa_nil)) (pa_cons pe_dnewK (pa_cons pe_bl (pa_cons (pv 6) pa_nil)))))))))))) (pg_name (i := 7) nd rfl (Or.inr rfl)) (pss_one (ps_if (pt_not (pt_val (pe_call GS hr rfl gS kS bS .nil pass0 (pa_cons (pe_lst (pa_cons (pe_lamcall (k := 5) rfl gMet FM.kp lk2 hcd2 bM scMet rfl (Or.inl rfl) (met_gives BP BW BN ex) TB' rfl hmT hu (hr.mono (by decide)) (lamS_by (by rfl)) rfl (fun _ _ _ _ _ => rfl) (fun A outer s H E f c' hr2 => pe_make (E := E) NM GNt hr2 rfl gNt bNt .nil (passL (takes_of rfl rfl rfl rfl)) (pa_cons (pv 7) (pa_cons pe_non (pa_cons pe_non pa_nil))))) pa_nil)) (pa_cons (pe_lst (pa_cons (pe_tup (pa_cons pe_str (pa_cons (pv 7) pa_nil))) pa_nil)) pa_nil))))) (pss_one (ps_ret pe_bl)) pss_nil)))
      (pss_cons (ps_for PassesOwn.never rfl (pi_tup (pe_tup (pa_cons pe_non (pa_cons pe_int (pa_cons pe_str (pa_cons (pe_lst pa_nil) (pa_cons pe_dnewK (pa_cons (pe_tup (pa_cons (pv 3) (pa_cons (pv 4) pa_nil))) (pa_cons (pe_lst (pa_cons (pv 6) pa_nil)) (pa_cons pe_bl pa_nil)))))))))) (pg_name (i := 7) nd rfl (Or.inr rfl)) (pss_one (ps_if (pt_not (pt_val (pe_call GS hr rfl gS kS bS .nil pass0 (pa_cons (pe_lst (pa_cons (pe_lamcall (k := 5) rfl gMet FM.kp lk2 hcd2 bM scMet rfl (Or.inl rfl) (met_gives BP BW BN ex) TB' rfl hmT hu (hr.mono (by decide)) (lamS_by (by rfl)) rfl (fun _ _ _ _ _ => rfl) (fun A outer s H E f c' hr2 => pe_make (E := E) NM GNt hr2 rfl gNt bNt .nil (passL (takes_of rfl rfl rfl rfl)) (pa_cons (pv 2) (pa_cons (pv 7) (pa_cons pe_non pa_nil))))) pa_nil)) (pa_cons (pe_lst (pa_cons (pe_tup (pa_cons pe_str (pa_cons (pv 7) pa_nil))) pa_nil)) pa_nil))))) (pss_one (ps_ret pe_bl)) pss_nil)))
      (pss_cons (ps_for PassesOwn.never rfl (pi_list (pe_call GOD (hr.mono (by decide)) rfl gOD kOD bOD .nil pass0 (pa_cons (pv 0) (pa_cons (pv 3) (pa_cons (pv 5) pa_nil))))) (pg_name (i := 8) nd rfl (Or.inl rfl)) (pss_cons (ps_asg (pe_tup (pa_cons (pe_call GND (hr.mono (by decide)) rfl gND kND bND .nil pass0 (pa_cons (pv 2) (pa_cons (pv 3) (pa_cons (pv 8) pa_nil)))) (pa_cons (pe_call GL (hr.mono (by decide)) rfl gL kL bL .nil pass0 (pa_cons (pv 0) (pa_cons (pv 8) pa_nil))) pa_nil))) (pg_tup rfl (pgs_cons (pg_name (i := 9) nd rfl (Or.inl rfl)) (pgs_cons (pg_name (i := 10) nd rfl (Or.inr rfl)) pgs_nil))))
      (pss_cons (ps_set (i := 11) nd rfl (Or.inl rfl) (pe_lamcall (k := 5) rfl gMet FM.kp lk2 hcd2 bM scMet rfl (Or.inl rfl) (met_gives BP BW BN ex) TB' rfl hmT hu (hr.mono (by decide)) (lamS_by (by rfl)) rfl (fun _ _ _ _ _ => rfl) (fun A outer s H E f c' hr2 => pe_make (E := E) NM GNt hr2 rfl gNt bNt .nil (passL (takes_of rfl rfl rfl rfl)) (pa_cons (pv 2) (pa_cons (pv 6) (pa_cons (pv 10) pa_nil))))))
      (pss_one (ps_if (PW.pt (pw_or (pt_cmpR op_ne (pe_cmpR op_eq (pe_ix ix_tup (pv 11) pe_int (fun _ _ => rfl)) pe_str (nomark _)) (pe_cmpR op_isN (pv 9) pe_non (nomark _)) (nomark _)) (pw_or1 (PW.pt (pw_and (pt_cmpR op_notN (pv 9) pe_non (nomark _)) (pw_and1 (pt_not (pt_val (pe_call GS hr rfl gS kS bS .nil pass0 (pa_cons (pv 11) (pa_cons (pe_tup (pa_cons pe_str (pa_cons (pv 9) pa_nil))) pa_nil))))))))))) (pss_one (ps_ret pe_bl)) pss_nil)))))
      (pss_cons (ps_set (i := 12) nd rfl (Or.inr rfl) (pe_lst (pa_cons (pe_lst (pa_cons pe_str pa_nil)) (pa_cons (pe_disp (pps_cons pe_str pe_int pps_nil) rfl rfl (by simp) (by simp)) pa_nil))))
      (pss_cons (ps_set (i := 11) nd rfl (Or.inl rfl) (pe_lst (pa_cons (pe_lamcall (t := fun E => tMake CN (spNt K T C0) [] E (tCons (tOp (rIxL K) (tVar 12) (tC (.int 0))) (tCons (tC .non) (tCons (tC .non) tNil)))) (k := 5) rfl gMet FM.kp lk2 hcd2 bM scMet rfl (Or.inl rfl) (met_gives BP BW BN ex) TB' rfl hmT hu (hr.mono (by decide)) (lamS_by (by rfl)) rfl (fun _ _ _ _ _ => rfl) (fun A outer s H E f c' hr2 => by exact pe_make (E := E) NM GNt hr2 rfl gNt bNt .nil (passL (takes_of rfl rfl rfl rfl)) (pa_cons (pe_ix ix_list (pv 12) pe_int (fun _ _ => rfl)) (pa_cons pe_non (pa_cons pe_non pa_nil))))) pa_nil)))
      (pss_cons (ps_expr (pe_bm PySem.F.plainAttrs_list PySem.F.slot_list_append PySem.F.type_list_append mt_append (pv 11) (pa_cons (pe_lamcall (t := fun E => tMake CN (spNt K T C0) [] E (tCons (tVar 2) (tCons (tOp (rIxL K) (tVar 12) (tC (.int 1))) (tCons (tC .non) tNil)))) (k := 5) rfl gMet FM.kp lk2 hcd2 bM scMet rfl (Or.inl rfl) (met_gives BP BW BN ex) TB' rfl hmT hu (hr.mono (by decide)) (lamS_by (by rfl)) rfl (fun _ _ _ _ _ => rfl) (fun A outer s H E f c' hr2 => by exact pe_make (E := E) NM GNt hr2 rfl gNt bNt .nil (passL (takes_of rfl rfl rfl rfl)) (pa_cons (pv 2) (pa_cons (pe_ix ix_list (pv 12) pe_int (fun _ _ => rfl)) (pa_cons pe_non pa_nil))))) pa_nil)))
      (pss_cons (ps_expr (pe_call GSP (hr.mono (by decide)) rfl gSP kSP bSP .nil pass0 (pa_cons (pv 12) pa_nil)))
      (pss_one (ps_ret (pe_call GS hr rfl gS kS bS .nil pass0 (pa_cons (pv 11) (pa_cons (pe_lst (pa_cons (pe_tup (pa_cons pe_str (pa_cons (pe_ix ix_list (pv 12) pe_int (fun _ _ => rfl)) pa_nil))) (pa_cons (pe_tup (pa_cons pe_str (pa_cons (pe_ix ix_list (pv 12) pe_int (fun _ _ => rfl)) pa_nil))) pa_nil))) pa_nil)))))))))))))), ?_⟩
    have gn := I0.I.gn
    have gr := I0.I.gr
    have S := I0.I.S
    have hT := I0.I.T
    refine ⟨_, rfl, t, _, rfl, SqT.of I0.ht, rfl, _, _, rfl, _, _, rfl, _, _, rfl, _, _, rfl, rfl, ?_⟩
    -- the market
    refine ⟨_, rfl, _, rfl, mk_reads MC hT (pplOk (.inl I0.I.c) gn) (wshOk (ini_rows I0.I.R.l I0.I.R.d I0.I.R.r gn.nd (fun n hn => ⟨hn, rfl⟩) fun n hn z => absurd hn z) gr gn) fun H1 m ys u1 nm M1 keep1 => ?_⟩
    have st1 := mkSt_of S nm keep1
    have S1 : Stm H1 a b B := S.ext u1.e
    -- rules that are none
    refine ⟨(show 1 ≤ sizeLine by decide), fun p1 m1 => ⟨(show 1 ≤ sizeLine by decide), fun p2 m2 p3 m3 => ⟨_, rfl, (show 10 ≤ sizeLine by decide), fun Tp mT => ⟨Tp, rfl, ⟨_, SqT.of upd_same⟩, ?_⟩⟩⟩⟩
    have r1 := sameUp (o := .lst [.str "rings"]) m1
    have r2 := sameUp (o := .tup [.str "pairs"]) m2
    have r3 := sameUp (o := .dK []) m3
    have rT := sameUp (o := .tup [.non, .int 5, .str "", .str "ring", .str "Rings", .ref p1, .ref p2, .ref p3, .bl true, .ref m]) mT
    have f1 := rT _ _ (r3 _ _ (r2 _ _ (upd_same (a := p1) (o := HO.lst [.str "rings"]) (H := H1))))
    have f2 := rT _ _ (r3 _ _ (upd_same (a := p2) (o := HO.tup [.str "pairs"])))
    have f3 := rT _ _ (upd_same (a := p3) (o := HO.dK []))
    have fT : upd (upd (upd (upd H1 p1 (.lst [.str "rings"])) p2 (.tup [.str "pairs"])) p3 (.dK [])) Tp (.tup [.non, .int 5, .str "", .str "ring", .str "Rings", .ref p1, .ref p2, .ref p3, .bl true, .ref m]) Tp = _ := upd_same
    have rA := ((r1.trans r2).trans r3).trans rT
    generalize upd (upd (upd (upd H1 p1 (.lst [.str "rings"])) p2 (.tup [.str "pairs"])) p3 (.dK [])) Tp (.tup [.non, .int 5, .str "", .str "ring", .str "Rings", .ref p1, .ref p2, .ref p3, .bl true, .ref m]) = H2 at f1 f2 f3 fT rA ⊢
    have u2 : Up T H1 H2 := .same u1.t rA
    have M2 := M1.ext u2.e
    have ok := mkOk_of gn gr
    have who : ∀ v ∈ ([.non, .int 5, .str "", .str "ring", .str "Rings", .ref p1, .ref p2, .ref p3, .bl true, .ref m] : List V), ∀ H', ExtN H2 H' → ((∃ x, v = .str x ∧ x ∉ rules) ∨ NoStr K H' v) ∧ Sm C0 H' 6 v v := by
      intro v hv H' e
      simp only [List.mem_cons, List.not_mem_nil, or_false] at hv
      rcases hv with rfl | rfl | rfl | rfl | rfl | rfl | rfl | rfl | rfl | rfl
      · exact ⟨.inr noStr_non, .non _⟩
      · exact ⟨.inr noStr_int, .int _ _⟩
      · exact ⟨.inl ⟨_, rfl, by decide +kernel⟩, .str _ _⟩
      · exact ⟨.inl ⟨_, rfl, by decide +kernel⟩, .str _ _⟩
      · exact ⟨.inl ⟨_, rfl, by decide +kernel⟩, .str _ _⟩
      · exact ⟨.inr (noStr_lst (e _ _ f1 ntb_lst)), smR_lst (n := 5) (e _ _ f1 ntb_lst) (by simp) (mem1 (.str _ _))⟩
      · exact ⟨.inr (noStr_tup (e _ _ f2 ntb_tup)), smR_tup (n := 5) (e _ _ f2 ntb_tup) (by simp) (mem1 (.str _ _))⟩
      · exact ⟨.inr (noStr_dK (e _ _ f3 ntb_dK)), smR_dic (n := 3) (e _ _ f3 ntb_dK) (by simp) (fun v hv => by simp at hv)⟩
      · exact ⟨.inr noStr_bl, .bl _ _⟩
      · have M := M2.ext e
        obtain ⟨dx, fs, hm, _⟩ := M.ins
        exact ⟨.inr ⟨_, ME.ty hm, MT.s⟩, .mk _ M ok⟩
    refine for_it (walk_tup (xs := [.non, .int 5, .str "", .str "ring", .str "Rings", .ref p1, .ref p2, .ref p3, .bl true, .ref m])) (fun i σ H' => ∃ o7, σ = [some (.ref a), some (.ref t), some (.str r), some (.ref c), some (.ref D), some (.ref e), some (.ref m), o7, none, none, none, none, none] ∧ Up T H2 H') ⟨_, rfl, .refl u2.t⟩
      (fun i σ H' _ h => by
        obtain ⟨_, _, u⟩ := h
        exact SqT.of (u.e _ _ fT ntb_tup)) ?_ ?_
    · rintro i v σ H3 H4 hi ⟨o7, rfl, u4⟩ ⟨rfl, hv⟩
      refine ⟨u4.t, fun H7 e7 t7 => ?_⟩
      have e2 := u4.e.trans e7
      refine ⟨_, rfl, ?_⟩
      intro x dx nx ndx ne
      refine mk_badRule NC t7 (who v (List.mem_of_getElem? hv) H7 e2).1 (fun H8 dd u8 hd8 => ?_) x dx nx ndx ne
      refine ⟨_, _, dd, _, .p, rfl, hd8, fun q0 nq0 => ⟨(show 1 ≤ sizeLine by decide), fun q1 nq1 => ⟨_, rfl, (show 2 ≤ sizeLine by decide), fun q2 nq2 => ⟨(show 1 ≤ sizeLine by decide), fun q3 nq3 => ⟨_, _, rfl, ?_, fun H9 s9 => ⟨true, rfl, iteF ?_⟩⟩⟩⟩⟩⟩
      · exact sm_pair (n := 6) ((sameUp nq3) _ _ ((sameUp nq2) _ _ upd_same)) upd_same ((sameUp nq3) _ _ ((sameUp nq2) _ _ ((sameUp nq1) _ _ upd_same))) ((sameUp nq3) _ _ upd_same)
          ((who v (List.mem_of_getElem? hv) _ (e2.trans (u8.e.trans (ExtN.of ((((sameUp nq0).trans (sameUp nq1)).trans (sameUp nq2)).trans (sameUp nq3)))))).2)
      · exact ⟨_, rfl, u4.trans (((⟨e7, t7⟩ : Up T _ H7).trans u8).andS (((((sameUp nq0).trans (sameUp nq1)).trans (sameUp nq2)).trans (sameUp nq3)).trans s9))⟩
    · rintro σ H3 ⟨o7, rfl, u3⟩
      have hc3 : H3 c = _ := u3.e _ _ (u2.e _ _ (u1.e _ _ I0.I.c ntb_lst) ntb_lst) ntb_lst
      have u03 : Up T H H3 := (u1.trans u2).trans u3
      clear who f1 f2 f3 fT
      -- markets that are none
      refine ⟨Nat.zero_le _, fun p1 m1 p2 m2 => ⟨_, rfl, _, rfl, (show 2 ≤ sizeLine by decide), fun p3 m3 => ⟨_, rfl, (show 1 ≤ sizeLine by decide), fun p4 m4 => ⟨(show 8 ≤ sizeLine by decide), fun Tp mT => ⟨Tp, rfl, ⟨_, SqT.of upd_same⟩, ?_⟩⟩⟩⟩⟩
      have r1 := sameUp (o := .lst []) m1
      have r2 := sameUp (o := .dK []) m2
      have r3 := sameUp (o := .tup [.ref c, .ref D]) m3
      have r4 := sameUp (o := .lst [.ref m]) m4
      have rT := sameUp (o := .tup [.non, .int 5, .str "rings", .ref p1, .ref p2, .ref p3, .ref p4, .bl true]) mT
      have f1 := rT _ _ (r4 _ _ (r3 _ _ (r2 _ _ (upd_same (a := p1) (o := HO.lst []) (H := H3)))))
      have f2 := rT _ _ (r4 _ _ (r3 _ _ (upd_same (a := p2) (o := HO.dK []))))
      have f3 := rT _ _ (r4 _ _ (upd_same (a := p3) (o := HO.tup [.ref c, .ref D])))
      have f4 := rT _ _ (upd_same (a := p4) (o := HO.lst [.ref m]))
      have fT : upd (upd (upd (upd (upd H3 p1 (.lst [])) p2 (.dK [])) p3 (.tup [.ref c, .ref D])) p4 (.lst [.ref m])) Tp (.tup [.non, .int 5, .str "rings", .ref p1, .ref p2, .ref p3, .ref p4, .bl true]) Tp = _ := upd_same
      have rB := (((r1.trans r2).trans r3).trans r4).trans rT
      generalize upd (upd (upd (upd (upd H3 p1 (.lst [])) p2 (.dK [])) p3 (.tup [.ref c, .ref D])) p4 (.lst [.ref m])) Tp (.tup [.non, .int 5, .str "rings", .ref p1, .ref p2, .ref p3, .ref p4, .bl true]) = H4 at f1 f2 f3 f4 fT rB ⊢
      have u4 : Up T H3 H4 := .same u03.t rB
      have u04 : Up T H H4 := u03.trans u4
      have M4 := (M2.ext u3.e).ext u4.e
      have hl63 := gn.l
      have rl : ∀ n ∈ ns, (rw_ n).length ≤ 1000 := fun n hn => Nat.le_trans (rowOk_of gn gr hn).2 (by decide)
      have who2 : ∀ v ∈ ([.non, .int 5, .str "rings", .ref p1, .ref p2, .ref p3, .ref p4, .bl true] : List V), ∀ H', ExtN H4 H' → NoMk K C0 H' v ∧ Sm C0 H' 6 v v := by
        intro v hv H' e1
        have e0 := u04.e.trans e1
        simp only [List.mem_cons, List.not_mem_nil, or_false] at hv
        rcases hv with rfl | rfl | rfl | rfl | rfl | rfl | rfl | rfl
        · exact ⟨nk_non NK, .non _⟩
        · exact ⟨nk_int NK, .int _ _⟩
        · exact ⟨nk_str NK, .str _ _⟩
        · exact ⟨nk_lst NK (e1 _ _ f1 ntb_lst), smR_lst (n := 5) (e1 _ _ f1 ntb_lst) (by simp) (fun v hv => by simp at hv)⟩
        · exact ⟨nk_dK NK (e1 _ _ f2 ntb_dK), smR_dic (n := 3) (e1 _ _ f2 ntb_dK) (by simp) (fun v hv => by simp at hv)⟩
        · refine ⟨nk_tup NK (e1 _ _ f3 ntb_tup), smR_tup (n := 5) (e1 _ _ f3 ntb_tup) (by simp) (mem2 (smR_lst (n := 4) (e0 _ _ I0.I.c ntb_lst) (by rw [List.length_map]; omega) sm_strL) ?_)⟩
          exact sm_rows (n := 1) (e0 _ _ I0.I.R.d ntb_dK) (e0 _ _ I0.I.R.d ntb_dK) I0.I.R.l I0.I.R.l (by omega) rl (fun i n q h1 h2 => e0 _ _ (I0.I.R.r i n q h1 h2) ntb_lst) (fun i n q h1 h2 => e0 _ _ (I0.I.R.r i n q h1 h2) ntb_lst)
        · exact ⟨nk_lst NK (e1 _ _ f4 ntb_lst), smR_lst (n := 5) (e1 _ _ f4 ntb_lst) (by simp) (mem1 (.mk _ (M4.ext e1) ok))⟩
        · exact ⟨nk_bl NK, .bl _ _⟩
      refine for_it (walk_tup (xs := [.non, .int 5, .str "rings", .ref p1, .ref p2, .ref p3, .ref p4, .bl true])) (fun i σ H' => ∃ o7, σ = [some (.ref a), some (.ref t), some (.str r), some (.ref c), some (.ref D), some (.ref e), some (.ref m), o7, none, none, none, none, none] ∧ Up T H4 H') ⟨_, rfl, .refl u4.t⟩
        (fun i σ H' _ h => by
          obtain ⟨_, _, u⟩ := h
          exact SqT.of (u.e _ _ fT ntb_tup)) ?_ ?_
      · rintro i v σ H5 H6 hi ⟨o7, rfl, u6⟩ ⟨rfl, hv⟩
        refine ⟨u6.t, fun H7 e7 t7 => ?_⟩
        have e4 := u6.e.trans e7
        refine ⟨_, rfl, _, rfl, ?_⟩
        intro x dx nx ndx ne
        refine mk_badMarket NC t7 I0.hr (who2 v (List.mem_of_getElem? hv) H7 e4).1 (fun H8 dd u8 hd8 => ?_) x dx nx ndx ne
        refine ⟨_, _, dd, _, .w, rfl, hd8, fun q0 nq0 => ⟨(show 1 ≤ sizeLine by decide), fun q1 nq1 => ⟨_, rfl, (show 2 ≤ sizeLine by decide), fun q2 nq2 => ⟨(show 1 ≤ sizeLine by decide), fun q3 nq3 => ⟨_, _, rfl, ?_, fun H9 s9 => ⟨true, rfl, iteF ?_⟩⟩⟩⟩⟩⟩
        · exact sm_pair (n := 6) ((sameUp nq3) _ _ ((sameUp nq2) _ _ upd_same)) upd_same ((sameUp nq3) _ _ ((sameUp nq2) _ _ ((sameUp nq1) _ _ upd_same))) ((sameUp nq3) _ _ upd_same)
            ((who2 v (List.mem_of_getElem? hv) _ (e4.trans (u8.e.trans (ExtN.of ((((sameUp nq0).trans (sameUp nq1)).trans (sameUp nq2)).trans (sameUp nq3)))))).2)
        · exact ⟨_, rfl, u6.trans (((⟨e7, t7⟩ : Up T _ H7).trans u8).andS (((((sameUp nq0).trans (sameUp nq1)).trans (sameUp nq2)).trans (sameUp nq3)).trans s9))⟩
      · rintro σ H5 ⟨o7, rfl, u5⟩
        have u05 : Up T H H5 := u04.trans u5
        have S5 : Stm H5 a b B := S.ext u05.e
        have hc5 := u05.e _ _ I0.I.c ntb_lst
        have he5 := u05.e _ _ I0.he ntb_lst
        have M5 := M4.ext u5.e
        have zl : zs.length ≤ ns.length := by
          rw [I0.pz.length_eq]
          exact due_len
        have lo : ∀ n ∈ ns, n.length ≤ sizeLine := fun n hn => Nat.le_trans (goodNm.len (gn.g n hn)) (by decide)
        have znd : zs.Nodup := I0.pz.nodup_iff.mpr (due_nd gn.nd)
        have dl : (dueNs r ns).length ≤ 63 := Nat.le_trans due_len hl63
        clear who2 f1 f2 f3 f4 fT
        refine ⟨_, rfl, _, rfl, _, rfl, a, b, c, e, B, ns, zs, rfl, S5, I0.I.ca, I0.I.cb, I0.ea, I0.eb, hc5, he5, by omega, by omega, znd, lo, fun n hn => lo n (due_sub n (I0.pz.mem_iff.mp hn)), by omega, fun H6 l xs kb6 S6 nl hl hxl hxs => ⟨l, rfl, ⟨_, SqL.of hl⟩, ?_⟩⟩
        have u56 : UpS T a b H5 H6 := .kb u05.t S5 kb6
        have u06 : UpS T a b H H6 := (UpS.up u05).trans u56
        obtain ⟨la, lb⟩ := S5.nd nl
        have st5 : MkSt C0 a b H6 m ns ys rw_ := fun H'' kk => st1 H'' fun q o n1 n2 h nt => kk q o n1 n2 (u56.e q o n1 n2 (u5.e q o (u4.e q o (u3.e q o (u2.e q o h nt) nt) nt) nt) nt) nt
        refine for_it (walk_list (xs := xs)) (fun i σ H' => ∃ o7 o8 o9 o10 o11, σ = [some (.ref a), some (.ref t), some (.str r), some (.ref c), some (.ref D), some (.ref e), some (.ref m), o7, o8, o9, o10, o11, none] ∧ UpS T a b H6 H' ∧ Stm H' a b (B + 1 + i * 1000000)) ⟨_, _, _, _, _, rfl, .refl u56.t, S6.up (by omega)⟩
          (fun i σ H' _ h => by
            obtain ⟨_, _, _, _, _, _, u, _⟩ := h
            exact SqL.of (u.e _ _ la lb hl ntb_lst)) ?_ ?_
        · rintro i v σ H7 H8 hi ⟨o7, o8, o9, o10, o11, rfl, u8, S8⟩ ⟨rfl, hv⟩
          have hodd := (hxs v (List.mem_of_getElem? hv)).up S6 (fun p o n1 n2 h nt => u8.e p o n1 n2 h nt)
          obtain ⟨t0, w0, dt, dp, hdue, kt⟩ := odd_both (K := K) (ds := dueNs r ns) S8 dl (due_nd gn.nd) hodd
          have hc8 := (u06.trans u8).e c _ I0.I.ca I0.I.cb I0.I.c ntb_lst
          refine ⟨_, rfl, _, rfl, _, rfl, ?_⟩
          delta tNil
          dsimp only
          refine mk_due hc8 gn hdue fun H9 s9 => ?_
          have k9 : KeepBut a b _ H9 := KeepBut.same s9
          have S9 := S8.ext (ExtN.of s9)
          have u9 := u8.trans (.same u8.t s9)
          refine ⟨_, rfl, _, rfl, a, b, _, v, t0, rfl, S9, by omega, dt.but k9 S8.ha S8.hb, dp, by decide, fun H10 x' Sx S10 kb10 ot fr => ?_⟩
          have kb := k9.trans kb10
          have hkt := kt H10 x' Sx kb ot
          have u10 : UpS T a b H6 H10 := u9.trans (.kb u9.t S9 kb10)
          refine ⟨(show 2 ≤ sizeLine by decide), fun tp ntp => ?_⟩
          have sT := sameUp (o := .tup [optI w0, x']) ntp
          refine ⟨tp, _, rfl, SqT.of upd_same, rfl, _, _, rfl, _, _, rfl, rfl, ?_⟩
          have u11 : UpS T a b H6 _ := u10.trans (.same u10.t sT)
          have S11 := S10.ext (ExtN.of sT)
          have M11 := st5 _ fun q o n1 n2 h nt => u11.e q o n1 n2 h nt
          generalize upd H10 tp (.tup [optI w0, x']) = H11 at sT u11 S11 M11 ⊢
          refine ⟨u11.t, fun H12 e12 t12 => ?_⟩
          refine ⟨_, rfl, _, rfl, _, rfl, ?_⟩
          have uu : Up T H11 H12 := ⟨e12, t12⟩
          have M12 := M11.ext e12
          have fin : ∀ {H' : Hp}, Up T H11 H' → UpS T a b H6 H' ∧ Stm H' a b (B + 1 + (i + 1) * 1000000) := fun u => ⟨u11.trans (.up u), (S11.ext u.e).up (by omega)⟩
          rcases hkt with ⟨j, rfl, bad⟩ | ⟨rfl, zs', okz⟩
          · intro x dx nx ndx ne
            refine mk_badNeeds NC t12 I0.hr M12 gn.l ((bad.ext (ExtN.of sT)).ext e12) (fun H13 dd u13 hd13 => ?_) x dx nx ndx ne
            refine ⟨_, _, dd, _, .n, rfl, hd13, fun q0 nq0 => ?_⟩
            have sq := sameUp (o := .tup [.str "needs", .int (j : Nat)]) nq0
            have hq0 : upd H13 q0 (.tup [.str "needs", .int (j : Nat)]) q0 = some (.tup [.str "needs", .int (j : Nat)]) := upd_same
            have u14 := (uu.trans u13).andS sq
            generalize upd H13 q0 (.tup [.str "needs", .int (j : Nat)]) = H14 at hq0 u14 ⊢
            have e1 : decide (V.str "needs" = V.str "told") = false := by decide +kernel
            have e2 : decide (optI (some j) = V.non) = false := decide_eq_false fun z => by cases z
            refine ⟨_, rfl, q0, _, 0, .str "needs", rfl, rfl, SqT.of hq0, atI_nat (j := 0) rfl, rfl, _, rfl, rfl, rfl, _, rfl, ?_⟩
            rw [e1, e2]
            refine iteF ⟨_, rfl, rfl, _, rfl, ?_⟩
            rw [e2]
            refine iteT ⟨_, rfl, _, rfl, (show 2 ≤ sizeLine by decide), fun q2 nq2 => ⟨_, _, rfl, ?_, fun H15 s15 => ⟨true, rfl, iteF ?_⟩⟩⟩
            · have s2 := sameUp (o := .tup [.str "needs", .int (j : Nat)]) nq2
              refine .tup (n := 7) (s2 _ _ hq0) upd_same rfl (by simp) fun i x y h1 h2 => ?_
              have h1 : [V.str "needs", V.int (j : Nat)][i]? = some x := h1
              have h2 : [V.str "needs", V.int (j : Nat)][i]? = some y := h2
              rw [h1] at h2
              obtain rfl := Option.some.inj h2
              exact mem2 (X := fun x => Sm C0 _ 7 x x) (.str _ _) (.int _ _) x (List.mem_of_getElem? h1)
            · obtain ⟨f1, f2⟩ := fin (u14.andS ((sameUp nq2).trans s15))
              exact ⟨_, _, _, _, _, rfl, f1, f2⟩
          · refine mk_nt NC t12 I0.hr M12 gn.l ((okz.ext (ExtN.of sT)).ext e12) fun H13 x1 u13 nx1 o keep => ?_
            refine ⟨(show 2 ≤ sizeLine by decide), fun q0 nq0 => ?_⟩
            have sq := sameUp (o := .tup [.str "told", .ref x1]) nq0
            have hq0 : upd H13 q0 (.tup [.str "told", .ref x1]) q0 = some (.tup [.str "told", .ref x1]) := upd_same
            have u14 := (uu.trans u13).andS sq
            generalize upd H13 q0 (.tup [.str "told", .ref x1]) = H14 at hq0 u14 ⊢
            have e1 : decide (V.str "told" = V.str "told") = true := by decide +kernel
            have e2 : decide (optI none = V.non) = true := decide_eq_true rfl
            refine ⟨_, rfl, q0, _, 0, .str "told", rfl, rfl, SqT.of hq0, atI_nat (j := 0) rfl, rfl, _, rfl, rfl, rfl, _, rfl, ?_⟩
            rw [e1, e2]
            refine iteF ⟨_, rfl, rfl, _, rfl, ?_⟩
            rw [e2]
            obtain ⟨f1, f2⟩ := fin u14
            refine iteF (iteF ?_)
            exact ⟨_, _, _, _, _, rfl, f1, f2⟩
        · rintro σ H7 ⟨o7, o8, o9, o10, o11, rfl, u7, S7⟩
          have u07 := u06.trans u7
          -- what is held
          refine ⟨(show 1 ≤ sizeLine by decide), fun l1 nl1 d nd1 => ⟨upd_same, [(Sum.inr "x", .int 1)], rfl, by simp, ⟨(show 2 ≤ sizeLine by decide), fun hd nhd => ?_⟩⟩⟩
          have r1 := sameUp (o := .lst [.str "x"]) nl1
          have r2 : Same (upd H7 l1 (.lst [.str "x"])) (upd (upd (upd H7 l1 (.lst [.str "x"])) d (.dK [])) d (.dK (mergeK [] [(Sum.inr "x", .int 1)]))) := same_un nd1 (sameUp nd1)
          have r3 := sameUp (o := .lst [.ref l1, .ref d]) nhd
          have h1 := r3 _ _ (r2 _ _ (upd_same (a := l1) (o := HO.lst [.str "x"]) (H := H7)))
          have h2 : upd (upd (upd (upd H7 l1 (.lst [.str "x"])) d (.dK [])) d (.dK (mergeK [] [(Sum.inr "x", .int 1)]))) hd (.lst [.ref l1, .ref d]) d = some (.dK [(Sum.inr "x", .int 1)]) := r3 _ _ upd_same
          have h3 : upd (upd (upd (upd H7 l1 (.lst [.str "x"])) d (.dK [])) d (.dK (mergeK [] [(Sum.inr "x", .int 1)]))) hd (.lst [.ref l1, .ref d]) hd = some (.lst [.ref l1, .ref d]) := upd_same
          have r13 := (r1.trans r2).trans r3
          have fd := r1.free nd1
          have fh := (r1.trans r2).free nhd
          generalize upd (upd (upd (upd H7 l1 (.lst [.str "x"])) d (.dK [])) d (.dK (mergeK [] [(Sum.inr "x", .int 1)]))) hd (.lst [.ref l1, .ref d]) = H8 at h1 h2 h3 r13 ⊢
          have u8 : Up T H7 H8 := .same u7.t r13
          have l1d : l1 ≠ d := fun z => by
            rw [z, h2] at h1
            cases h1
          have hdd : hd ≠ d := fun z => by
            rw [z, h2] at h3
            cases h3
          have hl1 : hd ≠ l1 := fun z => by
            rw [z, h1] at h3
            cases h3
          refine ⟨u8.t, fun H9 e9 t9 => ⟨_, rfl, hd, _, 0, .ref l1, rfl, rfl, SqL.of (e9 _ _ h3 ntb_lst), atI_nat (j := 0) rfl, ?_⟩⟩
          intro x dx nx ndx ne
          refine mk_badRule NC t9 (.inr (noStr_lst (e9 _ _ h1 ntb_lst))) (fun H10 dd u10 hd10 => ?_) x dx nx ndx ne
          refine ⟨_, _, dd, _, .p, rfl, hd10, fun q0 nq0 => ⟨(show 1 ≤ sizeLine by decide), fun fl nfl => ?_⟩⟩
          have w1 := sameUp (o := .tup [.str "rule", .ref l1]) nq0
          have w2 := sameUp (o := .lst [.ref q0]) nfl
          have hq0 := w2 _ _ (upd_same (a := q0) (o := HO.tup [.str "rule", .ref l1]) (H := H10))
          have hfl : upd (upd H10 q0 (.tup [.str "rule", .ref l1])) fl (.lst [.ref q0]) fl = some (.lst [.ref q0]) := upd_same
          have u11 : Up T H8 _ := ((⟨e9, t9⟩ : Up T H8 H9).trans u10).andS (w1.trans w2)
          have nfl8 : Nw H8 fl := Nw.of (((⟨e9, t9⟩ : Up T H8 H9).trans u10).andS w1).e nfl
          generalize upd (upd H10 q0 (.tup [.str "rule", .ref l1])) fl (.lst [.ref q0]) = H11 at hq0 hfl u11 ⊢
          refine ⟨_, rfl, .inl ⟨rfl, _, SqL.of hfl⟩, u11.t, fun H12 e12 t12 => ⟨_, rfl, _, rfl, hd, _, 1, .ref d, rfl, rfl, SqL.of ((u11.e.trans e12) _ _ h3 ntb_lst), atI_nat (j := 1) rfl, ?_⟩⟩
          intro x dx nx ndx ne
          refine mk_badMarket NC t12 I0.hr (nk_dK NK ((u11.e.trans e12) _ _ h2 ntb_dK)) (fun H13 dd u13 hd13 => ?_) x dx nx ndx ne
          refine ⟨_, _, dd, _, .w, rfl, hd13, fun q1 nq1 => ?_⟩
          have w3 := sameUp (o := .tup [.str "market", .ref d]) nq1
          have u14 : Up T H11 _ := ((⟨e12, t12⟩ : Up T H11 H12).trans u13).andS w3
          have hq1 : upd H13 q1 (.tup [.str "market", .ref d]) q1 = some (.tup [.str "market", .ref d]) := upd_same
          generalize upd H13 q1 (.tup [.str "market", .ref d]) = H14 at u14 hq1 ⊢
          have hfl14 := u14.e _ _ hfl ntb_lst
          have hq014 := u14.e _ _ hq0 ntb_tup
          refine ⟨fl, _, _, rfl, rfl, hfl14, small1000 (by simp), ?_⟩
          have u814 := u11.trans u14
          have n1 : fl ≠ l1 := fun z => by
            obtain ⟨ps, e⟩ := nfl8 _ (z ▸ h1)
            cases e
          have n2 : fl ≠ d := fun z => by
            obtain ⟨ps, e⟩ := nfl8 _ (z ▸ h2)
            cases e
          have n3 : fl ≠ hd := fun z => by
            obtain ⟨ps, e⟩ := nfl8 _ (z ▸ h3)
            cases e
          have h114 := u814.e _ _ h1 ntb_lst
          have h214 := u814.e _ _ h2 ntb_dK
          have h314 := u814.e _ _ h3 ntb_lst
          have m0 : q0 ≠ fl := fun z => by
            rw [z, hfl14] at hq014
            cases hq014
          have m1 : q1 ≠ fl := fun z => by
            rw [z, hfl14] at hq1
            cases hq1
          have k15 : ∀ q o, q ≠ fl → H14 q = some o → upd H14 fl (.lst ([.ref q0] ++ [.ref q1])) q = some o := fun q o n e => by
            rw [upd_ne n]
            exact e
          have g1 := k15 _ _ n1.symm h114
          have g2 := k15 _ _ n2.symm h214
          have g3 := k15 _ _ n3.symm h314
          have g4 := k15 _ _ m0 hq014
          have g5 := k15 _ _ m1 hq1
          have g6 : upd H14 fl (.lst ([.ref q0] ++ [.ref q1])) fl = some (.lst [.ref q0, .ref q1]) := upd_same
          have t15 : Tabs T (upd H14 fl (.lst ([.ref q0] ++ [.ref q1]))) := Tabs.put u14.t hfl14 ntb_lst (fun φ z => by cases z)
          have fl7 : Nw H7 fl := fun o e => by
            by_cases z : ∃ ps, o = .tbl ps
            · exact z
            · exact nfl8 o (u8.e fl o e fun ps q => z ⟨ps, q⟩)
          have v15 : ∀ q o, H7 q = some o → (∀ ps, o ≠ .tbl ps) → upd H14 fl (.lst ([.ref q0] ++ [.ref q1])) q = some o := fun q o e nt => k15 q o (fun z => by
            obtain ⟨ps, w⟩ := fl7 o (z ▸ e)
            exact nt ps w) ((u8.trans u814).e q o e nt)
          generalize upd H14 fl (.lst ([.ref q0] ++ [.ref q1])) = H15 at g1 g2 g3 g4 g5 g6 t15 v15 ⊢
          have OwH : OwL H15 3 (.ref hd) (hd :: ((l1 :: ([] ++ [])) ++ ((d :: ([] ++ [])) ++ []))) := .lst g3 (by simp) (.cons (.lst g1 (by simp) (.cons (.str _ _) (.nil _) (fun s hs => by simp at hs)) (by simp)) (.cons (.dic g2 (by simp) (.cons (.int _ _) (.nil _) (fun s hs => by simp at hs)) (by simp)) (.nil _) (fun s hs z => by simp at z)) (fun s hs z => by
            have e1 : s = l1 := by simpa using hs
            have e2 : s = d := by simpa using z
            exact l1d (e1.symm.trans e2))) (by simp [hl1, hdd])
          generalize hSS : (hd :: ((l1 :: ([] ++ [])) ++ ((d :: ([] ++ [])) ++ [])) : List Addr) = SS at OwH
          have inS : ∀ q ∈ SS, q = hd ∨ q = l1 ∨ q = d := fun q hq => by
            rw [← hSS] at hq
            simpa using hq
          have mS : hd ∈ SS ∧ l1 ∈ SS ∧ d ∈ SS := by
            rw [← hSS]
            simp
          have nS7 : ∀ q ∈ SS, H7 q = none := fun q hq => by
            rcases inS q hq with rfl | rfl | rfl
            · exact fh
            · exact nl1
            · exact fd
          refine ⟨_, rfl, .ref hd, SS, rfl, OwH, fun H16 d16 => ?_⟩
          have hh := (d16.a hd mS.1).1 _ g3
          have hx := (d16.a l1 mS.2.1).1 _ g1
          obtain ⟨q9, _, hy, hz⟩ := (d16.a d mS.2.2).2 _ g2
          have nf : ∀ {q : Addr} {o : HO}, H15 q = some o → (∀ xs, o ≠ .lst xs) → (∀ xs, o ≠ .dK xs) → q ∉ SS := fun {q o} e w1 w2 z => by
            rcases inS q z with z | z | z
            · rw [z, g3] at e
              exact w1 _ (Option.some.inj e).symm
            · rw [z, g1] at e
              exact w1 _ (Option.some.inj e).symm
            · rw [z, g2] at e
              exact w2 _ (Option.some.inj e).symm
          have nfl : fl ∉ SS := fun z => by
            rcases inS fl z with z | z | z
            · exact n3 z
            · exact n1 z
            · exact n2 z
          have f4 := d16.k _ _ (nf g4 (fun xs z => by cases z) (fun xs z => by cases z)) g4
          have f5 := d16.k _ _ (nf g5 (fun xs z => by cases z) (fun xs z => by cases z)) g5
          have f6 := d16.k _ _ nfl g6
          have v16 : ∀ q o, H7 q = some o → (∀ ps, o ≠ .tbl ps) → H16 q = some o := fun q o e nt => d16.k q o (fun z => by
            rw [nS7 q z] at e
            cases e) (v15 q o e nt)
          have t16 : Tabs T H16 := Tabs.keepS t15 fun q o ho e => d16.k q o (nf e (fun xs z => by
            rcases ho with ⟨ps, w⟩ | ⟨φ, w⟩ <;> (rw [z] at w; cases w)) (fun xs z => by
            rcases ho with ⟨ps, w⟩ | ⟨φ, w⟩ <;> (rw [z] at w; cases w))) e
          have S16 : Stm H16 a b (B + 200000000) := (S7.ext v16).up (by omega)
          refine ⟨_, rfl, _, rfl, hd, _, 0, .ref l1, rfl, rfl, SqL.of hh, atI_nat (j := 0) rfl, (show 2 ≤ sizeLine by decide), fun q2 nq2 => ?_⟩
          have y2 := sameUp (o := .tup [.str "rule", .ref l1]) nq2
          refine ⟨_, rfl, hd, _, 1, .ref d, rfl, rfl, SqL.of (y2 _ _ hh), atI_nat (j := 1) rfl, (show 2 ≤ sizeLine by decide), fun q3 nq3 => ⟨(show 2 ≤ sizeLine by decide), fun q4 nq4 => ?_⟩⟩
          have y3 := sameUp (o := .tup [.str "market", .ref d]) nq3
          have y4 := sameUp (o := .lst [.ref q2, .ref q3]) nq4
          have z2 := y4 _ _ (y3 _ _ (upd_same (a := q2) (o := HO.tup [.str "rule", .ref l1]) (H := H16)))
          have z3 := y4 _ _ (upd_same (a := q3) (o := HO.tup [.str "market", .ref d]) (H := upd H16 q2 (.tup [.str "rule", .ref l1])))
          have z4 : upd (upd (upd H16 q2 (.tup [.str "rule", .ref l1])) q3 (.tup [.str "market", .ref d])) q4 (.lst [.ref q2, .ref q3]) q4 = some (.lst [.ref q2, .ref q3]) := upd_same
          have y := (y2.trans y3).trans y4
          generalize upd (upd (upd H16 q2 (.tup [.str "rule", .ref l1])) q3 (.tup [.str "market", .ref d])) q4 (.lst [.ref q2, .ref q3]) = H17 at z2 z3 z4 y ⊢
          refine ⟨_, _, rfl, ?_, fun H18 s18 => ?_⟩
          · have tupS : ∀ {p1 p2 : Addr} {tg : Str} {v : V}, H17 p1 = some (.tup [.str tg, v]) → H17 p2 = some (.tup [.str tg, v]) → Sm C0 H17 6 v v → Sm C0 H17 7 (.ref p1) (.ref p2) := fun {p1 p2 tg v} a1 a2 sv => by
              refine .tup (n := 6) a1 a2 rfl (by simp) fun i x y h1 h2 => ?_
              rw [h1] at h2
              obtain rfl := Option.some.inj h2
              exact mem2 (X := fun x => Sm C0 _ 6 x x) (.str _ _) sv x (List.mem_of_getElem? h1)
            refine .lst (n := 7) (y _ _ f6) z4 rfl (by simp) fun i x y' a1 a2 => ?_
            match i, a1, a2 with
            | 0, a1, a2 =>
              obtain rfl := Option.some.inj a1
              obtain rfl := Option.some.inj a2
              exact tupS (y _ _ f4) z2 (smR_lst (n := 5) (y _ _ hx) (by simp) (mem2 (.str _ _) (.str _ _)))
            | 1, a1, a2 =>
              obtain rfl := Option.some.inj a1
              obtain rfl := Option.some.inj a2
              refine tupS (y _ _ f5) z3 (smR_dic (n := 3) (y _ _ hy) ?_ fun v hv => ?_)
              · have := length_putK [((Sum.inr "x" : Key), V.int 1)] (Sum.inr "late") (.ref q9)
                have e1 : [((Sum.inr "x" : Key), V.int 1)].length = 1 := rfl
                omega
              · rcases mem_putK hv with h | h
                · obtain rfl : v = ((Sum.inr "x" : Key), V.int 1) := by simpa using h
                  exact .int _ _
                · rw [h]
                  exact smR_lst (n := 2) (y _ _ hz) (by simp) (mem1 (.str _ _))
            | i + 2, a1, _ => cases a1
          · have yy := y.trans s18
            exact k H18 (u07.trans (.trans ⟨fun q o n1 n2 e nt => v16 q o e nt, t16⟩ (.same t16 yy))) (S16.ext (ExtN.of yy))
end
end Mn
namespace Mg
open PySem PySem.Spec PyProof.Rows L2
section
variable {P : Program} {w : World} {K : PySem.W.Frag} {mg : Str → Option Value} {base : Heap}
theorem FnG.of {k : Nat} {f : Addr} {name qual : Str} {params : Arguments} {body : List Stmt} {scope : Scope} {dV kV doc pm cdv ct oc : Value} {an od : Option Addr} {osl : Array (Option Value)} {N ps : List Str} {sp : Sp}
    (lk : K.lookup f = some ⟨oc, od, .func (PySem.W.fnOf name qual params body scope dV kV doc pm an cdv ct), osl⟩) (hcd : PySem.W.codeIn K cdv qual = true) (S : FnScope N ps scope)
    (long : ∀ vs H Q E, sp vs H Q E → vs.length = ps.length)
    (hb : ∀ (A : Around) (outer : List Env) (s : Shared) (H : Hp) (vs : List V) (Q : VK) (E : XK), A.guards = some [] → Room k (A.deeper (envOfC qual scope s.heap.objs.size f cdv)) → sp vs H Q E →
      ∃ t, PSs (cxOf CX0 P w K mg base N qual scope f cdv A outer s H E).nox body t ∧ t { nx := fun _ H' => Q .non H', rt := Q } (start N vs) H) :
    FnG P w K mg base (k + 1) f (PySem.W.fnOf name qual params body scope dV kV doc pm an cdv ct) ps sp := by
  refine ⟨long, fun A outer s H args us vs Q E hgd hr e0 hbi r hsp => ?_⟩
  have hl := long _ _ _ _ hsp
  have KX : K.In s.heap := e0.mod.kin.keeps fun b o e => (e0.bs b o e).1
  have lim : s.heap.NoLimit := e0.mod.nolimit.keeps fun b o e => (e0.bs b o e).1
  have hk : ∀ y ∈ ps.zip us, scope.names.lookup y.1 = some .local ∨ (scope.names.lookup y.1 = some .cell ∧ ((cellsFrom (s.heap.objs.size + 1) scope.names []).lookup y.1).isSome = true) := fun ⟨n, v⟩ hy => by
    rcases S.par n (List.of_mem_zip hy).1 with q | q
    · exact .inl q
    · exact .inr ⟨q, PySem.W.cellsFrom_some _ _ _ (.inl q)⟩
  refine codeAny_call_function hr.depth (KX _ _ lk) rfl S.co S.gen rfl (PySem.W.codeRec_of KX hcd) (hbi _ _ _ _ ?_)
  refine wpAny_newFunctionEnv_cells S.kind hk fun env he s1 x => ?_
  subst he
  refine ⟨lim.keeps x.toInCall.keep, codeAny_func ?_⟩
  obtain ⟨t, ht, hq⟩ := hb A outer s H vs Q E hgd (hr.deeper _) hsp
  have I : Inv (cxOf CX0 P w K mg base N qual scope f cdv A outer s H E) [] (start N vs) H s1 := inv_start S hr.hd e0 hl r x
  refine wpAny_mono (ht.nox.run [] s1 (start N vs) H _ I hq) (fun fl s' hs => ?_) fun e s' hs => hs
  have fin : ∀ {σ' : L2.St} {H' : Hp} {v : V} {u : Value}, Inv (cxOf CX0 P w K mg base N qual scope f cdv A outer s H E) [] σ' H' s' → RelV v u → Q v H' → CE outer P w H s Q u s' :=
    fun {σ' H' v u} J rv q => ⟨v, H', J.os, J.bare, J.base, J.hok, rv, q⟩
  cases fl with
  | ret u =>
    obtain ⟨v, _, _, J, rv, q⟩ := hs
    exact fin J rv q
  | next =>
    obtain ⟨_, _, J, q⟩ := hs
    exact fin (v := V.non) (u := Value.none) J rfl q
  | brk =>
    obtain ⟨_, _, _, q⟩ := hs
    exact q.elim
  | cont =>
    obtain ⟨_, _, _, q⟩ := hs
    exact q.elim
end
end Mg
/-! _law_start, law -/
namespace Mn
open PySem PySem.Spec PyProof.Rows L2 Md Me Ml LamX Mi Mo
abbrev sStart : Stmt := top 41
abbrev sLaw : Stmt := top 52
abbrev qLaw : Str := (envOfC "law" { kind := .function, names := [], isGenerator := false, isCoroutine := false } 0 0 .none).qual ++ "<lambda>"
def spStart (K : PySem.W.Frag) : Sp := fun vs H Q _ => ∃ (c : Addr) (ns : List Int), vs = [.ref c] ∧ SqL K H c (ns.map V.int) ∧ ∀ (H' : Hp) (a b : Addr), Same H H' → Strm H' a b ns 0 0 11 → Q (.ref a) H'
def spLaw (K : PySem.W.Frag) (T : List (Addr × Str)) : Sp := fun vs H Q _ => ∃ (s0 : Addr) (ns : List Int), vs = [.ref s0] ∧ SqL K H s0 (ns.map V.int) ∧ Tabs T H ∧ ∀ H', Q (.bl true) H'
/-- what was found: refusals of needs -/
structure Fd (H : Hp) (fl : Addr) (qs : List (Addr × Nat)) : Prop where
  l : H fl = some (.lst (qs.map fun p => V.ref p.1))
  t : ∀ p ∈ qs, H p.1 = some (.tup [.str "needs", .int (p.2 : Nat)])
theorem Fd.ext {H H' : Hp} {fl : Addr} {qs : List (Addr × Nat)} (s : ExtN H H') (F : Fd H fl qs) : Fd H' fl qs := ⟨s _ _ F.l ntb_lst, fun p hp => s _ _ (F.t p hp) ntb_tup⟩
theorem Fd.add {H : Hp} {fl q : Addr} {i : Nat} {qs : List (Addr × Nat)} (F : Fd H fl qs) (hq : H q = some (.tup [.str "needs", .int (i : Nat)])) : Fd (upd H fl (.lst ((qs.map fun p => V.ref p.1) ++ [.ref q]))) fl (qs ++ [(q, i)]) := by
  have k : ∀ {p : Addr} {xs : List V}, H p = some (.tup xs) → upd H fl (.lst ((qs.map fun p => V.ref p.1) ++ [.ref q])) p = some (.tup xs) := fun {p xs} e => by
    rw [upd_ne (fun z => by
      rw [z, F.l] at e
      cases e)]
    exact e
  refine ⟨by rw [upd_same, List.map_append]; rfl, fun p hp => ?_⟩
  rcases List.mem_append.mp hp with h | h
  · exact k (F.t p h)
  · rw [List.mem_singleton.mp h]
    exact k hq
theorem twoGood : GoodNs [("b" : Str), "a"] := ⟨by decide, fun n hn => by
  have all : ∀ n ∈ ([("b" : Str), "a"] : List Str), goodNm n = true := by decide +kernel
  exact all n hn, by decide⟩
def rwTwo (n : Str) : List Str := if n = "a" then ["b"] else []
theorem twoRows : GoodRows [("b" : Str), "a"] rwTwo := fun n hn => by
  simp only [List.mem_cons, List.not_mem_nil, or_false] at hn
  rcases hn with rfl | rfl
  · exact ⟨by decide, by decide, by decide⟩
  · exact ⟨by decide, by decide, by decide⟩
section
variable {P : Program} {w : World} {K : PySem.W.Frag} {mg : Str → Option Value} {base : Heap}
theorem scStart : FnScope ["_law_script"] ["_law_script"] (defScope sStart) := ⟨rfl, rfl, rfl, by decide +kernel, rfl, by decide +kernel, by decide +kernel⟩
theorem ok_start {f : Addr} {fd : FuncData} (F : Fun K "_law_start" "_law_start" sStart f fd) (gL : mg "list" = none) : FnOk P w K mg base CX0 1 f fd ["_law_script"] (spStart K) := by
  refine F.ok scStart (fun vs H Q E h => ?_) (fun cdv A outer s H vs Q E hr h => ?_)
  · obtain ⟨c, ns, rfl, _⟩ := h
    rfl
  · obtain ⟨c, ns, rfl, hc, k⟩ := h
    refine ⟨_, pss_one (ps_ret (pe_lst (pa_cons (pe_callTy call_list_of rfl gL boot_list (pa_cons (pv 0) pa_nil)) (pa_cons pe_int (pa_cons pe_int (pa_cons pe_int pa_nil)))))), ?_⟩
    refine ⟨_, rfl, c, _, rfl, .inl hc, fun b hb => ⟨(by show 4 ≤ sizeLine; decide), fun a ha => ?_⟩⟩
    have ab : a ≠ b := (ne_of_none upd_same ha).symm
    refine k _ a b ((sameUp hb).trans (sameUp ha)) ⟨ab, upd_same, ?_, by decide, by decide, by decide, by decide⟩
    rw [upd_ne ab.symm]
    exact upd_same
theorem scLaw : FnScope ["_law_script", "_law_stream", "_law_turn", "_law_notice", "_law_some", "_law_found"] ["_law_script"] (defScope sLaw) := ⟨rfl, rfl, rfl, by decide +kernel, rfl, by decide +kernel, by decide +kernel⟩
theorem ok_law {T : List (Addr × Str)} {f fI fM fNt fTN C0 CN : Addr} {fd fdI fdM fdNt fdTN : FuncData} (F : Fun K "law" "law" sLaw f fd) (hf : f = He.fAd K ("law", none)) (TB : TabB base mg (He.cT K ("law", none)).1 (He.cT K ("law", none)).2)
    (hmT : ((He.cT K ("law", none)).2, qLaw) ∈ T) (hu : ∀ p ∈ T, p.1 = (He.cT K ("law", none)).2 → p.2 = qLaw)
    (FM : Fun K "_law_met" "_law_met" sMet fM fdM) (bM : Binds K fdM ["_law_ask"] []) (gMet : mg "_law_met" = some (.ref fM))
    (BP : ExX K mg "BadRule" "thing") (BW : ExX K mg "BadMarket" "thing") (BN : ExX K mg "BadNeeds" "index") (ex : Exm3 K (He.ga K "BadRule") (He.ga K "BadMarket") (He.ga K "BadNeeds"))
    (MC : MkC K C0) (MM : Mk K C0 fI) (gMk : mg "Market" = some (.ref C0))
    (GI : FnOk P w K mg base (L2.CX P w) 6 fI fdI ["self", "people", "wishes"] (spInit K T)) (bI : Binds K fdI ["self", "people", "wishes"] [])
    (NC : NtC K CN) (NM : Mk K CN fNt) (gNt : mg "Notice" = some (.ref CN)) (GNt : FnOk P w K mg base (L2.CX P w) 4 fNt fdNt ["self", "rule", "market", "needs"] (spNt K T C0)) (bNt : Binds K fdNt ["self", "rule", "market", "needs"] [])
    (GTN : Mg.FnG P w K mg base 10 fTN fdTN ["_law_stream", "_law_notice"] (spTN T)) (kTN : PySem.W.keepIn K (.ref fTN) = true) (bTN : Binds K fdTN ["_law_stream", "_law_notice"] []) (gTN : mg "_law_told_right" = some (.ref fTN))
    (CSt : Cl P w K mg base 1 "_law_start" ["_law_script"] (spStart K)) (CK : Cl P w K mg base 2 "_law_pick" ["_law_stream", "_law_some"] (spPick K)) (CAN : Cl P w K mg base 5 "_law_a_notice" ["_law_stream", "_law_many"] (spANot K T))
    (CR : Cl P w K mg base 12 "_law_refused_right" ["_law_stream", "_law_notice"] (spRef T)) (CS : Cl P w K mg base 11 "_law_same" ["_law_found", "_law_due"] (spSame C0 8))
    (gRange : mg "range" = none) : Mg.FnG P w K mg base 13 f fd ["_law_script"] (spLaw K T) := by
  obtain ⟨oc, od, kV, doc, pm, an, cdv, ct, osl, rfl, lk, hcd⟩ := F.ex
  obtain ⟨c0, rfl⟩ := He.codeIn_ref hcd
  have ec : He.codeOf K ("law", none) = c0 := He.codeOf_eq (by rw [← hf]; exact lk) rfl
  obtain ⟨oc2, od2, kV2, doc2, pm2, an2, cdv2, ct2, osl2, rfl, lk2, hcd2⟩ := FM.ex
  obtain ⟨fSt, fdSt, GSt, kSt, bSt, gSt⟩ := CSt.ex
  obtain ⟨fK, fdK, GK, kK, bK, gK⟩ := CK.ex
  obtain ⟨fAN, fdAN, GAN, kAN, bAN, gAN⟩ := CAN.ex
  obtain ⟨fR, fdR, GR, kR, bR, gR⟩ := CR.ex
  obtain ⟨fS, fdS, GS, kS, bS, gS⟩ := CS.ex
  refine Mg.FnG.of lk hcd scLaw (fun vs H Q E h => ?_) (fun A outer s H vs Q E hgd hr h => ?_)
  · obtain ⟨s0, ns, rfl, _⟩ := h
    rfl
  · obtain ⟨s0, is, rfl, hs0, hT, k⟩ := h
    have TB' : TabB base mg c0 (He.cT K ("law", none)).2 := by
      rw [← ec]
      exact TB
    have nd := scLaw.nd
    refine ⟨_, pss_cons (ps_set (i := 1) nd rfl (Or.inl rfl) (pe_call GSt (hr.mono (by decide)) rfl gSt kSt bSt .nil pass0 (pa_cons (pv 0) pa_nil)))
      (pss_cons (ps_for PassesOwn.never rfl (pi_range1 rfl gRange (pa_cons pe_int pa_nil)) (pg_name (i := 2) nd rfl (Or.inl rfl)) (pss_cons (ps_set (i := 3) nd rfl (Or.inl rfl) (pe_call GAN (hr.mono (by decide)) rfl gAN kAN bAN .nil pass0 (pa_cons (pv 1) (pa_cons (pe_call GK (hr.mono (by decide)) rfl gK kK bK .nil pass0 (pa_cons (pv 1) (pa_cons (pe_lst (pa_cons pe_int (pa_cons pe_int (pa_cons pe_int (pa_cons pe_int pa_nil))))) pa_nil))) pa_nil))))
      (pss_one (ps_if (PW.pt (pw_or (pt_not (pt_val (Mg.pe_callG GTN hgd (hr.mono (by decide)) rfl gTN kTN bTN (pa_cons (pv 1) (pa_cons (pv 3) pa_nil))))) (pw_or1 (pt_not (pt_val (pe_call GR hr rfl gR kR bR .nil pass0 (pa_cons (pv 1) (pa_cons (pv 3) pa_nil)))))))) (pss_one (ps_ret pe_bl)) pss_nil))))
      (pss_cons (ps_set (i := 4) nd rfl (Or.inr rfl) (pe_make MM GI (hr.mono (by decide)) rfl gMk bI .nil passE0 (pa_cons (pe_lst (pa_cons pe_str (pa_cons pe_str pa_nil))) (pa_cons (pe_disp (pps_cons pe_str (pe_lst (pa_cons pe_str pa_nil)) pps_nil) rfl rfl (by simp) (by simp)) pa_nil))))
      (pss_cons (ps_set (i := 5) nd rfl (Or.inl rfl) (pe_lst (pa_cons (pe_lamcall (k := 5) rfl gMet FM.kp lk2 hcd2 bM scMet rfl (Or.inl rfl) (met_gives BP BW BN ex) TB' rfl hmT hu (hr.mono (by decide)) (lamS_by (by rfl)) rfl (fun _ _ _ _ _ => rfl) (fun A outer s H E f c' hr2 => pe_make (E := E) NM GNt hr2 rfl gNt bNt .nil (passL (takes_of rfl rfl rfl rfl)) (pa_cons pe_str (pa_cons (pv 4) (pa_cons (pe_lst (pa_cons pe_str pa_nil)) pa_nil))))) pa_nil)))
      (pss_cons (ps_expr (pe_bm PySem.F.plainAttrs_list PySem.F.slot_list_append PySem.F.type_list_append mt_append (pv 5) (pa_cons (pe_lamcall (k := 5) rfl gMet FM.kp lk2 hcd2 bM scMet rfl (Or.inl rfl) (met_gives BP BW BN ex) TB' rfl hmT hu (hr.mono (by decide)) (lamS_by (by rfl)) rfl (fun _ _ _ _ _ => rfl) (fun A outer s H E f c' hr2 => pe_make (E := E) NM GNt hr2 rfl gNt bNt .nil (passL (takes_of rfl rfl rfl rfl)) (pa_cons pe_str (pa_cons (pv 4) (pa_cons (pe_lst (pa_cons pe_str (pa_cons pe_str pa_nil))) pa_nil))))) pa_nil)))
      (pss_cons (ps_expr (pe_bm PySem.F.plainAttrs_list PySem.F.slot_list_append PySem.F.type_list_append mt_append (pv 5) (pa_cons (pe_lamcall (k := 5) rfl gMet FM.kp lk2 hcd2 bM scMet rfl (Or.inl rfl) (met_gives BP BW BN ex) TB' rfl hmT hu (hr.mono (by decide)) (lamS_by (by rfl)) rfl (fun _ _ _ _ _ => rfl) (fun A outer s H E f c' hr2 => pe_make (E := E) NM GNt hr2 rfl gNt bNt .nil (passL (takes_of rfl rfl rfl rfl)) (pa_cons pe_str (pa_cons (pv 4) (pa_cons (pe_lst (pa_cons pe_str pa_nil)) pa_nil))))) pa_nil)))
      (pss_one (ps_ret (pe_call GS (hr.mono (by decide)) rfl gS kS bS .nil pass0 (pa_cons (pv 5) (pa_cons (pe_lst (pa_cons (pe_tup (pa_cons pe_str (pa_cons pe_int pa_nil))) (pa_cons (pe_tup (pa_cons pe_str (pa_cons pe_int pa_nil))) (pa_cons (pe_tup (pa_cons pe_str (pa_cons pe_int pa_nil))) pa_nil)))) pa_nil)))))))))), ?_⟩
    refine ⟨_, rfl, s0, is, rfl, hs0, fun H1 a b s1 Sm1 => ?_⟩
    have S1 : Stm H1 a b 0 := ⟨is, 0, 0, 11, Sm1, by simp⟩
    have T1 : Tabs T H1 := hT.ext s1
    refine ⟨_, rfl, by decide, by decide, ?_⟩
    refine for_it (n := 5) walk_range (fun i σ H' => ∃ o2 o3, σ = [some (.ref s0), some (.ref a), o2, o3, none, none] ∧ Tabs T H' ∧ Stm H' a b (i * 210000000)) ⟨_, _, rfl, T1, by simpa using S1⟩ (fun _ _ _ _ _ => trivial) ?_ ?_
    · rintro i v σ H2 H3 hi ⟨o2, o3, rfl, T3, S3⟩ ⟨rfl, e⟩
      refine ⟨_, rfl, _, rfl, (show 4 ≤ sizeLine by decide), fun p np => ?_⟩
      have sp := sameUp (o := .lst [.int 1, .int 3, .int 7, .int 12]) np
      obtain ⟨pa, pb⟩ := S3.nd np
      refine ⟨a, b, p, _, _, rfl, S3.ext (ExtN.of sp), by omega, pa, pb, upd_same, by decide, by decide, fun H4 x hx S4 kb4 => ?_⟩
      have T4 := Tabs.but (T3.ext sp) (S3.ext (ExtN.of sp)) kb4
      obtain ⟨many, rfl, hm⟩ : ∃ many : Nat, x = .int (many : Nat) ∧ many ≤ 12 := by
        simp only [List.mem_cons, List.not_mem_nil, or_false] at hx
        rcases hx with rfl | rfl | rfl | rfl
        · exact ⟨1, rfl, by decide⟩
        · exact ⟨3, rfl, by decide⟩
        · exact ⟨7, rfl, by decide⟩
        · exact ⟨12, rfl, by decide⟩
      refine ⟨a, b, _, many, rfl, S4, T4, by omega, by omega, fun H5 t c D e' r ns rw_ as zs u5 I5 hl nx => ?_⟩
      refine ⟨_, rfl, _, rfl, a, b, t, c, D, e', _, r, ns, rw_, as, zs, rfl, I5, by omega, nx, by omega, fun H6 u6 S6 => ⟨true, rfl, iteF ?_⟩⟩
      have I6 := I5.up u6 S6
      refine ⟨_, rfl, _, rfl, a, b, t, c, D, e', _, r, ns, rw_, as, zs, rfl, I6, by omega, nx, by omega, fun H7 u7 S7 => ⟨true, rfl, iteF ?_⟩⟩
      exact ⟨_, _, rfl, u7.t, S7.up (by omega)⟩
    · rintro σ H2 ⟨o2, o3, rfl, T2, S2⟩
      -- a market of two
      refine ⟨(show 2 ≤ sizeLine by decide), fun p1 n1 d nd1 => ⟨(show 1 ≤ sizeLine by decide), fun l1 nl1 => ⟨(sameUp nl1) _ _ upd_same, [(Sum.inr "a", .ref l1)], rfl, by simp, ?_⟩⟩⟩
      have r1 := sameUp (o := .lst [.str "b", .str "a"]) n1
      have r2 : Same (upd H2 p1 (.lst [.str "b", .str "a"])) (upd (upd (upd (upd H2 p1 (.lst [.str "b", .str "a"])) d (.dK [])) l1 (.lst [.str "b"])) d (.dK (mergeK [] [(Sum.inr "a", .ref l1)]))) := same_disp nd1 nl1
      have h1 := r2 _ _ (upd_same (a := p1) (o := HO.lst [.str "b", .str "a"]) (H := H2))
      have h2 : upd (upd (upd (upd H2 p1 (.lst [.str "b", .str "a"])) d (.dK [])) l1 (.lst [.str "b"])) d (.dK (mergeK [] [(Sum.inr "a", .ref l1)])) d = some (.dK [(Sum.inr "a", .ref l1)]) := upd_same
      have h3 : upd (upd (upd (upd H2 p1 (.lst [.str "b", .str "a"])) d (.dK [])) l1 (.lst [.str "b"])) d (.dK (mergeK [] [(Sum.inr "a", .ref l1)])) l1 = some (.lst [.str "b"]) := at_disp nl1
      have T3 := T2.ext (r1.trans r2)
      generalize upd (upd (upd (upd H2 p1 (.lst [.str "b", .str "a"])) d (.dK [])) l1 (.lst [.str "b"])) d (.dK (mergeK [] [(Sum.inr "a", .ref l1)])) = H3 at h1 h2 h3 T3 ⊢
      have dr : DRows H3 d [("a", l1)] rwTwo ["b", "a"] := ⟨h2, by simp, fun p hp => by
        rw [List.mem_singleton.mp hp]
        simp, fun p hp => by
        rw [List.mem_singleton.mp hp]
        exact .inl h3, fun n hn z => by
        have z : n ≠ "a" := by simpa using z
        show (if n = "a" then _ else _) = _
        rw [if_neg z]⟩
      refine mk_reads MC T3 (pplOk (ns := ["b", "a"]) (.inl h1) twoGood) (wshOk dr twoRows twoGood) fun H4 m ys u4 nm M4 keep4 => ?_
      have rp : ("pairs" : Str) ∈ rules := by decide
      have rs : ("shares" : Str) ∈ rules := by decide
      have bad : ∀ {H' : Hp} {p : Addr} {r : Str} {xs : List Str} {i : Nat}, H' p = some (.lst (xs.map V.str)) → (∀ x ∈ xs, x.length ≤ sizeLine) → xs.length ≤ 10 → nfI (dueNs r ["b", "a"]) (xs.map V.str) = some i → NfBad K H' (.ref p) (dueNs r ["b", "a"]) i := fun {H' p r xs i} e ln l q => .inr ⟨p, _, rfl, .inl e, fun v hv => by
        obtain ⟨x, hx, rfl⟩ := List.mem_map.mp hv
        exact .inl ⟨x, rfl, ln x hx⟩, by rw [List.length_map]; omega, q⟩
      have la : ∀ {xs : List Str}, (∀ x ∈ xs, x = "a") → ∀ x ∈ xs, x.length ≤ sizeLine := fun h x hx => by
        rw [h x hx]
        decide
      -- the first
      refine ⟨u4.t, fun H7 e7 t7 => ⟨_, rfl, (show 1 ≤ sizeLine by decide), fun p np => ?_⟩⟩
      have w1 := sameUp (o := .lst [.str "a"]) np
      intro x dx nx ndx ne
      refine mk_badNeeds NC (t7.ext w1) rp ((M4.ext e7).ext (ExtN.of w1)) twoGood.l (bad (xs := ["a"]) (i := 1) upd_same (la (by simp)) (by simp) (by decide +kernel)) (fun H8 dd u8 hd8 => ?_) x dx nx ndx ne
      refine ⟨_, _, dd, _, .n, rfl, hd8, fun q0 nq0 => ⟨(show 1 ≤ sizeLine by decide), fun fl nfl => ?_⟩⟩
      have w2 := sameUp (o := .tup [.str "needs", .int (1 : Nat)]) nq0
      have w3 := sameUp (o := .lst [.ref q0]) nfl
      have F9 : Fd (upd (upd H8 q0 (.tup [.str "needs", .int (1 : Nat)])) fl (.lst [.ref q0])) fl [(q0, 1)] := ⟨upd_same, fun p hp => by
        rw [List.mem_singleton.mp hp]
        exact w3 _ _ upd_same⟩
      have u8' : Up T H4 (upd H8 q0 (.tup [.str "needs", .int (1 : Nat)])) := (((⟨e7, t7⟩ : Up T H4 H7).andS w1).trans u8).andS w2
      have nf : Nw H4 fl := Nw.of u8'.e nfl
      have u9 := u8'.andS w3
      generalize upd (upd H8 q0 (.tup [.str "needs", .int (1 : Nat)])) fl (.lst [.ref q0]) = H9 at F9 u9 ⊢
      have set_ : ∀ {H' : Hp} {o : HO} {qs : List (Addr × Nat)}, Up T H4 H' → Fd H' fl qs → Up T H4 (upd H' fl o) := fun {H' o qs} u F => ⟨fun c o' e nt => by
        rw [upd_ne (fun z => by
          obtain ⟨ps, w⟩ := nf o' (z ▸ e)
          exact nt ps w)]
        exact u.e c o' e nt, Tabs.put u.t F.l ntb_lst (fun φ z => by cases z)⟩
      -- the second
      refine ⟨_, rfl, .inl ⟨rfl, _, SqL.of F9.l⟩, u9.t, fun H10 e10 t10 => ⟨_, rfl, (show 2 ≤ sizeLine by decide), fun p2 np2 => ?_⟩⟩
      have y1 := sameUp (o := .lst [.str "a", .str "a"]) np2
      intro x dx nx ndx ne
      have u10 : Up T H9 H10 := ⟨e10, t10⟩
      refine mk_badNeeds NC (t10.ext y1) rp ((M4.ext (u9.e.trans e10)).ext (ExtN.of y1)) twoGood.l (bad (xs := ["a", "a"]) (i := 1) upd_same (la (by simp)) (by simp) (by decide +kernel)) (fun H11 dd u11 hd11 => ?_) x dx nx ndx ne
      refine ⟨_, _, dd, _, .n, rfl, hd11, fun q1 nq1 => ?_⟩
      have y2 := sameUp (o := .tup [.str "needs", .int (1 : Nat)]) nq1
      have u12 := ((u10.andS y1).trans u11).andS y2
      have hq1 : upd H11 q1 (.tup [.str "needs", .int (1 : Nat)]) q1 = some (.tup [.str "needs", .int (1 : Nat)]) := upd_same
      generalize upd H11 q1 (.tup [.str "needs", .int (1 : Nat)]) = H12 at u12 hq1 ⊢
      have F12 := F9.ext u12.e
      refine ⟨fl, _, _, rfl, rfl, F12.l, small1000 (by simp), ?_⟩
      have F13 := F12.add hq1
      have u13 := set_ (o := .lst (([(q0, 1)] : List (Addr × Nat)).map (fun p => V.ref p.1) ++ [.ref q1])) (u9.trans u12) F12
      generalize upd H12 fl (.lst (([(q0, 1)] : List (Addr × Nat)).map (fun p => V.ref p.1) ++ [.ref q1])) = H13 at F13 u13 ⊢
      -- the third
      refine ⟨_, rfl, .inl ⟨rfl, _, SqL.of F13.l⟩, u13.t, fun H14 e14 t14 => ⟨_, rfl, (show 1 ≤ sizeLine by decide), fun p3 np3 => ?_⟩⟩
      have z1 := sameUp (o := .lst [.str "a"]) np3
      intro x dx nx ndx ne
      have u14 : Up T H13 H14 := ⟨e14, t14⟩
      refine mk_badNeeds NC (t14.ext z1) rs ((M4.ext (u13.e.trans e14)).ext (ExtN.of z1)) twoGood.l (bad (xs := ["a"]) (i := 0) upd_same (la (by simp)) (by simp) (by decide +kernel)) (fun H15 dd u15 hd15 => ?_) x dx nx ndx ne
      refine ⟨_, _, dd, _, .n, rfl, hd15, fun q2 nq2 => ?_⟩
      have z2 := sameUp (o := .tup [.str "needs", .int (0 : Nat)]) nq2
      have u16 := ((u14.andS z1).trans u15).andS z2
      have hq2 : upd H15 q2 (.tup [.str "needs", .int (0 : Nat)]) q2 = some (.tup [.str "needs", .int (0 : Nat)]) := upd_same
      generalize upd H15 q2 (.tup [.str "needs", .int (0 : Nat)]) = H16 at u16 hq2 ⊢
      have F16 := F13.ext u16.e
      refine ⟨fl, _, _, rfl, rfl, F16.l, small1000 (by simp), ?_⟩
      have F17 := F16.add hq2
      generalize upd H16 fl (.lst ((([(q0, 1)] ++ [(q1, 1)] : List (Addr × Nat))).map (fun p => V.ref p.1) ++ [.ref q2])) = H17 at F17 ⊢
      -- what is due
      refine ⟨_, rfl, (show 2 ≤ sizeLine by decide), fun t0 m0 => ⟨(show 2 ≤ sizeLine by decide), fun t1 m1 => ⟨(show 2 ≤ sizeLine by decide), fun t2 m2 => ⟨(show 3 ≤ sizeLine by decide), fun dl mdl => ?_⟩⟩⟩⟩
      have v0 := sameUp (o := .tup [.str "needs", .int 1]) m0
      have v1 := sameUp (o := .tup [.str "needs", .int 1]) m1
      have v2 := sameUp (o := .tup [.str "needs", .int 0]) m2
      have v3 := sameUp (o := .lst [.ref t0, .ref t1, .ref t2]) mdl
      have g0 := v3 _ _ (v2 _ _ (v1 _ _ (upd_same (a := t0) (o := HO.tup [.str "needs", .int 1]) (H := H17))))
      have g1 := v3 _ _ (v2 _ _ (upd_same (a := t1) (o := HO.tup [.str "needs", .int 1]) (H := upd H17 t0 (.tup [.str "needs", .int 1]))))
      have g2 := v3 _ _ (upd_same (a := t2) (o := HO.tup [.str "needs", .int 0]) (H := upd (upd H17 t0 (.tup [.str "needs", .int 1])) t1 (.tup [.str "needs", .int 1])))
      have g3 : upd (upd (upd (upd H17 t0 (.tup [.str "needs", .int 1])) t1 (.tup [.str "needs", .int 1])) t2 (.tup [.str "needs", .int 0])) dl (.lst [.ref t0, .ref t1, .ref t2]) dl = some (.lst [.ref t0, .ref t1, .ref t2]) := upd_same
      have F18 := F17.ext (ExtN.of (((v0.trans v1).trans v2).trans v3))
      generalize upd (upd (upd (upd H17 t0 (.tup [.str "needs", .int 1])) t1 (.tup [.str "needs", .int 1])) t2 (.tup [.str "needs", .int 0])) dl (.lst [.ref t0, .ref t1, .ref t2]) = H18 at g0 g1 g2 g3 F18 ⊢
      refine ⟨_, _, rfl, ?_, fun H19 _ => k H19⟩
      have tupS : ∀ {p1 p2 : Addr} {j : Int}, H18 p1 = some (.tup [.str "needs", .int j]) → H18 p2 = some (.tup [.str "needs", .int j]) → Sm C0 H18 7 (.ref p1) (.ref p2) := fun {p1 p2 j} a1 a2 => by
        refine .tup (n := 6) a1 a2 rfl (by simp) fun i x y h1 h2 => ?_
        rw [h1] at h2
        obtain rfl := Option.some.inj h2
        exact mem2 (X := fun x => Sm C0 _ 6 x x) (.str _ _) (.int _ _) x (List.mem_of_getElem? h1)
      refine .lst (n := 7) F18.l g3 rfl (by simp) fun i x y a1 a2 => ?_
      match i, a1, a2 with
      | 0, a1, a2 =>
        obtain rfl := Option.some.inj a1
        obtain rfl := Option.some.inj a2
        exact tupS (F18.t (q0, 1) (by simp)) g0
      | 1, a1, a2 =>
        obtain rfl := Option.some.inj a1
        obtain rfl := Option.some.inj a2
        exact tupS (F18.t (q1, 1) (by simp)) g1
      | 2, a1, a2 =>
        obtain rfl := Option.some.inj a1
        obtain rfl := Option.some.inj a2
        exact tupS (F18.t (q2, 0) (by simp)) g2
      | i + 3, a1, _ => cases a1
end
end Mn
/-! facts about the classes, as a kernel can look them up -/
namespace Qf
open PySem PySem.Spec PyProof.Rows L2 Md
open PySem.W (nsIn findIn typeIn subIn keepIn clsIn hasDictIn specialIn takesIn mroIn kitOne kitCls)
abbrev veT : List Value := [.type "ValueError", .type "Exception", .type "BaseException", .type "object"]
/-- the class at C: its mro is C and bm, it is made by ValueError's new -/
def clsB (K : PySem.W.Frag) (C : Addr) (bm : List Value) : Bool := match K.lookup C with
  | some ⟨.type "type", _, .cls cd, sl⟩ => (match sl.toList with
    | [_, _, _, _, some (.builtin n), _] => n == "ValueError.__new__" && (!cd.hasDel && (cd.hasDict && cd.mro == .ref C :: bm))
    | _ => false)
  | _ => false
theorem clsB_ok {K : PySem.W.Frag} {C : Addr} {bm : List Value} (q : clsB K C bm = true) : ∃ nm qn N bs sn sub ab col dd k0 k1 k2 k3 k5,
    K.lookup C = some (excClassObj nm qn C N bs bm true sn sub ab col dd k0 k1 k2 k3 k5 "ValueError.__new__") := by
  unfold clsB at q
  split at q
  · rename_i dd cd sl ho
    split at q
    · rename_i k0 k1 k2 k3 n k5 hs
      simp only [Bool.and_eq_true, beq_iff_eq, Bool.not_eq_true'] at q
      obtain ⟨rfl, hdel, hdi, hmro⟩ := q
      obtain ⟨nm, bs, mro, ns, qn, hd, sn, sub, ab, col, del⟩ := cd
      dsimp only at hdel hdi hmro
      subst hdel hdi hmro
      have hsl : sl = #[k0, k1, k2, k3, some (.builtin "ValueError.__new__"), k5] := by
        obtain ⟨l⟩ := sl
        simp only at hs
        rw [hs]
      subst hsl
      exact ⟨nm, qn, ns, bs, sn, sub, ab, col, dd, k0, k1, k2, k3, k5, ho⟩
    · cases q
  · cases q
theorem clsIn_of {K : PySem.W.Frag} {C : Addr} {bm : List Value} (q : clsB K C bm = true) : ∃ cd, clsIn K C = some cd ∧ cd.mro = .ref C :: bm ∧ cd.hasDict = true := by
  obtain ⟨nm, qn, N, bs, sn, sub, ab, col, dd, k0, k1, k2, k3, k5, h⟩ := clsB_ok q
  unfold clsIn
  rw [h]
  exact ⟨_, rfl, rfl, rfl⟩
theorem typeIn_of {K : PySem.W.Frag} {C : Addr} {bm : List Value} (q : clsB K C bm = true) : typeIn K (.ref C) = some (.type "type") := by
  obtain ⟨nm, qn, N, bs, sn, sub, ab, col, dd, k0, k1, k2, k3, k5, h⟩ := clsB_ok q
  show (K.lookup C).map (·.cls) = _
  rw [h]
  rfl
theorem mroIn_of {K : PySem.W.Frag} {C : Addr} {bm : List Value} (q : clsB K C bm = true) (b : Value) : mroIn K C b = some ((Value.ref C :: bm).contains b) := by
  obtain ⟨cd, h1, h2, _⟩ := clsIn_of q
  unfold mroIn
  rw [h1]
  show (if cd.mro.isEmpty = true then none else some (cd.mro.contains b)) = _
  rw [h2]
  rfl
/-- one class of errors, its field -/
def oneB (K : PySem.W.Frag) (C S : Addr) (fs : List Str) : Bool :=
  clsB K C (.ref S :: veT) && (xfB K C && (He.eqO (findIn K (.ref C) "__setattr__") (some (some (.builtin "object.__setattr__"))) && (keepIn K (.ref C) &&
    (He.eqO (findIn K (.ref C) "__init__") (some (some (.ref (He.ma K C "__init__")))) && (decide (typeIn K (.ref (He.ma K C "__init__")) = some (.type "function")) && fs.all fun f => He.eqO (findIn K (.ref C) f) (some none))))))
theorem one_of {K : PySem.W.Frag} {mg : Str → Option Value} {x f : Str} {S : Addr} (g : mg x = some (.ref (He.ga K x))) (q : oneB K (He.ga K x) S [f] = true) : Mn.ExX K mg x f := by
  obtain ⟨q1, q⟩ := He.ba q
  obtain ⟨q2, q⟩ := He.ba q
  obtain ⟨q3, q⟩ := He.ba q
  obtain ⟨q4, q⟩ := He.ba q
  obtain ⟨q5, q⟩ := He.ba q
  obtain ⟨q6, q7⟩ := He.ba q
  have xf := xfB_ok q2
  obtain ⟨nm, qn, N, bs, sn, sub, ab, col, dd, k0, k1, k2, k3, k5, h⟩ := clsB_ok q1
  exact ⟨g, ⟨⟨nm, qn, N, bs, _, sn, sub, ab, col, dd, k0, k1, k2, k3, k5, h, rfl⟩, He.eqO_ok q3, xf.exC, typeIn_of q1, q4⟩, He.eqO_ok q5, of_decide_eq_true q6, He.eqO_ok (List.all_eq_true.mp q7 f (by simp)), xf⟩
/-- what is asked of the class Market -/
def mkB (K : PySem.W.Frag) (C : Addr) : Bool :=
  (He.eqO (findIn K (.ref C) "__class__") (some (some (.builtin "object.__class__"))) && (He.eqO (specialIn K (.builtin "object.__class__") "__get__") (some (some (.builtin "getset_descriptor.__get__"))) && (decide (takesIn K (.builtin "object.__class__") = some true) && (decide (mroIn K C (.type "object") = some true) &&
    (He.eqO (findIn K (.ref C) "__eq__") (some (some (.ref (He.ma K C "__eq__")))) && (PySem.W.isFn K (.ref (He.ma K C "__eq__")) && He.eqO (findIn K (.ref C) "__ne__") (some (some (.builtin "object.__ne__"))))))))) &&
  ((decide (kitOne K (.ref C) (.type "list") = some false) && (decide (kitOne K (.ref C) (.type "tuple") = some false) && (decide (kitOne K (.ref C) (.type "dict") = some false) && (decide (kitOne K (.ref C) (.type "int") = some false) && (decide (kitOne K (.ref C) (.type "bool") = some false) && decide (kitOne K (.ref C) (.type "str") = some false)))))) &&
   (PySem.W.notFirst K C (.type "list") && (PySem.W.notFirst K C (.type "tuple") && (PySem.W.notFirst K C (.type "dict") && (PySem.W.notFirst K C (.ref C) &&
     (decide (kitOne K (.type "list") (.ref C) = some false) && (decide (kitOne K (.type "tuple") (.ref C) = some false) && decide (kitOne K (.type "dict") (.ref C) = some false))))))))
theorem mk_of {K : PySem.W.Frag} {C : Addr} (c : Mn.MkC K C) (q : mkB K C = true) : Mn.MkE K C (He.ma K C "__eq__") ∧ Mn.MkT K C ∧ Mn.MkQ K C := by
  obtain ⟨qe, q⟩ := He.ba q
  obtain ⟨qt, qq⟩ := He.ba q
  obtain ⟨e1, q⟩ := He.ba qe
  obtain ⟨e2, q⟩ := He.ba q
  obtain ⟨e3, q⟩ := He.ba q
  obtain ⟨e4, q⟩ := He.ba q
  obtain ⟨e5, q⟩ := He.ba q
  obtain ⟨e6, e7⟩ := He.ba q
  obtain ⟨t1, q⟩ := He.ba qt
  obtain ⟨t2, q⟩ := He.ba q
  obtain ⟨t3, q⟩ := He.ba q
  obtain ⟨t4, q⟩ := He.ba q
  obtain ⟨t5, t6⟩ := He.ba q
  obtain ⟨n1, q⟩ := He.ba qq
  obtain ⟨n2, q⟩ := He.ba q
  obtain ⟨n3, q⟩ := He.ba q
  obtain ⟨n4, q⟩ := He.ba q
  obtain ⟨k1, q⟩ := He.ba q
  obtain ⟨k2, k3⟩ := He.ba q
  exact ⟨⟨c, He.eqO_ok e1, He.eqO_ok e2, of_decide_eq_true e3, of_decide_eq_true e4, He.eqO_ok e5, e6, He.eqO_ok e7⟩,
    ⟨of_decide_eq_true t1, of_decide_eq_true t2, of_decide_eq_true t3, of_decide_eq_true t4, of_decide_eq_true t5, of_decide_eq_true t6⟩,
    ⟨n1, n2, n3, n4, of_decide_eq_true k1, of_decide_eq_true k2, of_decide_eq_true k3⟩⟩
/-- what is asked of the class Notice, beside Market's -/
def ntB (K : PySem.W.Frag) (C M : Addr) : Bool :=
  (He.eqO (findIn K (.ref C) "__class__") (some (some (.builtin "object.__class__"))) && (He.eqO (specialIn K (.builtin "object.__class__") "__get__") (some (some (.builtin "getset_descriptor.__get__"))) && (decide (takesIn K (.builtin "object.__class__") = some true) && (decide (mroIn K C (.type "object") = some true) &&
    (He.eqO (findIn K (.ref C) "__eq__") (some (some (.ref (He.ma K C "__eq__")))) && (PySem.W.isFn K (.ref (He.ma K C "__eq__")) && He.eqO (findIn K (.ref C) "__ne__") (some (some (.builtin "object.__ne__"))))))))) &&
  (PySem.W.notFirst K C (.ref M) && (PySem.W.notFirst K C (.type "tuple") && (PySem.W.notFirst K C (.ref C) && (decide (kitOne K (.ref M) (.ref C) = some false) && decide (kitOne K (.type "tuple") (.ref C) = some false)))))
theorem nt_of {K : PySem.W.Frag} {C M : Addr} (c : Mn.NtC K C) (q : ntB K C M = true) : Mn.NtE K C (He.ma K C "__eq__") ∧ Mn.NtQ K C M := by
  obtain ⟨qe, qq⟩ := He.ba q
  obtain ⟨e1, q⟩ := He.ba qe
  obtain ⟨e2, q⟩ := He.ba q
  obtain ⟨e3, q⟩ := He.ba q
  obtain ⟨e4, q⟩ := He.ba q
  obtain ⟨e5, q⟩ := He.ba q
  obtain ⟨e6, e7⟩ := He.ba q
  obtain ⟨n1, q⟩ := He.ba qq
  obtain ⟨n2, q⟩ := He.ba q
  obtain ⟨n3, q⟩ := He.ba q
  obtain ⟨k1, k2⟩ := He.ba q
  exact ⟨⟨c, He.eqO_ok e1, He.eqO_ok e2, of_decide_eq_true e3, ⟨of_decide_eq_true e4, He.eqO_ok e5, e6, He.eqO_ok e7⟩⟩, ⟨n1, n2, n3, of_decide_eq_true k1, of_decide_eq_true k2⟩⟩
def noT : List String := ["NoneType", "int", "bool", "str", "list", "tuple", "dict"]
def noB (K : PySem.W.Frag) (C : Addr) : Bool := noT.all fun s => decide (kitOne K (.type s) (.ref C) = some false)
theorem no_of {K : PySem.W.Frag} {C : Addr} (q : noB K C = true) : Mn.NoK K C := ⟨fun s hs => of_decide_eq_true (List.all_eq_true.mp q s hs)⟩
end Qf
namespace Qh
open PySem PySem.Spec PyProof.Rows L2 Md
/-- a def of the top at the i-th place -/
def gD (i : Nat) (x : Str) : He.DefD := ⟨(x, none), x, x, defArgs (top i), defBody (top i), defScope (top i), [], []⟩
/-- the j-th def of the class at the i-th place -/
def cD (i j : Nat) (x m q : Str) : He.DefD := ⟨(x, some m), m, q, defArgs (inClass (top i) j), defBody (inClass (top i) j), defScope (inClass (top i) j), [], []⟩
def names : List Str := (["SwapError", "BadMarket", "BadNeeds", "BadPeople", "BadRule", "BadWishes", "NoPerson", "WORDS", "RULES", "Market", "Notice", "is_list", "is_one_of", "first_wrong", "are_unlike", "is_row"] : List Str) ++ (["begins_name", "is_name", "people_fault", "are_rows", "check_market", "needs_fault", "_law_a_name", "_law_a_names", "_law_a_rows", "_law_a_mutual", "_law_a_needs", "_law_a_loose_wishes", "_law_a_made", "_law_a_notice", "_law_a_notice_made", "_law_a_spoiled"] : List Str) ++ (["_law_start", "_law_draw", "_law_pick", "_law_mixed", "_law_same", "_law_loose", "_law_met", "_law_needs_due", "_law_told_right", "_law_odd_needs", "_law_refused_right"] : List Str)
def fn : List He.DefD := ([gD 9 "is_list", gD 10 "is_one_of", gD 11 "first_wrong", gD 12 "are_unlike", gD 13 "is_row", gD 19 "begins_name", gD 20 "is_name", gD 21 "people_fault", gD 23 "are_rows", gD 25 "check_market", gD 28 "needs_fault", gD 31 "_law_a_name", gD 32 "_law_a_names", gD 33 "_law_a_rows", gD 34 "_law_a_mutual", gD 35 "_law_a_needs"] : List He.DefD) ++ ([gD 36 "_law_a_loose_wishes", gD 37 "_law_a_made", gD 38 "_law_a_notice", gD 39 "_law_a_notice_made", gD 40 "_law_a_spoiled", gD 41 "_law_start", gD 42 "_law_draw", gD 43 "_law_pick", gD 44 "_law_mixed", gD 45 "_law_same", gD 46 "_law_loose", gD 47 "_law_met", gD 48 "_law_needs_due", gD 49 "_law_told_right", gD 50 "_law_odd_needs", gD 51 "_law_refused_right"] : List He.DefD) ++ ([gD 52 "law", cD 2 0 "BadMarket" "__init__" "BadMarket.__init__", cD 3 0 "BadNeeds" "__init__" "BadNeeds.__init__", cD 4 0 "BadPeople" "__init__" "BadPeople.__init__", cD 5 0 "BadRule" "__init__" "BadRule.__init__", cD 6 0 "BadWishes" "__init__" "BadWishes.__init__", cD 24 0 "Market" "__init__" "Market.__init__", cD 24 1 "Market" "people" "Market.people", cD 24 2 "Market" "wishes" "Market.wishes", cD 24 4 "Market" "__eq__" "Market.__eq__", cD 29 0 "Notice" "__init__" "Notice.__init__", cD 29 1 "Notice" "rule" "Notice.rule", cD 29 2 "Notice" "market" "Notice.market", cD 29 3 "Notice" "needs" "Notice.needs", cD 29 4 "Notice" "__eq__" "Notice.__eq__"] : List He.DefD)
def fr : List Str := (["int", "list", "len", "range", "repr", "isinstance", "enumerate", "str", "tuple", "dict", "set", "all", "any", "zip", "min", "sorted"] : List Str) ++ (["bool"] : List Str)
def cl : List (Str × Str) := [("BadMarket", "thing"), ("BadNeeds", "index"), ("BadPeople", "index"), ("BadRule", "thing"), ("BadWishes", "thing")]
def loose : List Str := (["SwapError", "LETTERS", "SIGNS", "LONGEST"] : List Str) ++ names.tail
abbrev R : PySem.W.OpenRow := PySem.W.OpenLaw.row PySem.Challenge.rw_swaphouse_k02_whole_notices
/-! ### the objects that the facts speak of -/
def refs1 (o : Obj) : List Addr := match o.data with
  | .cls cd => [cd.ns]
  | .func fd => He.refV fd.code
  | .dict es _ => es.toList.flatMap fun e => He.refV e.val
  | _ => []
def gr (g : Addr → Option Obj) (as : List Addr) : List Addr := as.flatMap fun a => match g a with
  | some o => refs1 o
  | none => []
def addrs (g : Addr → Option Obj) : List Addr :=
  [mainGlobals, sysModules] ++ (gr g [mainGlobals] ++ (gr g (gr g [mainGlobals]) ++ (gr g (gr g (gr g [mainGlobals])) ++ gr g (gr g (gr g (gr g [mainGlobals]))))))
/-- a list of objects, each address known -/
def force {α : Type} : PySem.W.Frag → (PySem.W.Frag → α) → α
  | [], k => k []
  | (a, o) :: r, k => HandSHeadRun.frNat a fun a => force r fun r => k ((a, o) :: r)
theorem force_eq {α : Type} : ∀ (K : PySem.W.Frag) (k : PySem.W.Frag → α), force K k = k K
  | [], _ => rfl
  | (a, o) :: r, k => by
    show (HandSHeadRun.frNat a fun a => force r fun r => k ((a, o) :: r)) = _
    rw [HandSHeadRun.frNat_eq, force_eq r]
def tf : List He.Defn := [("are_unlike", none), ("needs_fault", none), ("_law_refused_right", none), ("law", none)]
abbrev tP (K : PySem.W.Frag) (x : Str) : Addr := (He.cT K (x, none)).2
abbrev Mkt (K : PySem.W.Frag) : Addr := He.ga K "Market"
abbrev Ntc (K : PySem.W.Frag) : Addr := He.ga K "Notice"
def faC : List He.Fa := [.str "LETTERS" Mn.letters, .str "SIGNS" Mn.signs, .int "LONGEST" 8]
def faE : List He.Fa := [.exm "BadRule" "BadRule" true, .exm "BadMarket" "BadRule" false, .exm "BadMarket" "BadMarket" true, .exm "BadNeeds" "BadRule" false, .exm "BadNeeds" "BadMarket" false, .exm "BadNeeds" "BadNeeds" true]
def faM : List He.Fa := [.cls "Market", .noat "Market" "_people", .noat "Market" "_rows", .meth "Market" "people", .meth "Market" "wishes", .mkr "Market"]
def faN : List He.Fa := [.cls "Notice", .noat "Notice" "_rule", .noat "Notice" "_market", .noat "Notice" "_needs", .meth "Notice" "rule", .meth "Notice" "market", .meth "Notice" "needs", .mkr "Notice"]
def rulesD : List He.Dv := [.str "rings", .str "pairs", .str "shares"]
def wordsD : List He.Dv := [.str "rule", .str "person", .str "wants", .str "needs", .str "gets", .str "with", .str "ring", .str "out", .str "without", .str "lot", .str "watch", .str "hold"]
def F1 (K : PySem.W.Frag) : Bool := (names.all fun x => (He.Fa.glo x).ok K) && (He.Fa.glo "law").ok K
def F2 (K : PySem.W.Frag) : Bool := fr.all fun x => (He.Fa.free x).ok K
def F3 (K : PySem.W.Frag) : Bool := fn.all fun d => d.ok K
def F4 (K : PySem.W.Frag) : Bool := HandSHeadRun.frNat (He.ga K "SwapError") fun S => cl.all fun p => HandSHeadRun.frNat (He.ga K p.1) fun C => Qf.oneB K C S [p.2]
def F5 (K : PySem.W.Frag) : Bool := (faC.all fun f => f.ok K) && (He.tupB K "WORDS" wordsD && He.tupB K "RULES" rulesD)
def F6 (K : PySem.W.Frag) : Bool := faE.all fun f => f.ok K
def F7 (K : PySem.W.Frag) : Bool := (faM.all fun f => f.ok K) && (faN.all fun f => f.ok K)
def F8 (K : PySem.W.Frag) : Bool := HandSHeadRun.frNat (Mkt K) fun C => HandSHeadRun.frNat (Ntc K) fun N => Qf.mkB K C && (Qf.ntB K N C && Qf.noB K C)
def F9 (K : PySem.W.Frag) : Bool := tf.all fun p => PySem.W.codeHdIn K (He.cT K p).1 (He.cT K p).2 && (K.lookup (He.cT K p).2).isNone
def F10 (K : PySem.W.Frag) : Bool := !(Nat.beq (tP K "are_unlike") (tP K "needs_fault")) && (!(Nat.beq (tP K "are_unlike") (tP K "_law_refused_right")) && (!(Nat.beq (tP K "are_unlike") (tP K "law")) && (!(Nat.beq (tP K "needs_fault") (tP K "_law_refused_right")) && (!(Nat.beq (tP K "needs_fault") (tP K "law")) && (!(Nat.beq (tP K "_law_refused_right") (tP K "law")))))))
def F11 (K : PySem.W.Frag) : Bool := (K.lookup sysModules).isSome
def facts (K : PySem.W.Frag) : Bool := F1 K && (F2 K && (F3 K && (F4 K && (F5 K && (F6 K && (F7 K && (F8 K && (F9 K && (F10 K && F11 K)))))))))
def empt (g : Addr → Option Obj) (K : PySem.W.Frag) : Bool := tf.all fun p => match g (He.cT K p).2 with
  | some o => He.emptyTab o
  | none => false
abbrev Al : Type := (Bool × Bool) × List He.FnW
def obsK (g : Addr → Option Obj) (K : PySem.W.Frag) : Al := ((facts K, empt g K), fn.map fun d => He.fnW K d.at_)
def obs0 (g : Addr → Option Obj) : Al := force (He.frG g (addrs g)) (obsK g)
def val0 : Al := ((true, true), fn.map He.DefD.val)
structure Says (h : Heap) (K : PySem.W.Frag) : Prop where
  f : facts K = true
  d : fn.map (fun d => He.fnW K d.at_) = fn.map He.DefD.val
  e : ∀ p ∈ tf, h.get? (He.cT K p).2 = some { cls := .none, data := .fields #[] }
theorem says_of {h : Heap} (e : obs0 h.get? = val0) : ∃ K : PySem.W.Frag, K.In h ∧ Says h K := by
  unfold obs0 at e
  rw [force_eq] at e
  refine ⟨He.frG h.get? (addrs h.get?), He.frG_in, ?_⟩
  generalize He.frG h.get? (addrs h.get?) = K at e ⊢
  have e1 : (facts K, empt h.get? K) = (true, true) := congrArg (fun z : Al => z.1) e
  have e2 : fn.map (fun d => He.fnW K d.at_) = fn.map He.DefD.val := congrArg (fun z : Al => z.2) e
  have e3 : facts K = true := congrArg (fun z : Bool × Bool => z.1) e1
  have e4 : empt h.get? K = true := congrArg (fun z : Bool × Bool => z.2) e1
  refine ⟨e3, e2, fun p hp => ?_⟩
  have z := List.all_eq_true.mp e4 p hp
  cases q : h.get? (He.cT K p).2 with
  | none =>
    rw [q] at z
    cases z
  | some o =>
    rw [q] at z
    rw [He.emptyTab_eq z]
def hk : PySem.W.Hook where
  α := Al
  obs := fun s => obs0 s.heap.get?
  val := fun _ => val0
  says := fun _ h => ∃ K : PySem.W.Frag, K.In h ∧ Says h K
  of := fun _ _ e => says_of e
  keeps := fun _ _ _ ⟨K, hK, c⟩ k => ⟨K, PySem.W.Frag.In.keeps hK k, ⟨c.f, c.d, fun p hp => k _ _ (c.e p hp)⟩⟩
def ob (s : PySem.W.SharedT) : Al := obs0 (HandSHeadRun.getT s)
theorem ob_eq (s : PySem.W.SharedT) : ob s = hk.obs s.abs := by
  have e : HandSHeadRun.getT s = s.abs.heap.get? := funext (HandSHeadRun.getT_eq s)
  show obs0 (HandSHeadRun.getT s) = obs0 s.abs.heap.get?
  rw [e]
theorem run (w : World) : HandSHeadRun.RunEq R (PySem.W.view R.prog [52]) hk ob 13000 loose w := by
  intro os
  kernel_rfl
end Qh
/-! what the facts say; all that the law calls -/
namespace Qh
open PySem PySem.Spec PyProof.Rows L2 Md Mn LamX
section
variable {h : Heap} {K : PySem.W.Frag} (c : Says h K)
include c
theorem Says.all : F1 K = true ∧ F2 K = true ∧ F3 K = true ∧ F4 K = true ∧ F5 K = true ∧ F6 K = true ∧ F7 K = true ∧ F8 K = true ∧ F9 K = true ∧ F10 K = true ∧ F11 K = true := by
  obtain ⟨a1, f⟩ := He.ba c.f
  obtain ⟨a2, f⟩ := He.ba f
  obtain ⟨a3, f⟩ := He.ba f
  obtain ⟨a4, f⟩ := He.ba f
  obtain ⟨a5, f⟩ := He.ba f
  obtain ⟨a6, f⟩ := He.ba f
  obtain ⟨a7, f⟩ := He.ba f
  obtain ⟨a8, f⟩ := He.ba f
  obtain ⟨a9, f⟩ := He.ba f
  obtain ⟨a10, f⟩ := He.ba f
  exact ⟨a1, a2, a3, a4, a5, a6, a7, a8, a9, a10, f⟩
theorem Says.glo {mg : Str → Option Value} (X : K.In h) (G : h.Ns mainGlobals mg) {x : Str} (hx : x ∈ names) : mg x = some (.ref (He.ga K x)) :=
  He.glo_ok X G (List.all_eq_true.mp (He.ba c.all.1).1 x hx)
theorem Says.gloL {mg : Str → Option Value} (X : K.In h) (G : h.Ns mainGlobals mg) : mg "law" = some (.ref (He.ga K "law")) := He.glo_ok X G (He.ba c.all.1).2
theorem Says.free {mg : Str → Option Value} (X : K.In h) (G : h.Ns mainGlobals mg) {x : Str} (hx : x ∈ fr) : mg x = none := He.free_ok X G (List.all_eq_true.mp c.all.2.1 x hx)
theorem Says.def_ (j : Nat) {d : He.DefD} (hj : fn[j]? = some d) : ∃ fd, FunD K d.name d.qual d.params d.body d.scope (d.dvs K) (d.kws K) (He.fAd K d.at_) fd := by
  have e2 : (fn.map fun d => He.fnW K d.at_)[j]? = (fn.map He.DefD.val)[j]? := by rw [c.d]
  rw [List.getElem?_map, List.getElem?_map, hj] at e2
  exact He.DefD.funD (Option.some.inj e2) (List.all_eq_true.mp c.all.2.2.1 d (List.mem_of_getElem? hj))
omit c in
theorem toFun {x q : Str} {st : Stmt} {f : Addr} {fd : FuncData} {kws : List (Str × V)} (F : FunD K x q (defArgs st) (defBody st) (defScope st) [] kws f fd) : Fun K x q st f fd := by
  obtain ⟨oc, od, dV, kV, doc, pm, an, cdv, ct, osl, rfl, lk, hcd, hD, hK⟩ := F.ex
  rcases hD with ⟨_, rfl⟩ | ⟨e, _⟩
  · exact ⟨⟨oc, od, kV, doc, pm, an, cdv, ct, osl, rfl, lk, hcd⟩, F.kp⟩
  · exact absurd rfl e
theorem Says.gF (j : Nat) {i : Nat} {x : Str} (hj : fn[j]? = some (gD i x)) : ∃ fd, Fun K x x (top i) (He.ga K x) fd := by
  obtain ⟨fd, F⟩ := c.def_ j hj
  exact ⟨fd, toFun F⟩
theorem Says.cF (j : Nat) {i k : Nat} {x m q : Str} (hj : fn[j]? = some (cD i k x m q)) : ∃ fd, Fun K m q (inClass (top i) k) (He.ma K (He.ga K x) m) fd := by
  obtain ⟨fd, F⟩ := c.def_ j hj
  exact ⟨fd, toFun F⟩
theorem Says.one : ∀ p ∈ cl, Qf.oneB K (He.ga K p.1) (He.ga K "SwapError") [p.2] = true := by
  have f4 := c.all.2.2.2.1
  unfold F4 at f4
  rw [HandSHeadRun.frNat_eq] at f4
  intro p hp
  have z := List.all_eq_true.mp f4 p hp
  rw [HandSHeadRun.frNat_eq] at z
  exact z
theorem Says.consts {mg : Str → Option Value} (X : K.In h) (G : h.Ns mainGlobals mg) : Consts K mg ∧ Rules K mg := by
  obtain ⟨a1, a2⟩ := He.ba c.all.2.2.2.2.1
  obtain ⟨a2, a3⟩ := He.ba a2
  have q : ∀ (i : Nat) (f : He.Fa), faC[i]? = some f → f.ok K = true := fun i f e => List.all_eq_true.mp a1 f (List.mem_of_getElem? e)
  exact ⟨⟨He.str_ok X G (q 0 _ rfl), He.str_ok X G (q 1 _ rfl), He.int_ok X G (q 2 _ rfl), c.glo X G (List.mem_of_getElem? (i := 7) rfl), fun H => He.tupB_ok a2 H⟩, ⟨c.glo X G (List.mem_of_getElem? (i := 8) rfl), fun H => He.tupB_ok a3 H⟩⟩
theorem Says.exm : Exm3 K (He.ga K "BadRule") (He.ga K "BadMarket") (He.ga K "BadNeeds") := by
  have q : ∀ (i : Nat) (f : He.Fa), faE[i]? = some f → f.ok K = true := fun i f e => List.all_eq_true.mp c.all.2.2.2.2.2.1 f (List.mem_of_getElem? e)
  exact ⟨He.exm_ok (q 0 _ rfl), He.exm_ok (q 1 _ rfl), He.exm_ok (q 2 _ rfl), He.exm_ok (q 3 _ rfl), He.exm_ok (q 4 _ rfl), He.exm_ok (q 5 _ rfl)⟩
theorem Says.mkc : MkC K (Mkt K) ∧ Meth K (Mkt K) "people" (He.ma K (Mkt K) "people") ∧ Meth K (Mkt K) "wishes" (He.ma K (Mkt K) "wishes") ∧ Mk K (Mkt K) (He.ma K (Mkt K) "__init__") := by
  have q : ∀ (i : Nat) (f : He.Fa), faM[i]? = some f → f.ok K = true := fun i f e => List.all_eq_true.mp (He.ba c.all.2.2.2.2.2.2.1).1 f (List.mem_of_getElem? e)
  exact ⟨⟨He.cls_ok (q 0 _ rfl), He.noat_ok (q 1 _ rfl), He.noat_ok (q 2 _ rfl)⟩, He.meth_ok (q 3 _ rfl), He.meth_ok (q 4 _ rfl), He.mkr_ok (q 5 _ rfl)⟩
theorem Says.ntc : NtC K (Ntc K) ∧ Meth K (Ntc K) "rule" (He.ma K (Ntc K) "rule") ∧ Meth K (Ntc K) "market" (He.ma K (Ntc K) "market") ∧ Meth K (Ntc K) "needs" (He.ma K (Ntc K) "needs") ∧ Mk K (Ntc K) (He.ma K (Ntc K) "__init__") := by
  have q : ∀ (i : Nat) (f : He.Fa), faN[i]? = some f → f.ok K = true := fun i f e => List.all_eq_true.mp (He.ba c.all.2.2.2.2.2.2.1).2 f (List.mem_of_getElem? e)
  exact ⟨⟨He.cls_ok (q 0 _ rfl), He.noat_ok (q 1 _ rfl), He.noat_ok (q 2 _ rfl), He.noat_ok (q 3 _ rfl)⟩, He.meth_ok (q 4 _ rfl), He.meth_ok (q 5 _ rfl), He.meth_ok (q 6 _ rfl), He.mkr_ok (q 7 _ rfl)⟩
theorem Says.mke : (MkE K (Mkt K) (He.ma K (Mkt K) "__eq__") ∧ MkT K (Mkt K) ∧ MkQ K (Mkt K)) ∧ (NtE K (Ntc K) (He.ma K (Ntc K) "__eq__") ∧ NtQ K (Ntc K) (Mkt K)) ∧ NoK K (Mkt K) := by
  have f8 := c.all.2.2.2.2.2.2.2.1
  unfold F8 at f8
  rw [HandSHeadRun.frNat_eq, HandSHeadRun.frNat_eq] at f8
  obtain ⟨b1, f8⟩ := He.ba f8
  obtain ⟨b2, b3⟩ := He.ba f8
  exact ⟨Qf.mk_of c.mkc.1 b1, Qf.nt_of c.ntc.1 b2, Qf.no_of b3⟩
theorem Says.tab : (∀ p ∈ tf, PySem.W.codeHdIn K (He.cT K p).1 (He.cT K p).2 = true ∧ K.lookup (He.cT K p).2 = none) := by
  intro p hp
  obtain ⟨a1, a2⟩ := He.ba (List.all_eq_true.mp c.all.2.2.2.2.2.2.2.2.1 p hp)
  refine ⟨a1, ?_⟩
  cases q : K.lookup (He.cT K p).2 with
  | none => rfl
  | some o =>
    rw [q] at a2
    cases a2
omit c in
theorem ne_of {a b : Nat} (z : (!(Nat.beq a b)) = true) : a ≠ b := fun e => by
  rw [e, Nat.beq_refl] at z
  cases z
theorem Says.ne : tP K "are_unlike" ≠ tP K "needs_fault" ∧ tP K "are_unlike" ≠ tP K "_law_refused_right" ∧ tP K "are_unlike" ≠ tP K "law" ∧ tP K "needs_fault" ≠ tP K "_law_refused_right" ∧ tP K "needs_fault" ≠ tP K "law" ∧ tP K "_law_refused_right" ≠ tP K "law" := by
  have z := c.all.2.2.2.2.2.2.2.2.2.1
  unfold F10 at z
  obtain ⟨b0, z⟩ := He.ba z
  obtain ⟨b1, z⟩ := He.ba z
  obtain ⟨b2, z⟩ := He.ba z
  obtain ⟨b3, z⟩ := He.ba z
  obtain ⟨b4, z⟩ := He.ba z
  exact ⟨ne_of b0, ne_of b1, ne_of b2, ne_of b3, ne_of b4, ne_of z⟩
theorem Says.mods {base : Heap} (hK : K.In base) : ∃ o, base.get? sysModules = some o := by
  have f := c.all.2.2.2.2.2.2.2.2.2.2
  unfold F11 at f
  cases q : K.lookup sysModules with
  | none =>
    rw [q] at f
    cases f
  | some o => exact ⟨o, hK _ _ q⟩
end
abbrev TT (K : PySem.W.Frag) : List (Addr × Str) := [(tP K "are_unlike", qUnl), (tP K "needs_fault", qNf), (tP K "_law_refused_right", qRef), (tP K "law", qLaw)]
theorem scI2 : FnScope ["self", "thing"] ["self", "thing"] (defScope (inClass (top 2) 0)) := ⟨rfl, rfl, rfl, by decide +kernel, rfl, by decide +kernel, by decide +kernel⟩
theorem scI3 : FnScope ["self", "index"] ["self", "index"] (defScope (inClass (top 3) 0)) := ⟨rfl, rfl, rfl, by decide +kernel, rfl, by decide +kernel, by decide +kernel⟩
theorem scI4 : FnScope ["self", "index"] ["self", "index"] (defScope (inClass (top 4) 0)) := ⟨rfl, rfl, rfl, by decide +kernel, rfl, by decide +kernel, by decide +kernel⟩
theorem scI5 : FnScope ["self", "thing"] ["self", "thing"] (defScope (inClass (top 5) 0)) := ⟨rfl, rfl, rfl, by decide +kernel, rfl, by decide +kernel, by decide +kernel⟩
theorem scI6 : FnScope ["self", "thing"] ["self", "thing"] (defScope (inClass (top 6) 0)) := ⟨rfl, rfl, rfl, by decide +kernel, rfl, by decide +kernel, by decide +kernel⟩
theorem law_goes {Pg : Program} {w : World} {K : PySem.W.Frag} {mg : Str → Option Value} {base h : Heap} (c : Says h K) (X : K.In h) (G : h.Ns mainGlobals mg) (hK : K.In base)
    (TB : ∀ p ∈ tf.map (He.cT K), LamX.TabB base mg p.1 p.2) {fd : FuncData} (F : Fun K "law" "law" sLaw (He.ga K "law") fd) : Mg.FnG Pg w K mg base 13 (He.ga K "law") fd ["_law_script"] (spLaw K (TT K)) := by
  have hF : ∀ x ∈ fr, mg x = none := fun x hx => c.free X G hx
  have g_int : mg "int" = none := hF "int" (List.mem_of_getElem? (i := 0) rfl)
  have g_list : mg "list" = none := hF "list" (List.mem_of_getElem? (i := 1) rfl)
  have g_len : mg "len" = none := hF "len" (List.mem_of_getElem? (i := 2) rfl)
  have g_range : mg "range" = none := hF "range" (List.mem_of_getElem? (i := 3) rfl)
  have g_repr : mg "repr" = none := hF "repr" (List.mem_of_getElem? (i := 4) rfl)
  have g_isinstance : mg "isinstance" = none := hF "isinstance" (List.mem_of_getElem? (i := 5) rfl)
  have g_enumerate : mg "enumerate" = none := hF "enumerate" (List.mem_of_getElem? (i := 6) rfl)
  have g_str : mg "str" = none := hF "str" (List.mem_of_getElem? (i := 7) rfl)
  have g_tuple : mg "tuple" = none := hF "tuple" (List.mem_of_getElem? (i := 8) rfl)
  have g_dict : mg "dict" = none := hF "dict" (List.mem_of_getElem? (i := 9) rfl)
  have g_set : mg "set" = none := hF "set" (List.mem_of_getElem? (i := 10) rfl)
  have g_all : mg "all" = none := hF "all" (List.mem_of_getElem? (i := 11) rfl)
  have g_any : mg "any" = none := hF "any" (List.mem_of_getElem? (i := 12) rfl)
  have g_zip : mg "zip" = none := hF "zip" (List.mem_of_getElem? (i := 13) rfl)
  have g_min : mg "min" = none := hF "min" (List.mem_of_getElem? (i := 14) rfl)
  have g_sorted : mg "sorted" = none := hF "sorted" (List.mem_of_getElem? (i := 15) rfl)
  have g_bool : mg "bool" = none := hF "bool" (List.mem_of_getElem? (i := 16) rfl)
  obtain ⟨d_is_list, F_is_list⟩ := c.gF 0 (i := 9) (x := "is_list") rfl
  have b_is_list : Binds K d_is_list ["thing"] [] := F_is_list.binds fun _ _ _ _ _ _ us hl => match us, hl with | [_], _ => rfl
  have g_is_list : mg "is_list" = some (.ref (He.ga K "is_list")) := c.glo X G (List.mem_of_getElem? (i := 11) rfl)
  obtain ⟨d_is_one_of, F_is_one_of⟩ := c.gF 1 (i := 10) (x := "is_one_of") rfl
  have b_is_one_of : Binds K d_is_one_of ["thing", "names"] [] := F_is_one_of.binds fun _ _ _ _ _ _ us hl => match us, hl with | [_, _], _ => rfl
  have g_is_one_of : mg "is_one_of" = some (.ref (He.ga K "is_one_of")) := c.glo X G (List.mem_of_getElem? (i := 12) rfl)
  obtain ⟨d_first_wrong, F_first_wrong⟩ := c.gF 2 (i := 11) (x := "first_wrong") rfl
  have b_first_wrong : Binds K d_first_wrong ["things", "fits"] [] := F_first_wrong.binds fun _ _ _ _ _ _ us hl => match us, hl with | [_, _], _ => rfl
  have g_first_wrong : mg "first_wrong" = some (.ref (He.ga K "first_wrong")) := c.glo X G (List.mem_of_getElem? (i := 13) rfl)
  obtain ⟨d_are_unlike, F_are_unlike⟩ := c.gF 3 (i := 12) (x := "are_unlike") rfl
  have b_are_unlike : Binds K d_are_unlike ["thing", "names"] [] := F_are_unlike.binds fun _ _ _ _ _ _ us hl => match us, hl with | [_, _], _ => rfl
  have g_are_unlike : mg "are_unlike" = some (.ref (He.ga K "are_unlike")) := c.glo X G (List.mem_of_getElem? (i := 14) rfl)
  obtain ⟨d_is_row, F_is_row⟩ := c.gF 4 (i := 13) (x := "is_row") rfl
  have b_is_row : Binds K d_is_row ["thing", "person", "names"] [] := F_is_row.binds fun _ _ _ _ _ _ us hl => match us, hl with | [_, _, _], _ => rfl
  have g_is_row : mg "is_row" = some (.ref (He.ga K "is_row")) := c.glo X G (List.mem_of_getElem? (i := 15) rfl)
  obtain ⟨d_begins_name, F_begins_name⟩ := c.gF 5 (i := 19) (x := "begins_name") rfl
  have b_begins_name : Binds K d_begins_name ["part"] [] := F_begins_name.binds fun _ _ _ _ _ _ us hl => match us, hl with | [_], _ => rfl
  have g_begins_name : mg "begins_name" = some (.ref (He.ga K "begins_name")) := c.glo X G (List.mem_of_getElem? (i := 16) rfl)
  obtain ⟨d_is_name, F_is_name⟩ := c.gF 6 (i := 20) (x := "is_name") rfl
  have b_is_name : Binds K d_is_name ["thing"] [] := F_is_name.binds fun _ _ _ _ _ _ us hl => match us, hl with | [_], _ => rfl
  have g_is_name : mg "is_name" = some (.ref (He.ga K "is_name")) := c.glo X G (List.mem_of_getElem? (i := 17) rfl)
  obtain ⟨d_people_fault, F_people_fault⟩ := c.gF 7 (i := 21) (x := "people_fault") rfl
  have b_people_fault : Binds K d_people_fault ["people"] [] := F_people_fault.binds fun _ _ _ _ _ _ us hl => match us, hl with | [_], _ => rfl
  have g_people_fault : mg "people_fault" = some (.ref (He.ga K "people_fault")) := c.glo X G (List.mem_of_getElem? (i := 18) rfl)
  obtain ⟨d_are_rows, F_are_rows⟩ := c.gF 8 (i := 23) (x := "are_rows") rfl
  have b_are_rows : Binds K d_are_rows ["thing", "people"] [] := F_are_rows.binds fun _ _ _ _ _ _ us hl => match us, hl with | [_, _], _ => rfl
  have g_are_rows : mg "are_rows" = some (.ref (He.ga K "are_rows")) := c.glo X G (List.mem_of_getElem? (i := 19) rfl)
  obtain ⟨d_check_market, F_check_market⟩ := c.gF 9 (i := 25) (x := "check_market") rfl
  have b_check_market : Binds K d_check_market ["market"] [] := F_check_market.binds fun _ _ _ _ _ _ us hl => match us, hl with | [_], _ => rfl
  have g_check_market : mg "check_market" = some (.ref (He.ga K "check_market")) := c.glo X G (List.mem_of_getElem? (i := 20) rfl)
  obtain ⟨d_needs_fault, F_needs_fault⟩ := c.gF 10 (i := 28) (x := "needs_fault") rfl
  have b_needs_fault : Binds K d_needs_fault ["people", "needs"] [] := F_needs_fault.binds fun _ _ _ _ _ _ us hl => match us, hl with | [_, _], _ => rfl
  have g_needs_fault : mg "needs_fault" = some (.ref (He.ga K "needs_fault")) := c.glo X G (List.mem_of_getElem? (i := 21) rfl)
  obtain ⟨d_L_a_name, F_L_a_name⟩ := c.gF 11 (i := 31) (x := "_law_a_name") rfl
  have b_L_a_name : Binds K d_L_a_name ["_law_stream", "_law_taken"] [] := F_L_a_name.binds fun _ _ _ _ _ _ us hl => match us, hl with | [_, _], _ => rfl
  have g_L_a_name : mg "_law_a_name" = some (.ref (He.ga K "_law_a_name")) := c.glo X G (List.mem_of_getElem? (i := 22) rfl)
  obtain ⟨d_L_a_names, F_L_a_names⟩ := c.gF 12 (i := 32) (x := "_law_a_names") rfl
  have b_L_a_names : Binds K d_L_a_names ["_law_stream", "_law_many"] [] := F_L_a_names.binds fun _ _ _ _ _ _ us hl => match us, hl with | [_, _], _ => rfl
  have g_L_a_names : mg "_law_a_names" = some (.ref (He.ga K "_law_a_names")) := c.glo X G (List.mem_of_getElem? (i := 23) rfl)
  obtain ⟨d_L_a_rows, F_L_a_rows⟩ := c.gF 13 (i := 33) (x := "_law_a_rows") rfl
  have b_L_a_rows : Binds K d_L_a_rows ["_law_stream", "_law_people", "_law_most"] [] := F_L_a_rows.binds fun _ _ _ _ _ _ us hl => match us, hl with | [_, _, _], _ => rfl
  have g_L_a_rows : mg "_law_a_rows" = some (.ref (He.ga K "_law_a_rows")) := c.glo X G (List.mem_of_getElem? (i := 24) rfl)
  obtain ⟨d_L_a_mutual, F_L_a_mutual⟩ := c.gF 14 (i := 34) (x := "_law_a_mutual") rfl
  have b_L_a_mutual : Binds K d_L_a_mutual ["_law_stream", "_law_people", "_law_share"] [] := F_L_a_mutual.binds fun _ _ _ _ _ _ us hl => match us, hl with | [_, _, _], _ => rfl
  have g_L_a_mutual : mg "_law_a_mutual" = some (.ref (He.ga K "_law_a_mutual")) := c.glo X G (List.mem_of_getElem? (i := 25) rfl)
  obtain ⟨d_L_a_needs, F_L_a_needs⟩ := c.gF 15 (i := 35) (x := "_law_a_needs") rfl
  have b_L_a_needs : Binds K d_L_a_needs ["_law_stream", "_law_people"] [] := F_L_a_needs.binds fun _ _ _ _ _ _ us hl => match us, hl with | [_, _], _ => rfl
  have g_L_a_needs : mg "_law_a_needs" = some (.ref (He.ga K "_law_a_needs")) := c.glo X G (List.mem_of_getElem? (i := 26) rfl)
  obtain ⟨d_L_a_loose_wishes, F_L_a_loose_wishes⟩ := c.gF 16 (i := 36) (x := "_law_a_loose_wishes") rfl
  have b_L_a_loose_wishes : Binds K d_L_a_loose_wishes ["_law_stream", "_law_wishes"] [] := F_L_a_loose_wishes.binds fun _ _ _ _ _ _ us hl => match us, hl with | [_, _], _ => rfl
  have g_L_a_loose_wishes : mg "_law_a_loose_wishes" = some (.ref (He.ga K "_law_a_loose_wishes")) := c.glo X G (List.mem_of_getElem? (i := 27) rfl)
  obtain ⟨d_L_a_made, F_L_a_made⟩ := c.gF 17 (i := 37) (x := "_law_a_made") rfl
  have b_L_a_made : Binds K d_L_a_made ["_law_stream", "_law_people", "_law_wishes"] [] := F_L_a_made.binds fun _ _ _ _ _ _ us hl => match us, hl with | [_, _, _], _ => rfl
  have g_L_a_made : mg "_law_a_made" = some (.ref (He.ga K "_law_a_made")) := c.glo X G (List.mem_of_getElem? (i := 28) rfl)
  obtain ⟨d_L_a_notice, F_L_a_notice⟩ := c.gF 18 (i := 38) (x := "_law_a_notice") rfl
  have b_L_a_notice : Binds K d_L_a_notice ["_law_stream", "_law_many"] [] := F_L_a_notice.binds fun _ _ _ _ _ _ us hl => match us, hl with | [_, _], _ => rfl
  have g_L_a_notice : mg "_law_a_notice" = some (.ref (He.ga K "_law_a_notice")) := c.glo X G (List.mem_of_getElem? (i := 29) rfl)
  obtain ⟨d_L_a_notice_made, F_L_a_notice_made⟩ := c.gF 19 (i := 39) (x := "_law_a_notice_made") rfl
  have b_L_a_notice_made : Binds K d_L_a_notice_made ["_law_stream", "_law_notice"] [] := F_L_a_notice_made.binds fun _ _ _ _ _ _ us hl => match us, hl with | [_, _], _ => rfl
  have g_L_a_notice_made : mg "_law_a_notice_made" = some (.ref (He.ga K "_law_a_notice_made")) := c.glo X G (List.mem_of_getElem? (i := 30) rfl)
  obtain ⟨d_L_a_spoiled, F_L_a_spoiled⟩ := c.gF 20 (i := 40) (x := "_law_a_spoiled") rfl
  have b_L_a_spoiled : Binds K d_L_a_spoiled ["_law_thing"] [] := F_L_a_spoiled.binds fun _ _ _ _ _ _ us hl => match us, hl with | [_], _ => rfl
  have g_L_a_spoiled : mg "_law_a_spoiled" = some (.ref (He.ga K "_law_a_spoiled")) := c.glo X G (List.mem_of_getElem? (i := 31) rfl)
  obtain ⟨d_L_start, F_L_start⟩ := c.gF 21 (i := 41) (x := "_law_start") rfl
  have b_L_start : Binds K d_L_start ["_law_script"] [] := F_L_start.binds fun _ _ _ _ _ _ us hl => match us, hl with | [_], _ => rfl
  have g_L_start : mg "_law_start" = some (.ref (He.ga K "_law_start")) := c.glo X G (List.mem_of_getElem? (i := 32) rfl)
  obtain ⟨d_L_draw, F_L_draw⟩ := c.gF 22 (i := 42) (x := "_law_draw") rfl
  have b_L_draw : Binds K d_L_draw ["_law_stream", "_law_many"] [] := F_L_draw.binds fun _ _ _ _ _ _ us hl => match us, hl with | [_, _], _ => rfl
  have g_L_draw : mg "_law_draw" = some (.ref (He.ga K "_law_draw")) := c.glo X G (List.mem_of_getElem? (i := 33) rfl)
  obtain ⟨d_L_pick, F_L_pick⟩ := c.gF 23 (i := 43) (x := "_law_pick") rfl
  have b_L_pick : Binds K d_L_pick ["_law_stream", "_law_some"] [] := F_L_pick.binds fun _ _ _ _ _ _ us hl => match us, hl with | [_, _], _ => rfl
  have g_L_pick : mg "_law_pick" = some (.ref (He.ga K "_law_pick")) := c.glo X G (List.mem_of_getElem? (i := 34) rfl)
  obtain ⟨d_L_mixed, F_L_mixed⟩ := c.gF 24 (i := 44) (x := "_law_mixed") rfl
  have b_L_mixed : Binds K d_L_mixed ["_law_stream", "_law_some"] [] := F_L_mixed.binds fun _ _ _ _ _ _ us hl => match us, hl with | [_, _], _ => rfl
  have g_L_mixed : mg "_law_mixed" = some (.ref (He.ga K "_law_mixed")) := c.glo X G (List.mem_of_getElem? (i := 35) rfl)
  obtain ⟨d_L_same, F_L_same⟩ := c.gF 25 (i := 45) (x := "_law_same") rfl
  have b_L_same : Binds K d_L_same ["_law_found", "_law_due"] [] := F_L_same.binds fun _ _ _ _ _ _ us hl => match us, hl with | [_, _], _ => rfl
  have g_L_same : mg "_law_same" = some (.ref (He.ga K "_law_same")) := c.glo X G (List.mem_of_getElem? (i := 36) rfl)
  obtain ⟨d_L_loose, F_L_loose⟩ := c.gF 26 (i := 46) (x := "_law_loose") rfl
  have b_L_loose : Binds K d_L_loose ["_law_stream", "_law_thing"] [] := F_L_loose.binds fun _ _ _ _ _ _ us hl => match us, hl with | [_, _], _ => rfl
  have g_L_loose : mg "_law_loose" = some (.ref (He.ga K "_law_loose")) := c.glo X G (List.mem_of_getElem? (i := 37) rfl)
  obtain ⟨d_L_met, F_L_met⟩ := c.gF 27 (i := 47) (x := "_law_met") rfl
  have b_L_met : Binds K d_L_met ["_law_ask"] [] := F_L_met.binds fun _ _ _ _ _ _ us hl => match us, hl with | [_], _ => rfl
  have g_L_met : mg "_law_met" = some (.ref (He.ga K "_law_met")) := c.glo X G (List.mem_of_getElem? (i := 38) rfl)
  obtain ⟨d_L_needs_due, F_L_needs_due⟩ := c.gF 28 (i := 48) (x := "_law_needs_due") rfl
  have b_L_needs_due : Binds K d_L_needs_due ["_law_rule", "_law_people", "_law_needs"] [] := F_L_needs_due.binds fun _ _ _ _ _ _ us hl => match us, hl with | [_, _, _], _ => rfl
  have g_L_needs_due : mg "_law_needs_due" = some (.ref (He.ga K "_law_needs_due")) := c.glo X G (List.mem_of_getElem? (i := 39) rfl)
  obtain ⟨d_L_told_right, F_L_told_right⟩ := c.gF 29 (i := 49) (x := "_law_told_right") rfl
  have b_L_told_right : Binds K d_L_told_right ["_law_stream", "_law_notice"] [] := F_L_told_right.binds fun _ _ _ _ _ _ us hl => match us, hl with | [_, _], _ => rfl
  have g_L_told_right : mg "_law_told_right" = some (.ref (He.ga K "_law_told_right")) := c.glo X G (List.mem_of_getElem? (i := 40) rfl)
  obtain ⟨d_L_odd_needs, F_L_odd_needs⟩ := c.gF 30 (i := 50) (x := "_law_odd_needs") rfl
  have b_L_odd_needs : Binds K d_L_odd_needs ["_law_stream", "_law_people", "_law_needs"] [] := F_L_odd_needs.binds fun _ _ _ _ _ _ us hl => match us, hl with | [_, _, _], _ => rfl
  have g_L_odd_needs : mg "_law_odd_needs" = some (.ref (He.ga K "_law_odd_needs")) := c.glo X G (List.mem_of_getElem? (i := 41) rfl)
  obtain ⟨d_L_refused_right, F_L_refused_right⟩ := c.gF 31 (i := 51) (x := "_law_refused_right") rfl
  have b_L_refused_right : Binds K d_L_refused_right ["_law_stream", "_law_notice"] [] := F_L_refused_right.binds fun _ _ _ _ _ _ us hl => match us, hl with | [_, _], _ => rfl
  have g_L_refused_right : mg "_law_refused_right" = some (.ref (He.ga K "_law_refused_right")) := c.glo X G (List.mem_of_getElem? (i := 42) rfl)
  obtain ⟨d_BadMarket, F_BadMarket⟩ := c.cF 33 (i := 2) (k := 0) (x := "BadMarket") (m := "__init__") (q := "BadMarket.__init__") rfl
  have b_BadMarket : Binds K d_BadMarket ["self", "thing"] [] := F_BadMarket.binds fun _ _ _ _ _ _ us hl => match us, hl with | [_, _], _ => rfl
  have x_BadMarket : ExX K mg "BadMarket" "thing" := Qf.one_of (c.glo X G (List.mem_of_getElem? (i := 1) rfl)) (c.one ("BadMarket", "thing") (List.mem_of_getElem? (i := 0) rfl))
  have G_BadMarket : FnOk Pg w K mg base CX0 1 (He.ma K (He.ga K "BadMarket") "__init__") d_BadMarket ["self", "thing"] (spI1 K "thing") := okI1 F_BadMarket scI2 rfl rfl rfl (by decide) (by decide)
  obtain ⟨d_BadNeeds, F_BadNeeds⟩ := c.cF 34 (i := 3) (k := 0) (x := "BadNeeds") (m := "__init__") (q := "BadNeeds.__init__") rfl
  have b_BadNeeds : Binds K d_BadNeeds ["self", "index"] [] := F_BadNeeds.binds fun _ _ _ _ _ _ us hl => match us, hl with | [_, _], _ => rfl
  have x_BadNeeds : ExX K mg "BadNeeds" "index" := Qf.one_of (c.glo X G (List.mem_of_getElem? (i := 2) rfl)) (c.one ("BadNeeds", "index") (List.mem_of_getElem? (i := 1) rfl))
  have G_BadNeeds : FnOk Pg w K mg base CX0 1 (He.ma K (He.ga K "BadNeeds") "__init__") d_BadNeeds ["self", "index"] (spI1 K "index") := okI1 F_BadNeeds scI3 rfl rfl rfl (by decide) (by decide)
  obtain ⟨d_BadPeople, F_BadPeople⟩ := c.cF 35 (i := 4) (k := 0) (x := "BadPeople") (m := "__init__") (q := "BadPeople.__init__") rfl
  have b_BadPeople : Binds K d_BadPeople ["self", "index"] [] := F_BadPeople.binds fun _ _ _ _ _ _ us hl => match us, hl with | [_, _], _ => rfl
  have x_BadPeople : ExX K mg "BadPeople" "index" := Qf.one_of (c.glo X G (List.mem_of_getElem? (i := 3) rfl)) (c.one ("BadPeople", "index") (List.mem_of_getElem? (i := 2) rfl))
  have G_BadPeople : FnOk Pg w K mg base CX0 1 (He.ma K (He.ga K "BadPeople") "__init__") d_BadPeople ["self", "index"] (spI1 K "index") := okI1 F_BadPeople scI4 rfl rfl rfl (by decide) (by decide)
  obtain ⟨d_BadRule, F_BadRule⟩ := c.cF 36 (i := 5) (k := 0) (x := "BadRule") (m := "__init__") (q := "BadRule.__init__") rfl
  have b_BadRule : Binds K d_BadRule ["self", "thing"] [] := F_BadRule.binds fun _ _ _ _ _ _ us hl => match us, hl with | [_, _], _ => rfl
  have x_BadRule : ExX K mg "BadRule" "thing" := Qf.one_of (c.glo X G (List.mem_of_getElem? (i := 4) rfl)) (c.one ("BadRule", "thing") (List.mem_of_getElem? (i := 3) rfl))
  have G_BadRule : FnOk Pg w K mg base CX0 1 (He.ma K (He.ga K "BadRule") "__init__") d_BadRule ["self", "thing"] (spI1 K "thing") := okI1 F_BadRule scI5 rfl rfl rfl (by decide) (by decide)
  obtain ⟨d_BadWishes, F_BadWishes⟩ := c.cF 37 (i := 6) (k := 0) (x := "BadWishes") (m := "__init__") (q := "BadWishes.__init__") rfl
  have b_BadWishes : Binds K d_BadWishes ["self", "thing"] [] := F_BadWishes.binds fun _ _ _ _ _ _ us hl => match us, hl with | [_, _], _ => rfl
  have x_BadWishes : ExX K mg "BadWishes" "thing" := Qf.one_of (c.glo X G (List.mem_of_getElem? (i := 5) rfl)) (c.one ("BadWishes", "thing") (List.mem_of_getElem? (i := 4) rfl))
  have G_BadWishes : FnOk Pg w K mg base CX0 1 (He.ma K (He.ga K "BadWishes") "__init__") d_BadWishes ["self", "thing"] (spI1 K "thing") := okI1 F_BadWishes scI6 rfl rfl rfl (by decide) (by decide)
  obtain ⟨d_M_init, F_M_init⟩ := c.cF 38 (i := 24) (k := 0) (x := "Market") (m := "__init__") (q := "Market.__init__") rfl
  have b_M_init : Binds K d_M_init ["self", "people", "wishes"] [] := F_M_init.binds fun _ _ _ _ _ _ us hl => match us, hl with | [_, _, _], _ => rfl
  obtain ⟨d_M_people, F_M_people⟩ := c.cF 39 (i := 24) (k := 1) (x := "Market") (m := "people") (q := "Market.people") rfl
  have b_M_people : Binds K d_M_people ["self"] [] := F_M_people.binds fun _ _ _ _ _ _ us hl => match us, hl with | [_], _ => rfl
  obtain ⟨d_M_wishes, F_M_wishes⟩ := c.cF 40 (i := 24) (k := 2) (x := "Market") (m := "wishes") (q := "Market.wishes") rfl
  have b_M_wishes : Binds K d_M_wishes ["self"] [] := F_M_wishes.binds fun _ _ _ _ _ _ us hl => match us, hl with | [_], _ => rfl
  obtain ⟨d_M_eq, F_M_eq⟩ := c.cF 41 (i := 24) (k := 4) (x := "Market") (m := "__eq__") (q := "Market.__eq__") rfl
  have b_M_eq : Binds K d_M_eq ["self", "other"] [] := F_M_eq.binds fun _ _ _ _ _ _ us hl => match us, hl with | [_, _], _ => rfl
  obtain ⟨d_N_init, F_N_init⟩ := c.cF 42 (i := 29) (k := 0) (x := "Notice") (m := "__init__") (q := "Notice.__init__") rfl
  have b_N_init : Binds K d_N_init ["self", "rule", "market", "needs"] [] := F_N_init.binds fun _ _ _ _ _ _ us hl => match us, hl with | [_, _, _, _], _ => rfl
  obtain ⟨d_N_rule, F_N_rule⟩ := c.cF 43 (i := 29) (k := 1) (x := "Notice") (m := "rule") (q := "Notice.rule") rfl
  have b_N_rule : Binds K d_N_rule ["self"] [] := F_N_rule.binds fun _ _ _ _ _ _ us hl => match us, hl with | [_], _ => rfl
  obtain ⟨d_N_market, F_N_market⟩ := c.cF 44 (i := 29) (k := 2) (x := "Notice") (m := "market") (q := "Notice.market") rfl
  have b_N_market : Binds K d_N_market ["self"] [] := F_N_market.binds fun _ _ _ _ _ _ us hl => match us, hl with | [_], _ => rfl
  obtain ⟨d_N_needs, F_N_needs⟩ := c.cF 45 (i := 29) (k := 3) (x := "Notice") (m := "needs") (q := "Notice.needs") rfl
  have b_N_needs : Binds K d_N_needs ["self"] [] := F_N_needs.binds fun _ _ _ _ _ _ us hl => match us, hl with | [_], _ => rfl
  obtain ⟨d_N_eq, F_N_eq⟩ := c.cF 46 (i := 29) (k := 4) (x := "Notice") (m := "__eq__") (q := "Notice.__eq__") rfl
  have b_N_eq : Binds K d_N_eq ["self", "other"] [] := F_N_eq.binds fun _ _ _ _ _ _ us hl => match us, hl with | [_, _], _ => rfl
  obtain ⟨C, RU⟩ := c.consts X G
  have gMk : mg "Market" = some (.ref (Mkt K)) := c.glo X G (List.mem_of_getElem? (i := 9) rfl)
  have gNt : mg "Notice" = some (.ref (Ntc K)) := c.glo X G (List.mem_of_getElem? (i := 10) rfl)
  obtain ⟨MC, mP, mW, MM⟩ := c.mkc
  obtain ⟨NC, nR, nM, nN, NM⟩ := c.ntc
  obtain ⟨⟨ME, MT, MQ⟩, ⟨NE, NQ⟩, NK⟩ := c.mke
  have t0 := TB (He.cT K ("are_unlike", none)) (List.mem_map.mpr ⟨_, List.mem_of_getElem? (i := 0) rfl, rfl⟩)
  have t1 := TB (He.cT K ("needs_fault", none)) (List.mem_map.mpr ⟨_, List.mem_of_getElem? (i := 1) rfl, rfl⟩)
  have t2 := TB (He.cT K ("_law_refused_right", none)) (List.mem_map.mpr ⟨_, List.mem_of_getElem? (i := 2) rfl, rfl⟩)
  have t3 := TB (He.cT K ("law", none)) (List.mem_map.mpr ⟨_, List.mem_of_getElem? (i := 3) rfl, rfl⟩)
  obtain ⟨n01, n02, n03, n12, n13, n23⟩ := c.ne
  have u0 : ∀ p ∈ TT K, p.1 = tP K "are_unlike" → p.2 = qUnl := fun p hp e => by
    simp only [List.mem_cons, List.not_mem_nil, or_false] at hp
    rcases hp with rfl | rfl | rfl | rfl
    · rfl
    · exact absurd e.symm n01
    · exact absurd e.symm n02
    · exact absurd e.symm n03
  have m0 : (tP K "are_unlike", qUnl) ∈ TT K := List.mem_of_getElem? (i := 0) rfl
  have u1 : ∀ p ∈ TT K, p.1 = tP K "needs_fault" → p.2 = qNf := fun p hp e => by
    simp only [List.mem_cons, List.not_mem_nil, or_false] at hp
    rcases hp with rfl | rfl | rfl | rfl
    · exact absurd e n01
    · rfl
    · exact absurd e.symm n12
    · exact absurd e.symm n13
  have m1 : (tP K "needs_fault", qNf) ∈ TT K := List.mem_of_getElem? (i := 1) rfl
  have u2 : ∀ p ∈ TT K, p.1 = tP K "_law_refused_right" → p.2 = qRef := fun p hp e => by
    simp only [List.mem_cons, List.not_mem_nil, or_false] at hp
    rcases hp with rfl | rfl | rfl | rfl
    · exact absurd e n02
    · exact absurd e n12
    · rfl
    · exact absurd e.symm n23
  have m2 : (tP K "_law_refused_right", qRef) ∈ TT K := List.mem_of_getElem? (i := 2) rfl
  have u3 : ∀ p ∈ TT K, p.1 = tP K "law" → p.2 = qLaw := fun p hp e => by
    simp only [List.mem_cons, List.not_mem_nil, or_false] at hp
    rcases hp with rfl | rfl | rfl | rfl
    · exact absurd e n03
    · exact absurd e n13
    · exact absurd e n23
    · rfl
  have m3 : (tP K "law", qLaw) ∈ TT K := List.mem_of_getElem? (i := 3) rfl
  -- the program
  have G1 : FnOk Pg w K mg base CX0 1 _ d_is_list _ _ := ok_isList F_is_list g_isinstance g_list g_tuple
  have G2 : FnOk Pg w K mg base CX0 1 _ d_is_one_of _ _ := ok_isOneT F_is_one_of g_isinstance g_str
  have G3 : FnOk Pg w K mg base CX0 2 _ d_is_name _ _ := ok_isName F_is_name F_begins_name b_begins_name g_begins_name C g_isinstance g_str g_len g_all
  have G4 : FnOk Pg w K mg base CX0 3 _ d_first_wrong _ _ := ok_fwN F_first_wrong G3 F_is_name.kp b_is_name g_isinstance g_str g_enumerate g_set
  have G5 : FnOk Pg w K mg base CX0 4 _ d_people_fault _ _ := ok_pf F_people_fault G1 F_is_list.kp b_is_list g_is_list G4 F_first_wrong.kp b_first_wrong g_first_wrong g_is_name
  have G6 : FnOk Pg w K mg base CX0 3 _ d_are_unlike _ _ := ok_unl (T := TT K) F_are_unlike rfl t0 m0 u0 G1 F_is_list.kp b_is_list g_is_list F_first_wrong b_first_wrong g_first_wrong g_isinstance g_str g_enumerate g_set
  have G7 : FnOk Pg w K mg base CX0 4 _ d_is_row _ _ := ok_row F_is_row G6 F_are_unlike.kp b_are_unlike g_are_unlike
  have G8 : FnOk Pg w K mg base CX0 5 _ d_are_rows _ _ := ok_rows F_are_rows G7 F_is_row.kp b_is_row g_is_row g_isinstance g_dict g_all
  have GI : FnOk Pg w K mg base (L2.CX Pg w) 6 (He.ma K (Mkt K) "__init__") d_M_init ["self", "people", "wishes"] (spInit K (TT K)) := ok_init (fB := 0) (fW := 0) F_M_init G5 F_people_fault.kp b_people_fault g_people_fault G8 F_are_rows.kp b_are_rows g_are_rows x_BadPeople G_BadPeople b_BadPeople x_BadWishes G_BadWishes b_BadWishes g_list g_sorted
  have GP : FnOk Pg w K mg base CX0 1 (He.ma K (Mkt K) "people") d_M_people ["self"] (spPeopleM (Mkt K)) := ok_people F_M_people MC g_list
  have GW : FnOk Pg w K mg base CX0 1 (He.ma K (Mkt K) "wishes") d_M_wishes ["self"] (spWishesM (Mkt K)) := ok_wishes F_M_wishes MC g_list
  have GE : FnOk Pg w K mg base CX0 1 (He.ma K (Mkt K) "__eq__") d_M_eq ["self", "other"] (spEqM K (Mkt K)) := ok_eq F_M_eq ME gMk g_isinstance
  have GC : FnOk Pg w K mg base (L2.CX Pg w) 3 _ d_check_market ["market"] (spChk K (Mkt K)) := ok_chk F_check_market ME gMk x_BadMarket G_BadMarket b_BadMarket g_isinstance
  have GF : FnOk Pg w K mg base CX0 3 _ d_needs_fault ["people", "needs"] (spNf K (TT K)) := ok_nf (T := TT K) F_needs_fault rfl t1 m1 u1 G1 F_is_list.kp b_is_list g_is_list F_first_wrong b_first_wrong g_first_wrong g_isinstance g_str g_enumerate g_set g_len
  have GNt : FnOk Pg w K mg base (L2.CX Pg w) 4 (He.ma K (Ntc K) "__init__") d_N_init ["self", "rule", "market", "needs"] (spNt K (TT K) (Mkt K)) := ok_nt F_N_init MC RU G2 F_is_one_of.kp b_is_one_of g_is_one_of GC F_check_market.kp b_check_market g_check_market GF F_needs_fault.kp b_needs_fault g_needs_fault GP mP b_M_people x_BadRule G_BadRule b_BadRule x_BadNeeds G_BadNeeds b_BadNeeds g_list
  have GNR : FnOk Pg w K mg base CX0 1 (He.ma K (Ntc K) "rule") d_N_rule ["self"] (spNRule (Ntc K)) := ok_nrule F_N_rule NC
  have GNN : FnOk Pg w K mg base CX0 1 (He.ma K (Ntc K) "needs") d_N_needs ["self"] (spNNeeds (Ntc K)) := ok_nneeds F_N_needs NC g_list
  have GNM : FnOk Pg w K mg base CX0 8 (He.ma K (Ntc K) "market") d_N_market ["self"] (spNMarket (TT K) (Mkt K) (Ntc K)) := ok_nmarket F_N_market NC MC MM gMk GI b_M_init GP mP b_M_people GW mW b_M_wishes
  have GNE : FnOk Pg w K mg base CX0 2 (He.ma K (Ntc K) "__eq__") d_N_eq ["self", "other"] (spEqN K (Mkt K) (Ntc K)) := ok_neq F_N_eq NE gNt ME MQ GE b_M_eq g_isinstance
  -- the law's own
  have D0 : FnOk Pg w K mg base CX0 1 _ d_L_draw _ _ := drawB (ok_draw F_L_draw g_int)
  have X0 : FnOk Pg w K mg base CX0 2 _ d_L_mixed _ _ := mixedB (ok_mixed F_L_mixed F_L_draw b_L_draw g_L_draw g_int g_list g_len g_range)
  have P0 : FnOk Pg w K mg base CX0 2 _ d_L_pick _ _ := ok_pick F_L_pick D0 F_L_draw.kp b_L_draw g_L_draw g_len
  have N0 : FnOk Pg w K mg base CX0 3 _ d_L_a_name _ _ := ok_name F_L_a_name P0 F_L_pick.kp b_L_pick g_L_pick g_str
  have N1 : FnOk Pg w K mg base CX0 4 _ d_L_a_names _ _ := ok_names F_L_a_names N0 F_L_a_name.kp b_L_a_name g_L_a_name g_range
  have A0 : FnOk Pg w K mg base CX0 3 _ d_L_a_rows _ _ := ok_aRows F_L_a_rows D0 F_L_draw.kp b_L_draw g_L_draw X0 F_L_mixed.kp b_L_mixed g_L_mixed g_len g_min
  have LL : ∀ n, FnOk Pg w K mg base CX0 (n + 2) _ d_L_loose _ (spLoose K n) := ok_loose F_L_loose b_L_loose g_L_loose D0 F_L_draw.kp b_L_draw g_L_draw g_isinstance g_list g_tuple
  have W0 : FnOk Pg w K mg base CX0 4 _ d_L_a_loose_wishes _ _ := ok_lw F_L_a_loose_wishes D0 F_L_draw.kp b_L_draw g_L_draw X0 F_L_mixed.kp b_L_mixed g_L_mixed (LL 1) F_L_loose.kp b_L_loose g_L_loose g_dict
  have S0 : ∀ n, FnOk Pg w K mg base CX0 (n + 3) _ d_L_same _ (spSame (Mkt K) n) := ok_same F_L_same b_L_same g_L_same GE b_M_eq ME MT g_isinstance g_list g_tuple g_dict g_int g_bool g_len g_all g_zip
  have Sp0 : ∀ n, FnOk Pg w K mg base CX0 (n + 2) _ d_L_a_spoiled _ (spSp n) := ok_sp F_L_a_spoiled b_L_a_spoiled g_L_a_spoiled g_isinstance g_list g_tuple g_dict
  have SpL : ∀ n, FnOk Pg w K mg base CX0 (n + 2) _ d_L_a_spoiled _ (spSpL n) := ok_spL F_L_a_spoiled b_L_a_spoiled g_L_a_spoiled g_isinstance g_list g_tuple g_dict
  have Ma : FnOk Pg w K mg base CX0 8 _ d_L_a_made _ (spMade K (TT K) (Mkt K)) := ok_made F_L_a_made MC MM gMk GI b_M_init (LL 1) F_L_loose.kp b_L_loose g_L_loose W0 F_L_a_loose_wishes.kp b_L_a_loose_wishes g_L_a_loose_wishes
  have St : FnOk Pg w K mg base CX0 1 _ d_L_start _ _ := ok_start F_L_start g_list
  have CD : Cl Pg w K mg base 1 "_law_draw" _ spDrawB := ⟨_, _, D0, F_L_draw.kp, b_L_draw, g_L_draw⟩
  have CK : Cl Pg w K mg base 2 "_law_pick" _ (spPick K) := ⟨_, _, P0, F_L_pick.kp, b_L_pick, g_L_pick⟩
  have CX_ : Cl Pg w K mg base 2 "_law_mixed" _ (spMixedB K) := ⟨_, _, X0, F_L_mixed.kp, b_L_mixed, g_L_mixed⟩
  have CS : ∀ n, Cl Pg w K mg base (n + 3) "_law_same" _ (spSame (Mkt K) n) := fun n => ⟨_, _, S0 n, F_L_same.kp, b_L_same, g_L_same⟩
  have CL : ∀ n, Cl Pg w K mg base (n + 2) "_law_loose" _ (spLoose K n) := fun n => ⟨_, _, LL n, F_L_loose.kp, b_L_loose, g_L_loose⟩
  have CA : Cl Pg w K mg base 8 "_law_a_made" _ (spMade K (TT K) (Mkt K)) := ⟨_, _, Ma, F_L_a_made.kp, b_L_a_made, g_L_a_made⟩
  have AN : FnOk Pg w K mg base CX0 3 _ d_L_a_needs _ (spANeeds K) := ok_aNeeds F_L_a_needs CX_
  have MU : FnOk Pg w K mg base CX0 4 _ d_L_a_mutual _ (spMut K) := ok_mut F_L_a_mutual CD CX_ g_dict g_enumerate
  have NO : FnOk Pg w K mg base CX0 5 _ d_L_a_notice _ (spANot K (TT K)) := ok_aNot F_L_a_notice CD CK ⟨_, _, N1, F_L_a_names.kp, b_L_a_names, g_L_a_names⟩ ⟨_, _, A0, F_L_a_rows.kp, b_L_a_rows, g_L_a_rows⟩ ⟨_, _, MU, F_L_a_mutual.kp, b_L_a_mutual, g_L_a_mutual⟩ ⟨_, _, AN, F_L_a_needs.kp, b_L_a_needs, g_L_a_needs⟩
  have NMd : FnOk Pg w K mg base CX0 9 _ d_L_a_notice_made _ (spANotM (TT K) (Mkt K) (Ntc K)) := ok_aNotM F_L_a_notice_made NC NM gNt GNt b_N_init CA (CL 1)
  have ND : FnOk Pg w K mg base CX0 1 _ d_L_needs_due _ (spNDue K) := ok_nDue F_L_needs_due g_isinstance g_list g_tuple g_str g_enumerate g_len
  have OD : FnOk Pg w K mg base CX0 2 _ d_L_odd_needs _ spOdd := ok_odd F_L_odd_needs CD g_len g_dict
  have TN : Mg.FnG Pg w K mg base 10 _ d_L_told_right _ (spTN (TT K)) := ok_tn F_L_told_right (c.mods hK) MC MM gMk ME MQ GI b_M_init GE b_M_eq GP mP b_M_people GW mW b_M_wishes NC NE NQ NM gNt GNt b_N_init (kb_nt F_N_init) GNE b_N_eq GNR nR b_N_rule GNN nN b_N_needs GNM nM b_N_market CA (CL 1) (CS 5) ⟨_, _, Sp0 3, F_L_a_spoiled.kp, b_L_a_spoiled, g_L_a_spoiled⟩ ⟨_, _, NMd, F_L_a_notice_made.kp, b_L_a_notice_made, g_L_a_notice_made⟩ g_repr g_len g_any
  have RE : FnOk Pg w K mg base CX0 12 _ d_L_refused_right _ (spRef (TT K)) := ok_ref F_L_refused_right rfl t2 m2 u2 F_L_met b_L_met g_L_met x_BadRule x_BadMarket x_BadNeeds c.exm MC MM gMk ME MT NK GI b_M_init NC NM gNt GNt b_N_init ⟨_, _, ND, F_L_needs_due.kp, b_L_needs_due, g_L_needs_due⟩ (CL 2) ⟨_, _, OD, F_L_odd_needs.kp, b_L_odd_needs, g_L_odd_needs⟩ (CS 8) ⟨_, _, SpL 3, F_L_a_spoiled.kp, b_L_a_spoiled, g_L_a_spoiled⟩
  exact ok_law F rfl t3 m3 u3 F_L_met b_L_met g_L_met x_BadRule x_BadMarket x_BadNeeds c.exm MC MM gMk GI b_M_init NC NM gNt GNt b_N_init TN F_L_told_right.kp b_L_told_right g_L_told_right ⟨_, _, St, F_L_start.kp, b_L_start, g_L_start⟩ CK ⟨_, _, NO, F_L_a_notice.kp, b_L_a_notice, g_L_a_notice⟩ ⟨_, _, RE, F_L_refused_right.kp, b_L_refused_right, g_L_refused_right⟩ (CS 8) g_range
theorem law_facts {P : Program} {w : World} {K : PySem.W.Frag} {h : Heap} {mg : Str → Option Value} {f : Addr} (X : K.In h) (G : h.Ns mainGlobals mg) (hfa : mg ("law" : Str) = some (.ref f)) (c : Says h K) :
    ∃ fd : FuncData, (∀ (s : Shared) (v : Value), BindsTo s fd ⟨[v], []⟩ [("_law_script", v)]) ∧
      ∀ base : Heap, K.In base → base.Ns mainGlobals mg → (∀ p ∈ tf.map (He.cT K), LamX.TabB base mg p.1 p.2) → Mg.FnG P w K mg base 13 f fd ["_law_script"] (spLaw K (TT K)) := by
  obtain ⟨fd, F0⟩ := c.def_ 32 (d := gD 52 "law") rfl
  have e := hfa.symm.trans (c.gloL X G)
  have e : f = He.ga K "law" := Value.ref.inj (Option.some.inj e)
  subst e
  have F : Fun K "law" "law" sLaw (He.ga K "law") fd := toFun F0
  have b := FunD.bindsA (ps := ["_law_script"]) F0 fun _ _ _ _ _ _ us hl => match us, hl with | [_], _ => rfl
  exact ⟨fd, fun s v => b s [v] rfl, fun base hK _ TB => law_goes c X G hK TB F⟩
end Qh
namespace Mg
open PySem PySem.Spec PyProof.Rows L2 LamX
/-- the law's promise at the heap behind the top, the tables of some code objects known -/
theorem law_goesT {P : Program} {w : World} {K : PySem.W.Frag} {mg mb : Str → Option Value} {k : Nat} {fa a : Addr} {cs : List (Addr × Addr)} {fd : FuncData} {x : Str} {sp : Sp} {s1 : Shared} {vs : List Value} {ns : List Int}
    (KX : K.In s1.heap) (hns : s1.heap.Ns mainGlobals mg) (hb : s1.heap.Ns builtinsNs mb) (hbb : ∀ x : Str, x ≠ "__name__" → mb x = bootBuiltins x)
    (hlim : s1.heap.NoLimit) (hg : s1.gens = #[])
    (hT : ∀ p ∈ cs, s1.heap.get? p.2 = some { cls := .none, data := .fields #[] }) (nT : ∀ p ∈ cs, K.lookup p.2 = none) (hC : ∀ p ∈ cs, PySem.W.CodeHd s1.heap p.1 p.2)
    (hbm : ∃ (bm : Addr) (ob : Obj), mg "__builtins__" = some (.ref bm) ∧ bm ≠ builtinsNs ∧ s1.heap.get? bm = some ob ∧ ob.cls = .type "module" ∧ ob.dict = some builtinsNs ∧ ob.data = .plain)
    (ha : s1.heap.get? a = some { cls := .type "list", data := .seq vs.toArray }) (hi : IntsAre vs ns)
    (hl : ns.length ≤ sizeLine) (hr : Room k callerA)
    (F : ∀ base : Heap, K.In base → base.Ns mainGlobals mg → (∀ p ∈ cs, TabB base mg p.1 p.2) → FnG P w K mg base k fa fd [x] sp)
    (hbind : ∀ (s : Shared) (u : Value), BindsTo s fd ⟨[u], []⟩ [(x, u)])
    (hsp : ∀ H : Hp, (∀ p ∈ cs, H p.2 = some (.tbl #[])) → SqL K H a (ns.map V.int) → sp [.ref a] H (fun v _ => v = .bl true) fun _ _ _ => False) :
    codeAny (model P w) callerA (.call (.ref fa) ⟨[.ref a], []⟩)
      (fun r s' => r = .ok (.ret (.bool true)) ∧ OldK s1.heap s'.heap ∧ s'.os = s1.os ∧ AllBare s'.gens) s1 := by
  have rv := vals_ints hi
  have lenV := hi.length
  have nil : ∀ b : Addr, b ∉ ([] : List Addr) := fun b => by simp
  have memT : ∀ p ∈ cs, p.2 ∈ cs.map (·.2) :=
    fun p hp => List.mem_map.mpr ⟨p, hp, rfl⟩
  have isT : ∀ b : Addr, b ∈ cs.map (·.2) → s1.heap.get? b = some { cls := .none, data := .fields #[] } := by
    intro b hb
    obtain ⟨p, hp, e⟩ := List.mem_map.mp hb
    subst e
    exact hT p hp
  have aT : a ∉ cs.map (·.2) := by
    intro z
    have q := isT a z
    rw [ha] at q
    have z' : Data.seq vs.toArray _ = Data.fields #[] := congrArg Obj.data (Option.some.inj q)
    cases z'
  have core : ∀ H : Hp, (∀ p ∈ cs, H p.2 = some (.tbl #[])) →
      (∀ b, H b = none ∨ b ∈ cs.map (·.2) ∨ ∃ o xs, H b = some (.frz o (.lst xs))) →
      SqL K H a (ns.map V.int) → HOk P w H s1.heap →
      (∀ b, H b ≠ none → b = a ∨ b ∈ cs.map (·.2)) → (H a ≠ none → K.lookup a = none) →
      codeAny (model P w) callerA (.call (.ref fa) ⟨[.ref a], []⟩)
        (fun r s' => r = .ok (.ret (.bool true)) ∧ OldK s1.heap s'.heap ∧ s'.os = s1.os ∧ AllBare s'.gens) s1 := by
    intro H hH hO hS hok hA hK
    have here : ∀ {b : Addr} {u : HO}, H b = some u → b = a ∨ b ∈ cs.map (·.2) :=
      fun {b u} q => hA b (by rw [q]; simp)
    have base_of : ∀ {b : Addr} {o : Obj}, s1.heap.get? b = some o → H b = none → (hidT s1.heap H).get? b = some o :=
      fun e n => hidT_get e n
    have noD : ∀ {b : Addr} {o : Obj}, s1.heap.get? b = some o → (∀ vs n, o.data ≠ .seq vs n) → o.data ≠ .fields #[] → H b = none := by
      intro b o e h1 h2
      cases q : H b with
      | none => rfl
      | some u =>
        rcases here q with e' | e'
        · subst e'
          rw [ha] at e
          cases e
          exact absurd rfl (h1 _ _)
        · rw [isT b e'] at e
          cases e
          exact absurd rfl h2
    have noA : ∀ {b : Addr} {o : Obj} {es : Array DictEntry} {ep : Nat},
        s1.heap.get? b = some o → o.data = .dict es ep → H b = none := by
      intro b o es ep e d
      refine noD e (fun vs n z => ?_) fun z => ?_ <;>
        (rw [d] at z; cases z)
    have nsK : ∀ {b : Addr} {m : Str → Option Value}, s1.heap.Ns b m → (hidT s1.heap H).Ns b m := by
      intro b m z
      obtain ⟨o, es, ep, e, d, r⟩ := z
      exact ⟨o, es, ep, base_of e (noA e d), d, r⟩
    have hKb : K.In (hidT s1.heap H) := by
      intro b o e
      refine base_of (KX b o e) ?_
      cases q : H b with
      | none => rfl
      | some u =>
        rcases here q with e' | e'
        · subst e'
          rw [hK (by rw [q]; simp)] at e
          cases e
        · obtain ⟨p, hp, ep⟩ := List.mem_map.mp e'
          subst ep
          rw [nT p hp] at e
          cases e
    obtain ⟨mc, lim1, lim2⟩ := hlim
    have hM : Mod K mg (hidT s1.heap H) :=
      ⟨hKb, nsK hns, ⟨mb, nsK hb, hbb⟩, ⟨mc, nsK lim1, lim2⟩⟩
    have TB : ∀ p ∈ cs, TabB (hidT s1.heap H) mg p.1 p.2 := by
      intro p hp
      have hTp := hT p hp
      refine ⟨?_, ?_, fun z => ?_⟩
      · obtain ⟨o, us, file, tf, flags, tg, inF, text, tt, e1, r1, r2, r3, r4, r5, r6, r7, r8, hne⟩ := hC p hp
        refine ⟨o, us, file, tf, flags, tg, inF, text, tt, base_of e1 (noD e1 (fun vs n z => ?_) fun z => ?_), r1, r2, r3, r4, r5, r6, r7, r8, hne⟩
        · rw [r2] at z
          cases z
        · rw [r2] at z
          cases z
          simp at r3
      · obtain ⟨bm, ob, b1, b2, b3, b4, b5, b6⟩ := hbm
        have nG : bm ≠ mainGlobals := by
          intro q
          obtain ⟨o, es, ep, e, hd, _⟩ := hns
          rw [q, e] at b3
          cases b3
          rw [hd] at b6
          cases b6
        have nP : bm ≠ p.2 := by
          intro q
          rw [q, hTp] at b3
          cases b3
          cases b6
        refine ⟨bm, ob, b1, b2, nG, nP, base_of b3 (noD b3 (fun vs n z => ?_) fun z => ?_), b4, b5, b6⟩ <;>
          (rw [b6] at z; cases z)
      · obtain ⟨o, es, ep, e, hd, _⟩ := hns
        rw [z, hTp] at e
        cases e
        cases hd
    have e0 : Env0 P w K mg (hidT s1.heap H) callerA [] s1 H :=
      ⟨rfl, hM, fun b o e => of_hidT e, Nat.le_of_eq (hidT_size _ _), trivial,
        fun b z => (nil b z).elim, hok, .of_eq hg⟩
    refine codeAny_mono ((F _ hKb (nsK hns) TB).goes callerA [] s1 H ⟨[.ref a], []⟩ [.ref a] [.ref a] _ _ rfl hr e0
      (hbind s1 (.ref a)) (.cons rfl .nil) (hsp H hH hS)) fun r s' h => ?_
    cases r with
    | error e => exact False.elim h
    | ok fl =>
      cases fl with
      | next => exact h.elim
      | brk => exact h.elim
      | cont => exact h.elim
      | ret u =>
        obtain ⟨v, H', os, bare, un, hok', r', q⟩ := h
        have q' : v = .bl true := q
        subst q'
        obtain rfl : u = Value.bool true := r'
        have key : ∀ b o, b ∉ cs.map (·.2) → s1.heap.get? b = some o → s'.heap.get? b = some o := by
          intro b o nb e
          cases q : H b with
          | none => exact un.keep b o e q (nil b) (by simp)
          | some u =>
            rcases hO b with z | z | ⟨ob, xs, z⟩
            · rw [q] at z
              cases z
            · exact absurd z nb
            · have z2 := un.frzs b ob _ z
              obtain ⟨e1, _⟩ := hok b _ z
              obtain ⟨e2, _⟩ := hok' b _ z2
              rw [e] at e1
              cases e1
              exact e2
        have grown : ∀ p ∈ cs, ∃ more : Array Value, s'.heap.get? p.2 = some { cls := .none, data := .fields more } := by
          intro p hp
          obtain ⟨more, z⟩ := un.tbls p.2 #[] (hH p hp)
          exact ⟨_, hok' p.2 _ z⟩
        refine ⟨rfl, ⟨fun b o e => ?_, fun b o e => ?_⟩, os, bare⟩
        · by_cases hb : b ∈ cs.map (·.2)
          · obtain ⟨p, hp, ep⟩ := List.mem_map.mp hb
            obtain ⟨more, hm⟩ := grown p hp
            subst ep
            rw [hT p hp] at e
            cases e
            exact .inr (.inl ⟨((hC p hp).tab (hT p hp)).isCodeTable, rfl, #[], more, rfl, by rw [Array.empty_append]; exact hm⟩)
          · exact .inl (key b o hb e)
        · by_cases hb : b ∈ cs.map (·.2)
          · obtain ⟨p, hp, ep⟩ := List.mem_map.mp hb
            obtain ⟨more, hm⟩ := grown p hp
            subst ep
            exact ⟨_, hm⟩
          · exact ⟨o, key b o hb e⟩
  cases hk : K.lookup a with
  | some o =>
    have e := KX a o hk
    rw [ha] at e
    cases e
    refine core (fun b => if b ∈ cs.map (·.2) then some (.tbl #[]) else none) (fun p hp => if_pos (memT p hp)) (fun b => ?_)
      (.inr ⟨_, vs.toArray, _, hk, rfl, rfl, rfl, by rw [List.size_toArray, lenV]; exact hl, by simpa using rv⟩)
      (fun b u z => ?_) (fun b z => ?_) fun z => absurd (show (if a ∈ cs.map (·.2) then some (HO.tbl #[]) else none) = none from if_neg aT) z
    · by_cases hb : b ∈ cs.map (·.2)
      · exact .inr (.inl hb)
      · exact .inl (if_neg hb)
    · by_cases hb : b ∈ cs.map (·.2)
      · have z' := (if_pos hb).symm.trans z
        cases z'
        exact isT b hb
      · have z' := (if_neg hb).symm.trans z
        cases z'
    · by_cases hb : b ∈ cs.map (·.2)
      · exact .inr hb
      · exact absurd (if_neg hb) z
  | none =>
    refine core (fun b => if b = a then some (.frz { cls := .type "list", data := .seq vs.toArray } (.lst (ns.map V.int))) else if b ∈ cs.map (·.2) then some (.tbl #[]) else none)
      (fun p hp => (if_neg (show ¬ p.2 = a from fun z => aT (by rw [← z]; exact memT p hp))).trans (if_pos (memT p hp))) (fun b => ?_)
      (.inl (.inr ⟨{ cls := .type "list", data := .seq vs.toArray }, if_pos rfl⟩)) (fun b u z => ?_) (fun b z => ?_) fun _ => hk
    · by_cases hb : b = a
      · exact .inr (.inr ⟨_, _, if_pos hb⟩)
      · by_cases hb2 : b ∈ cs.map (·.2)
        · exact .inr (.inl hb2)
        · exact .inl ((if_neg hb).trans (if_neg hb2))
    · by_cases hb : b = a
      · have z' := (if_pos hb).symm.trans z
        cases z'
        subst hb
        exact ⟨ha, by rw [List.length_map]; exact hl, vs, _, rv, ha⟩
      · have z1 := (if_neg hb).symm.trans z
        by_cases hb2 : b ∈ cs.map (·.2)
        · have z' := (if_pos hb2).symm.trans z1
          cases z'
          exact isT b hb2
        · have z' := (if_neg hb2).symm.trans z1
          cases z'
    · by_cases hb : b = a
      · exact .inl hb
      · by_cases hb2 : b ∈ cs.map (·.2)
        · exact .inr hb2
        · exact absurd ((if_neg hb).trans (if_neg hb2)) z
theorem walkT {l : PySem.W.OpenLaw} {n k : Nat} {q : Program} {loose : List Str} {XP : (Str → Option Value) → Heap → Prop} {YP : World → Heap → Prop} {d : DefRec} {x : Str}
    (hn : l.most = some n) (hn2 : n ≤ sizeLine) (hdf : d.params.defaults = []) (hr : Room k callerA)
    (F : ∀ (w : World) (mg : Str → Option Value) (fa : Addr) (h : Heap), YP w h → h.Ns mainGlobals mg → mg d.name = some (.ref fa) →
      ∃ (K : PySem.W.Frag) (fd : FuncData) (cs : List (Addr × Addr)) (sp : Sp), K.In h ∧ (∀ p ∈ cs, h.get? p.2 = some { cls := .none, data := .fields #[] }) ∧ (∀ p ∈ cs, K.lookup p.2 = none) ∧ (∀ p ∈ cs, PySem.W.CodeHd h p.1 p.2) ∧
        (∀ (s : Shared) (u : Value), BindsTo s fd ⟨[u], []⟩ [(x, u)]) ∧
        (∀ (H : Hp) (a : Addr) (ns : List Int), ns.length ≤ n → (∀ p ∈ cs, H p.2 = some (.tbl #[])) → SqL K H a (ns.map V.int) → sp [.ref a] H (fun v _ => v = .bl true) fun _ _ _ => False) ∧
        ∀ base : Heap, K.In base → base.Ns mainGlobals mg → (∀ p ∈ cs, TabB base mg p.1 p.2) → FnG l.prog w K mg base k fa fd [x] sp) :
    PySem.W.WalkO q loose XP YP l.row.toRowW d [] (fun f vs => PySem.call f vs) := by
  refine Att.attach_callB hn hdf fun w s0 s1 mg mb fa o pm cd doc a vs ns G Y ho hd hcd hmg hobj hints hlen hbits hg => ?_
  obtain ⟨K, fd, cs, sp, KX, hT, nT, hC, hb, hsp, hF⟩ := F w mg fa _ Y G.T.g hmg
  exact law_goesT KX G.T.g G.T.b G.T.builtins G.T.nolimit hg hT nT hC G.T.bmain hobj hints (Nat.le_trans hlen hn2) hr hF hb
    fun H hH hS => hsp H a ns hlen hH hS
end Mg
open PySem PySem.W PySem.Calls PyProof.Rows
theorem PySem.Challenge.cw_swaphouse_k02_whole_notices_holds : PySem.Challenge.rw_swaphouse_k02_whole_notices.Holds := by
  w_on; o_law
  refine HandSHeadRun.head_any (r := OpenLaw.row PySem.Challenge.rw_swaphouse_k02_whole_notices) (q := view (OpenLaw.row PySem.Challenge.rw_swaphouse_k02_whole_notices).prog [52]) (H := Qh.hk) (ob := Qh.ob) (M := 13000) (loose := Qh.loose) (d := HandSHeadRun.topDef (OpenLaw.row PySem.Challenge.rw_swaphouse_k02_whole_notices).prog 52) (kwd := []) Qh.ob_eq
    (by kernel_rfl) (fun s => by kernel_rfl) Qh.run (by kernel_rfl) (by kernel_rfl) (by kernel_rfl) (by rfl) (by first | assumption | decide +kernel) (by decide +kernel) ⟨rfl, rfl, rfl, rfl, rfl, by decide +kernel⟩ ?hw ?hc
  case hw => w_witness2
  case hc =>
    refine Mg.walkT (l := PySem.Challenge.rw_swaphouse_k02_whole_notices) (n := 63) (k := 13) (x := "_law_script") rfl (by decide) (by kernel_rfl) ⟨rfl, by decide, by decide⟩ ?F
    intro w mg fa h Y G hmg0
    obtain ⟨K, KX, c⟩ := Y
    have hmg : mg ("law" : PySem.Str) = some (.ref fa) := by
      have e : (HandSHeadRun.topDef (OpenLaw.row PySem.Challenge.rw_swaphouse_k02_whole_notices).prog 52).name = ("law" : PySem.Str) := by kernel_rfl
      rw [← e]
      exact hmg0
    obtain ⟨fd, hb, hF⟩ := Qh.law_facts (P := (PySem.Challenge.rw_swaphouse_k02_whole_notices).prog) (w := w) KX G hmg c
    refine ⟨K, fd, Qh.tf.map (He.cT K), _, KX, fun p hp => ?_, fun p hp => ?_, fun p hp => ?_, hb, fun H a ns hl hT hS => ?_, hF⟩
    · obtain ⟨q, hq, rfl⟩ := List.mem_map.mp hp
      exact c.e q hq
    · obtain ⟨q, hq, rfl⟩ := List.mem_map.mp hp
      exact (c.tab q hq).2
    · obtain ⟨q, hq, rfl⟩ := List.mem_map.mp hp
      exact codeHd_of_K KX (c.tab q hq).1
    · have m : ∀ i q, Qh.tf[i]? = some q → H (He.cT K q).2 = some (.tbl #[]) := fun i q e => hT _ (List.mem_map.mpr ⟨q, List.mem_of_getElem? e, rfl⟩)
      refine ⟨a, ns, rfl, hS, fun p hp => ?_, fun _ => rfl⟩
      simp only [List.mem_cons, List.not_mem_nil, or_false] at hp
      rcases hp with rfl | rfl | rfl | rfl
      · exact LamX.TabS.nil (m 0 _ rfl)
      · exact LamX.TabS.nil (m 1 _ rfl)
      · exact LamX.TabS.nil (m 2 _ rfl)
      · exact LamX.TabS.nil (m 3 _ rfl)
